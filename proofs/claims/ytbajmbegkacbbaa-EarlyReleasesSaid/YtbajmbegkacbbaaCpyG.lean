/-
  append([]T{}, x...): the copy of a slice that came in is a row of the call's own.
-/
import Derived.Test.YtbajmbegkacbbaaNumR
import Derived.Deep.Slices
import Derived.Deep.AppendLies
import Derived.Deep.AppendSrc
import Derived.ArgAppend
namespace Go.Proofs.Ytbajmbegkacbbaa
open Go.RowKit

/-- append([]T{}, x...): the copy is a row of its own. -/
theorem run_copyG {H e n c size bytes : Nat} {A : Option Addr} {ts te : TypeId} {xs : List Value} {i : TypeInfo} {z : Value} (w : World) (hu : Try.prog.underlying ts = some (.slice te)) (ki : Try.prog.info? te = some i) (kz0 : i.zero = some z) (kz1 : i.size = size) (kz2 : i.bytes = bytes) (hzs : z.cells.size = size) (hsz : 0 < size)
    (hl : xs.length = n * size) (hn4 : n ≤ maxLen) (hby : n * bytes ≤ 140737488355328) (hone : ∀ u ∈ xs, u.oneCell' = true) (hb : H ≤ w.heap.size)
    (hown : w.ownsRow H te size (.slice (some ⟨e, 0, none⟩) 0 0) 0 []) (hsrc : 0 < n → ∃ g off, A = some ⟨g, off, none⟩ ∧ ∀ j u, xs[j]? = some u → w.cell? ⟨g, off + j, none⟩ = some u) :
    ∃ A' c' w', (Builtin.append_ #[ts, ts] ts #[.slice (some ⟨e, 0, none⟩) 0 0, .slice A n c]).run Try.prog w = .ok (.slice A' n c') w' ∧ w'.ownsRow H te size (.slice A' n c') n xs ∧ w.grownBy w' (some e) := by
  by_cases h0 : 0 < n
  · obtain ⟨g, off, rfl, hc⟩ := hsrc h0
    have hadd : ∀ j, (⟨g, off, none⟩ : Addr).add j = ⟨g, off + j, none⟩ := fun j => by unfold Addr.add; split <;> simp_all
    obtain ⟨g', cap, w', hr, h2, h3, _, _⟩ := run_append_lies (P := Try.prog) w ts ts H te i z size bytes hu ki kz0 kz1 kz2 hzs hsz _ 0 [] hown ⟨g, off, none⟩ n c xs hl (fun j u hu => by rw [hadd]; exact hc j u hu) hone h0 (by omega) (by rw [Nat.zero_add]; exact hby) hb _ rfl
    rw [Nat.zero_add] at hr h2
    rw [List.nil_append] at h2
    exact ⟨_, _, w', hr, h2, h3⟩
  · have hn0 : n = 0 := by omega
    subst hn0
    have hx : xs = [] := List.eq_nil_of_length_eq_zero (by omega)
    subst hx
    have hsrc' : Go.Src Try.prog i.size ts (.slice A 0 c) 0 [] w := by
      cases A with
      | none => exact Go.Src.ofNil w hu c
      | some a => exact Go.Src.ofSlice w hu a 0 c [] (by simp) (fun _ _ h => by cases h) (fun _ h => by cases h)
    have hr := run_append_room_src (P := Try.prog) w ts ts ts te i hu ki e 0 0 0 (.slice A 0 c) 0 [] hsrc' (by omega) (fun _ h => absurd h (by simp)) (fun _ h => absurd h (by simp))
    exact ⟨_, _, _, hr, hown, World.grownBy.refl _ _⟩
theorem wpList_copyG {H e n c size bytes : Nat} {A : Option Addr} {ts te : TypeId} {xs : List Value} {i : TypeInfo} {z : Value} {w : World} {ops : Array Oper} {rest : List Oper} {o : Oper} {a : Act} {Q : Exit → Act → World → Prop} (hgd : o.guard = none) (s x : Operand)
    (ho : o.op = .call { callee := .builtin .append, args := #[s, x], argTypes := #[ts, ts] }) (hty : o.type = ts) (hs : a.eval s = .slice (some ⟨e, 0, none⟩) 0 0) (hx : a.eval x = .slice A n c)
    (hu : Try.prog.underlying ts = some (.slice te)) (ki : Try.prog.info? te = some i) (kz0 : i.zero = some z) (kz1 : i.size = size) (kz2 : i.bytes = bytes) (hzs : z.cells.size = size) (hsz : 0 < size)
    (hl : xs.length = n * size) (hn4 : n ≤ maxLen) (hby : n * bytes ≤ 140737488355328) (hone : ∀ u ∈ xs, u.oneCell' = true) (hb : H ≤ w.heap.size)
    (hown : w.ownsRow H te size (.slice (some ⟨e, 0, none⟩) 0 0) 0 []) (hsrc : 0 < n → ∃ g off, A = some ⟨g, off, none⟩ ∧ ∀ j u, xs[j]? = some u → w.cell? ⟨g, off + j, none⟩ = some u)
    (h : ∀ A' c' w', w'.ownsRow H te size (.slice A' n c') n xs → w.grownBy w' (some e) → wpList Try.prog ops Q rest (a.put o.dst (.slice A' n c')) w') : wpList Try.prog ops Q (o :: rest) a w := by
  refine wpList_plain hgd fun K hK => ?_
  obtain ⟨A', c', w', hr, h2, h3⟩ := run_copyG (c := c) w hu ki kz0 kz1 kz2 hzs hsz hl hn4 hby hone hb hown hsrc
  unfold Oper.wp execOp
  simp only [ho, hty, resolve, invoke, builtin, Sem.run_bind, Sem.run_pure, Result.andThen_ok, List.map_toArray, List.map_cons, List.map_nil, hs, hx, hr]
  exact hK _ _ (h A' c' w' h2 h3)
end Go.Proofs.Ytbajmbegkacbbaa
