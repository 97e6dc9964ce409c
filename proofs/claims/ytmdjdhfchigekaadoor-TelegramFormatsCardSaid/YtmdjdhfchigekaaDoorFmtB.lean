/-
  TelegramFormats: append([]Element{}, elements...): the copy is a row of its own.
-/
import Derived.Test.YtmdjdhfchigekaaDoorFmtA
namespace Go.Proofs.YtmdjdhfchigekaaDoor
open Go.RowKit

theorem run_copy {H e n c : Nat} {A : Option Addr} {xs : List ElS} (w : World) (hn : xs.length = n) (hn4 : n ≤ 1000) (hb : H ≤ w.heap.size)
    (hown : w.ownsRow H 34 2 (.slice (some ⟨e, 0, none⟩) 0 0) 0 []) (hsrc : 0 < n → ∃ g off, A = some ⟨g, off, none⟩ ∧ ∀ j u, (xs.flatMap elCells)[j]? = some u → w.cell? ⟨g, off + j, none⟩ = some u) :
    ∃ A' c' w', (Builtin.append_ #[22, 22] 22 #[.slice (some ⟨e, 0, none⟩) 0 0, .slice A n c]).run Tryd.prog w = .ok (.slice A' n c') w' ∧ w'.ownsRow H 34 2 (.slice A' n c') n (xs.flatMap elCells) ∧ w.grownBy w' (some e) := by
  obtain ⟨i2, ki, kz0, kz1, kz2⟩ := info_parts info_el
  have hl : (xs.flatMap elCells).length = n * 2 := by rw [elCells_length, hn]
  have hone : ∀ u ∈ xs.flatMap elCells, u.oneCell' = true := fun u hu => by
    obtain ⟨x, _, hx⟩ := List.mem_flatMap.1 hu
    unfold elCells at hx
    simp at hx
    rcases hx with rfl | rfl <;> rfl
  by_cases h0 : 0 < n
  · obtain ⟨g, off, rfl, hc⟩ := hsrc h0
    have hadd : ∀ j, (⟨g, off, none⟩ : Addr).add j = ⟨g, off + j, none⟩ := fun j => by unfold Addr.add; split <;> simp_all
    obtain ⟨g', cap, w', hr, h2, h3, _, _⟩ := run_append_lies (P := Tryd.prog) w 22 22 H 34 i2 (.agg #[.string ByteArray.empty, .slice none 0 0]) 2 40 Tryd.underlying22 ki kz0 kz1 kz2 rfl (by decide) _ 0 [] hown ⟨g, off, none⟩ n c (xs.flatMap elCells) hl (fun j u hu => by rw [hadd]; exact hc j u hu) hone h0 (by unfold maxLen; omega) (by omega) hb _ rfl
    rw [Nat.zero_add] at hr h2
    rw [List.nil_append] at h2
    exact ⟨_, _, w', hr, h2, h3⟩
  · have hn0 : n = 0 := by omega
    subst hn0
    have hx : xs = [] := List.eq_nil_of_length_eq_zero hn
    subst hx
    have hsrc' : Go.Src Tryd.prog i2.size 22 (.slice A 0 c) 0 [] w := by
      cases A with
      | none => exact Go.Src.ofNil w Tryd.underlying22 c
      | some a => exact Go.Src.ofSlice w Tryd.underlying22 a 0 c [] (by simp) (fun _ _ h => by cases h) (fun _ h => by cases h)
    have hr := run_append_room_src (P := Tryd.prog) w 22 22 22 34 i2 Tryd.underlying22 ki e 0 0 0 (.slice A 0 c) 0 [] hsrc' (by omega) (fun _ h => absurd h (by simp)) (fun _ h => absurd h (by simp))
    exact ⟨_, _, _, hr, hown, World.grownBy.refl _ _⟩

theorem wpList_copy {H e n c : Nat} {A : Option Addr} {xs : List ElS} {w : World} {ops : Array Oper} {rest : List Oper} {o : Oper} {a : Act} {Q : Exit → Act → World → Prop} (hgd : o.guard = none) (s x : Operand)
    (ho : o.op = .call { callee := .builtin .append, args := #[s, x], argTypes := #[22, 22] }) (hty : o.type = 22)
    (hs : a.eval s = .slice (some ⟨e, 0, none⟩) 0 0) (hx : a.eval x = .slice A n c) (hn : xs.length = n) (hn4 : n ≤ 1000) (hb : H ≤ w.heap.size)
    (hown : w.ownsRow H 34 2 (.slice (some ⟨e, 0, none⟩) 0 0) 0 []) (hsrc : 0 < n → ∃ g off, A = some ⟨g, off, none⟩ ∧ ∀ j u, (xs.flatMap elCells)[j]? = some u → w.cell? ⟨g, off + j, none⟩ = some u)
    (h : ∀ A' c' w', w'.ownsRow H 34 2 (.slice A' n c') n (xs.flatMap elCells) → w.grownBy w' (some e) → wpList Tryd.prog ops Q rest (a.put o.dst (.slice A' n c')) w') : wpList Tryd.prog ops Q (o :: rest) a w := by
  refine wpList_plain hgd fun K hK => ?_
  obtain ⟨A', c', w', hr, h2, h3⟩ := run_copy (c := c) w hn hn4 hb hown hsrc
  unfold Oper.wp execOp
  simp only [ho, hty, resolve, invoke, builtin, Sem.run_bind, Sem.run_pure, Result.andThen_ok, List.map_toArray, List.map_cons, List.map_nil, hs, hx, hr]
  exact hK _ _ (h A' c' w' h2 h3)
end Go.Proofs.YtmdjdhfchigekaaDoor
