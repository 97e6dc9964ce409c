/-
  Rows of things of some cells each: a whole one loaded from the middle of a row; what stands where; rows that are read, rows that a call owns.
-/
import Derived.Test.YtbajmbegkacbbaaNumR
import Derived.Laws.Rows
import Derived.Laws.Tables
import Derived.Deep.AppendLies
import Derived.BigQuiet
namespace Go.Proofs.Ytbajmbegkacbbaa
open Go.RowKit

section
variable {P : Program}
/-- A struct is loaded from the middle of a row. -/
theorem run_loadVar_at (w : World) (g off : Nat) (ty : TypeId) (cs : Array Value) (d : TypeDesc) (hg : ∀ j u, cs[j]? = some u → w.cell? ⟨g, off + j, none⟩ = some u)
    (hu : P.underlying ty = some d) (hd : (match d with | .struct _ | .array _ _ => true | _ => false) = true) (hi : (P.info? ty).map (·.size) = some cs.size) :
    (loadVar ty ⟨g, off, none⟩).run P w = .ok (.agg cs) w := by
  have hl : (loadCells ⟨g, off, none⟩ cs.toList.length).run P w = .ok cs.toList.toArray w :=
    run_loadCells_list (P := P) w ⟨g, off, none⟩ cs.toList (fun j v hv => by
      have hadd : (⟨g, off, none⟩ : Addr).add j = ⟨g, off + j, none⟩ := by unfold Addr.add; split <;> simp_all
      rw [hadd]
      exact hg j v (by simpa using hv))
  cases hq : P.info? ty with
  | none => simp [hq] at hi
  | some i =>
    have hs : i.size = cs.size := by simpa [hq] using hi
    have hagg : (isAgg ty).run P w = .ok true w := by
      unfold isAgg
      rw [Sem.run_bind, run_underlying hu w]
      cases d <;> simp_all
    simp only [Array.length_toList, Array.toArray_toList] at hl
    simp [loadVar, Sem.run_bind, hagg, sizeOf, typeInfo, hq, hs, hl]
theorem wp_load_at {o : Oper} {a : Act} {w : World} {K : Act → World → Prop} {Q : Exit → Act → World → Prop} (ty : TypeId) (x : Operand) (ho : o.op = .load ty x)
    (g off : Nat) (hx : a.eval x = .pointer (some ⟨g, off, none⟩)) (cs : Array Value) (d : TypeDesc) (hg : ∀ j u, cs[j]? = some u → w.cell? ⟨g, off + j, none⟩ = some u)
    (hu : P.underlying ty = some d) (hd : (match d with | .struct _ | .array _ _ => true | _ => false) = true) (hi : (P.info? ty).map (·.size) = some cs.size)
    (h : K (a.put o.dst (.agg cs)) w) : o.wp P a w K Q := by
  unfold Oper.wp execOp
  simp only [ho, hx, Instr.loadAt, Instr.sureAddr, Sem.run_bind, Sem.run_pure, Result.andThen_ok, run_loadVar_at w g off ty cs d hg hu hd hi]
  exact h
theorem wpList_load_at {ops : Array Oper} {rest : List Oper} {o : Oper} {a : Act} {w : World} {Q : Exit → Act → World → Prop} (hgd : o.guard = none) (ty : TypeId) (x : Operand) (ho : o.op = .load ty x)
    (g off : Nat) (hx : a.eval x = .pointer (some ⟨g, off, none⟩)) (cs : Array Value) (d : TypeDesc) (hg : ∀ j u, cs[j]? = some u → w.cell? ⟨g, off + j, none⟩ = some u)
    (hu : P.underlying ty = some d) (hd : (match d with | .struct _ | .array _ _ => true | _ => false) = true) (hi : (P.info? ty).map (·.size) = some cs.size)
    (h : wpList P ops Q rest (a.put o.dst (.agg cs)) w) : wpList P ops Q (o :: rest) a w :=
  wpList_plain hgd fun _ hK => wp_load_at ty x ho g off hx cs d hg hu hd hi (hK _ _ h)
theorem wpList_load_at_w {ops : Array Oper} {rest : List Oper} {o : Oper} {a : Act} {w : World} {Q : Exit → Act → World → Prop} (hw : Region.wanted o (yielded ops a.tmps) = true) (ty : TypeId) (x : Operand) (ho : o.op = .load ty x)
    (g off : Nat) (hx : a.eval x = .pointer (some ⟨g, off, none⟩)) (cs : Array Value) (d : TypeDesc) (hg : ∀ j u, cs[j]? = some u → w.cell? ⟨g, off + j, none⟩ = some u)
    (hu : P.underlying ty = some d) (hd : (match d with | .struct _ | .array _ _ => true | _ => false) = true) (hi : (P.info? ty).map (·.size) = some cs.size)
    (h : wpList P ops Q rest (a.put o.dst (.agg cs)) w) : wpList P ops Q (o :: rest) a w :=
  BigFrame.wpList_want hw fun _ hK => wp_load_at ty x ho g off hx cs d hg hu hd hi (hK _ _ h)
end

/-- Rows of things of n cells each, read. -/
theorem flatK_at {α : Type} (f : α → List Value) (n : Nat) (hf : ∀ x, (f x).length = n) (l : List α) (i : Nat) (h : i < l.length) (k : Nat) (hk : k < n) : (l.flatMap f)[i * n + k]? = (f l[i])[k]? := by
  induction l generalizing i with
  | nil => simp at h
  | cons x l ih =>
    rw [List.flatMap_cons]
    cases i with
    | zero => rw [Nat.zero_mul, Nat.zero_add, List.getElem?_append_left (by rw [hf]; exact hk)]; rfl
    | succ i =>
      have e : (i + 1) * n + k = n + (i * n + k) := by rw [Nat.add_mul]; omega
      rw [e, List.getElem?_append_right (by rw [hf]; omega), hf, Nat.add_sub_cancel_left]
      exact ih i (by simpa using h)
theorem flatK_len {α : Type} (f : α → List Value) (n : Nat) (hf : ∀ x, (f x).length = n) (l : List α) : (l.flatMap f).length = l.length * n := by
  induction l with
  | nil => simp
  | cons x l ih => rw [List.flatMap_cons, List.length_append, ih, hf, List.length_cons, Nat.add_mul]; omega

/-- Some things of n cells each, in a row that is not block b. -/
def RowIn {α : Type} (f : α → List Value) (b : Nat) (w : World) (A : Option Addr) (xs : List α) : Prop :=
  0 < xs.length → ∃ g off, A = some ⟨g, off, none⟩ ∧ g ≠ b ∧ (∀ j u, (xs.flatMap f)[j]? = some u → w.cell? ⟨g, off + j, none⟩ = some u)
section
variable {α : Type} {f : α → List Value} {b : Nat} {w w1 : World} {A : Option Addr} {xs : List α}
theorem RowIn.keep (h : RowIn f b w A xs) (hb : Below w.heap.size w w1) : RowIn f b w1 A xs := fun hn => by
  obtain ⟨g, off, hA, hg, hc⟩ := h hn
  exact ⟨g, off, hA, hg, fun j u hu => kept hb (hc j u hu)⟩
theorem RowIn.grown (h : RowIn f b w A xs) (hg : w.grownBy w1 (some b)) : RowIn f b w1 A xs := fun hn => by
  obtain ⟨g, off, hA, hgb, hc⟩ := h hn
  exact ⟨g, off, hA, hgb, fun j u hu => hg.cell (hc j u hu) (by simpa using hgb)⟩
theorem RowIn.nil : RowIn f b w A ([] : List α) := fun h => absurd h (Nat.lt_irrefl 0)
theorem RowIn.other {b' : Nat} {n : Nat} (hf : ∀ x, (f x).length = n) (hn0 : 0 < n) (h : RowIn f b w A xs) (hb : w.heap.size ≤ b') : RowIn f b' w A xs := fun hn => by
  obtain ⟨g, off, hA, _, hc⟩ := h hn
  have hl := flatK_len f n hf xs
  have hp : 0 < (xs.flatMap f).length := by rw [hl]; exact Nat.mul_pos hn hn0
  have hg := World.block_lt_of_cell? w _ (hc 0 _ (List.getElem?_eq_getElem hp))
  exact ⟨g, off, hA, by simp only [] at hg; omega, hc⟩
theorem RowIn.at {n : Nat} (hf : ∀ x, (f x).length = n) (h : RowIn f b w A xs) {i : Nat} (hi : i < xs.length) (d : α) :
    ∃ g off, A = some ⟨g, off, none⟩ ∧ g ≠ b ∧ ∀ j u, (f (xs.getD i d))[j]? = some u → w.cell? ⟨g, off + i * n + j, none⟩ = some u := by
  obtain ⟨g, off, hA, hg, hc⟩ := h (by omega)
  rw [at_k hi]
  refine ⟨g, off, hA, hg, fun j u hu => ?_⟩
  have hj : j < n := by have := (List.getElem?_eq_some_iff.1 hu).1; rwa [hf] at this
  rw [Nat.add_assoc]
  exact hc _ _ ((flatK_at f n hf xs i hi j hj).trans hu)
theorem RowIn.own {n base cap : Nat} {te : TypeId} (ho : w.ownsRow base te n (.slice A xs.length cap) xs.length (xs.flatMap f)) (hb : b < base ∨ w.heap.size ≤ b) : RowIn f b w A xs := fun hn => by
  rcases ho.2 with ⟨_, h0⟩ | ⟨g, cap', cur, hv, hbg, hg, _, _, _, ht⟩
  · omega
  · injection hv with hA
    have hlt := (Array.getElem?_eq_some_iff.1 hg).1
    refine ⟨g, 0, hA, by omega, fun j u hu => ?_⟩
    rw [Nat.zero_add, Lib.cell_of_heap hg, ← Array.getElem?_toList]
    rw [← ht, List.getElem?_take] at hu
    split at hu
    · exact hu
    · cases hu
end
theorem own_cap {w : World} {base size n c : Nat} {e : TypeId} {A : Option Addr} {xs : List Value} (h : w.ownsRow base e size (.slice A n c) n xs) : n ≤ c := by
  rcases h.2 with ⟨_, h0⟩ | ⟨_, _, _, hv, _, _, hle, _⟩
  · have := h.1; omega
  · injection hv with _ _ hc
    rw [hc]; exact hle
end Go.Proofs.Ytbajmbegkacbbaa
