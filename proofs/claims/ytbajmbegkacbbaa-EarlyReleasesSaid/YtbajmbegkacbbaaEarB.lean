/-
  Early (layer 19): the program's heap of stored bags: its box and its row; the methods Less and Len.
-/
import Derived.Test.YtbajmbegkacbbaaEarA
import Derived.Test.YtbajmbegkacbbaaDelK
import Derived.Test.YtbajmbegkacbbaaRowX
import Derived.Test.YtbajmbegkacbbaaShelf
namespace Go.Proofs.Ytbajmbegkacbbaa
open Go.RowKit

/-- What lay there before, and one block that stays as it is. -/
structure Fr where
  w0 : World
  R : Option (Nat × Obj)
/-- A heap of stored bags: its box b and its row, both of base B or later; what lies below B is as in w0. -/
structure HpB (w0 : Fr) (B b : Nat) (w : World) (A : Option Addr) (c : Nat) (l : List Sb) : Prop where
  bel : Below B w0.w0 w
  len : l.length ≤ 1000
  box : w.heap[b]? = some (.cells #[.slice A l.length c] 39)
  row : w.ownsRow B 33 2 (.slice A l.length c) l.length (l.flatMap sbC)
  ne : ∀ q off, A = some ⟨q, off, none⟩ → q ≠ b
  bB : B ≤ b
  oth : ∀ g o, w0.R = some (g, o) → w.heap[g]? = some o ∧ g ≠ b ∧ ∀ q off, A = some ⟨q, off, none⟩ → q ≠ g
section
variable {w0 : Fr} {w w' : World} {B b c : Nat} {A : Option Addr} {l : List Sb}
theorem HpB.lt (h : HpB w0 B b w A c l) : b < w.heap.size := (Array.getElem?_eq_some_iff.1 h.box).1
theorem HpB.size (h : HpB w0 B b w A c l) : B ≤ w.heap.size := by have := h.lt; have := h.bB; omega
theorem HpB.below (h : HpB w0 B b w A c l) (hb : Below w.heap.size w w') : HpB w0 B b w' A c l :=
  ⟨h.bel.trans (hb.mono h.size), h.len, heap_below h.box hb, owns_later h.row hb, h.ne, h.bB, fun g o hg => ⟨heap_below (h.oth g o hg).1 hb, (h.oth g o hg).2⟩⟩
theorem HpB.cell (h : HpB w0 B b w A c l) : w.cell? ⟨b, 0, none⟩ = some (.slice A l.length c) := by rw [Lib.cell_of_heap h.box]; rfl
theorem HpB.at (h : HpB w0 B b w A c l) {i : Nat} (hi : i < l.length) : ∃ q, A = some ⟨q, 0, none⟩ ∧ w.cell? ⟨q, i * 2, none⟩ = some (.int .i64 (l.getD i (0, 0)).1) ∧ w.cell? ⟨q, i * 2 + 1, none⟩ = some (.int .i64 (l.getD i (0, 0)).2) := by
  rcases own_openS h.row with ⟨_, ⟨_, e, _, _⟩ | ⟨q, e, _, _, hc⟩⟩
  · omega
  · have hat := flatK_at sbC 2 sbC_len l i hi
    exact ⟨q, e, hc (i * 2) _ (by rw [at_k hi]; exact hat 0 (by omega)), hc (i * 2 + 1) _ (by rw [at_k hi]; exact hat 1 (by omega))⟩
end
def orF (a b : Int) : Int := if a = 0 then b else a
set_option maxRecDepth 100000 in
theorem or2_any (a b : Int) (g : Nat) (w : World) (h0 : w.cell? ⟨g, 0, none⟩ = some (.int .i64 a)) (h1 : w.cell? ⟨g, 1, none⟩ = some (.int .i64 b)) :
    Calls Try.prog 48 #[.slice (some ⟨g, 0, none⟩) 2 2] w fun e w' => e = .returned (.int .i64 (orF a b)) ∧ w = w' := by
  cases e0 : (a != 0) <;> cases e1 : (b != 0)
  all_goals
    go_enter Try.func48, Try.ntmps48
    go_wp2_with fail
    go_rounds 3
    go_ret
    refine ⟨ret_int ?_, rfl⟩
    simp only [bne_iff_ne, ne_eq, bne_eq_false_iff_eq] at e0 e1
    unfold orF
    simp [*]
theorem ccmpI_any (a b : Int) (w : World) : Calls Try.prog 49 #[.int .i64 a, .int .i64 b] w fun e w' => e = .returned (.int .i64 (Lib.compareInt a b)) ∧ w = w' :=
  (Try.cmp_Compare_int a b w).mono fun _ _ h => ⟨h.1, h.2.symm⟩
def ltS (x y : Sb) : Bool := decide (orF (Lib.compareInt x.2 y.2) (Lib.compareInt x.1 y.1) < 0)
set_option maxHeartbeats 1000000 in
set_option maxRecDepth 100000 in
theorem less_any (w0 : Fr) (B b : Nat) (w : World) (A : Option Addr) (c : Nat) (l : List Sb) (i j : Nat) (h : HpB w0 B b w A c l) (hi : i < l.length) (hj : j < l.length) :
    Calls Try.prog 46 #[.slice A l.length c, .int .i64 i, .int .i64 j] w fun e w' => e = .returned (.bool (ltS (l.getD i (0, 0)) (l.getD j (0, 0)))) ∧ HpB w0 B b w' A c l := by
  have HP := hide (fun w' => show Below w.heap.size w w' → HpB w0 B b w' A c l from h.below)
  obtain ⟨q, hA, a0, a1⟩ := h.at hi
  obtain ⟨q', hA', b0, b1⟩ := h.at hj
  rw [hA] at hA'
  injection hA' with hA'
  injection hA' with hA'
  subst hA'
  subst hA
  have iN : (i : Int) < (l.length : Int) := by omega
  have jN : (j : Int) < (l.length : Int) := by omega
  have i0 : (0 : Int) ≤ (i : Int) := by omega
  have j0 : (0 : Int) ≤ (j : Int) := by omega
  obtain ⟨x, hx⟩ : ∃ x, l.getD i (0, 0) = x := ⟨_, rfl⟩
  obtain ⟨y, hy⟩ : ∃ y, l.getD j (0, 0) = y := ⟨_, rfl⟩
  rw [hx] at a0 a1 ⊢
  rw [hy] at b0 b1 ⊢
  replace a0 := After.cell a0
  replace a1 := After.cell a1
  replace b0 := After.cell b0
  replace b1 := After.cell b1
  clear hx hy h hi hj
  generalize l.length = n at *
  go_enter Try.func46, Try.ntmps46
  go_wp2_with fail
  refine wp_region_after_tail 22 (by kernel_rfl) (by kernel_rfl) ?_
  simp only [List.take_succ_cons, List.take_zero, List.drop_succ_cons, List.drop_zero]
  repeat (go_big_quiet_step ((go_at_call 49; exact After.same (ccmpI_any _ _ _))))
  refine wpQuiet_nil ?_
  rintro _ ⟨t, rfl⟩
  have HB := hide (onward (Below.refl w.heap.size w) t.is)
  clear a0 a1 b0 b1
  go_wp2_with fail
  refine (or2_any (Lib.compareInt x.2 y.2) (Lib.compareInt x.1 y.1) (World.heap t.to).size _ (by simp [go_sem]) (by simp [go_sem])).mono ?_
  rintro e w2 ⟨rfl, rfl⟩
  go_wp2
  go_ret
  exact ⟨rfl, unhide HP _ (below_new (unhide HB) _)⟩
end Go.Proofs.Ytbajmbegkacbbaa
