/-
  Early (layer 19): the program's heap of stored bags: the methods Swap, Push and Pop.
-/
import Derived.Test.YtbajmbegkacbbaaEarB
namespace Go.Proofs.Ytbajmbegkacbbaa
open Go.RowKit

theorem flat_set {l : List Sb} {i : Nat} (x : Sb) (hi : i < l.length) : (l.flatMap sbC).take (i * 2) ++ sbC x ++ (l.flatMap sbC).drop (i * 2 + 2) = (l.set i x).flatMap sbC := by
  rw [(flat_take sbC 2 sbC_len l i (by omega)).1, show i * 2 + 2 = (i + 1) * 2 by omega, (flat_take sbC 2 sbC_len l (i + 1) (by omega)).2, List.set_eq_take_append_cons_drop, if_pos hi]
  simp
/-- An element written. -/
theorem HpB.put {w0 : Fr} {w : World} {B b c q i : Nat} {l : List Sb} (h : HpB w0 B b w (some ⟨q, 0, none⟩) c l) (hi : i < l.length) (x : Sb) : HpB w0 B b ((w.setCell ⟨q, i * 2, none⟩ (.int .i64 x.1)).setCell ⟨q, i * 2 + 1, none⟩ (.int .i64 x.2)) (some ⟨q, 0, none⟩) c (l.set i x) := by
  have hq := (h.row.lt q rfl).1
  have hne := h.ne q 0 rfl
  have ho := own_setCells (sbC x) (i * 2) w _ h.row (by rw [flatK_len sbC 2 sbC_len, sbC_len]; omega)
  rw [sbC_len, flat_set x hi] at ho
  refine ⟨(h.bel.setCell hq _).setCell hq _, by rw [List.length_set]; exact h.len, ?_, by rw [List.length_set]; exact ho, h.ne, h.bB, fun g o hg => ⟨?_, (h.oth g o hg).2⟩⟩
  · rw [List.length_set, Below.heap_setCell _ _ _ _ (Ne.symm hne), Below.heap_setCell _ _ _ _ (Ne.symm hne)]
    exact h.box
  · have hq2 := (h.oth g o hg).2.2 q 0 rfl
    rw [Below.heap_setCell _ _ _ _ (Ne.symm hq2), Below.heap_setCell _ _ _ _ (Ne.symm hq2)]
    exact (h.oth g o hg).1
theorem HpB.there {w0 : Fr} {w : World} {B b c q i : Nat} {l : List Sb} (h : HpB w0 B b w (some ⟨q, 0, none⟩) c l) (hi : i < l.length) : w.cell? ⟨q, i * 2, none⟩ = some (.int .i64 (l.getD i (0, 0)).1) ∧ w.cell? ⟨q, i * 2 + 1, none⟩ = some (.int .i64 (l.getD i (0, 0)).2) ∧ w.frozen? ⟨q, i * 2, none⟩ = false ∧ w.frozen? ⟨q, i * 2 + 1, none⟩ = false := by
  obtain ⟨q', hA', a0, a1⟩ := h.at hi
  injection hA' with hA'
  injection hA' with hA'
  subst hA'
  have hth := own_there h.row
  rw [flatK_len sbC 2 sbC_len] at hth
  exact ⟨a0, a1, (hth (i * 2) (by omega)).2, (hth (i * 2 + 1) (by omega)).2⟩
set_option maxHeartbeats 1000000 in
set_option maxRecDepth 100000 in
theorem swap_any (w0 : Fr) (B b : Nat) (w : World) (A : Option Addr) (c : Nat) (l : List Sb) (i j : Nat) (h : HpB w0 B b w A c l) (hi : i < l.length) (hj : j < l.length) :
    Calls Try.prog 47 #[.slice A l.length c, .int .i64 i, .int .i64 j] w fun e w' => e = .returned (.tuple #[]) ∧ HpB w0 B b w' A c (swG (0, 0) l i j) := by
  obtain ⟨q, hA, _, _⟩ := h.at hi
  subst hA
  have HR := hide ((h.put hi (l.getD j (0, 0))).put (by rw [List.length_set]; exact hj) (l.getD i (0, 0)))
  obtain ⟨a0, a1, f1, f2⟩ := h.there hi
  obtain ⟨b0, b1, f3, f4⟩ := h.there hj
  obtain ⟨d0, d1, _, _⟩ := (h.put hi (l.getD j (0, 0))).there (i := j) (by rw [List.length_set]; exact hj)
  generalize ((l.set i (l.getD j (0, 0))).getD j (0, 0)).1 = u0 at d0
  generalize ((l.set i (l.getD j (0, 0))).getD j (0, 0)).2 = u1 at d1
  have HW := hide (show ∀ w', HpB w0 B b w' (some ⟨q, 0, none⟩) c ((l.set i (l.getD j (0, 0))).set j (l.getD i (0, 0))) → HpB w0 B b w' (some ⟨q, 0, none⟩) c (swG (0, 0) l i j) from fun _ h => h)
  have iN : (i : Int) < (l.length : Int) := by omega
  have jN : (j : Int) < (l.length : Int) := by omega
  have i0 : (0 : Int) ≤ (i : Int) := by omega
  have j0 : (0 : Int) ≤ (j : Int) := by omega
  have mixed : Try.prog.follows .mixedOrders = true := by kernel_rfl
  clear h hi hj
  generalize l.getD i (0, 0) = x at *
  generalize l.getD j (0, 0) = y at *
  generalize l.length = n at *
  go_enter Try.func47, Try.ntmps47
  go_wp2_with fail
  go_big_region_o
  go_end0
  exact ⟨rfl, unhide HW _ ((unhide HR).below ⟨rfl, rfl, rfl, Nat.le_refl _, fun _ _ => rfl⟩)⟩
end Go.Proofs.Ytbajmbegkacbbaa
