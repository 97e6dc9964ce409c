/-
  Lanes (layer 17): the program's Assign, Chain, Count.
-/
import Derived.Test.YtmmhchhekmcihaaLanX
import Derived.Test.YtmmhchhekmcihaaShelf
import Derived.Test.YtmmhchhekmcihaaRowB
namespace Go.Proofs.Ytmmhchhekmcihaa
open Go.RowKit

theorem valE_ok {due : List Int} (h : valE due = 0) : due.length ≤ 200 ∧ ∀ x ∈ due, 0 ≤ x ∧ x ≤ 1048576 := by
  unfold valE at h
  split at h
  · exact absurd h (by decide)
  · split at h
    · rename_i h1 h2; exact ⟨by omega, h2⟩
    · exact absurd h (by decide)
/-- The lanes of the first k bags, and zeros. -/
def laneL (due : List Int) (k : Nat) : List Int := (List.range due.length).map fun i => if i < k then ((asgF due).getD i 0 : Int) else 0
theorem laneL_len (due : List Int) (k : Nat) : (laneL due k).length = due.length := by unfold laneL; rw [List.length_map, List.length_range]
theorem laneL_at {due : List Int} {k i : Nat} (h : i < due.length) : (laneL due k).getD i 0 = if i < k then ((asgF due).getD i 0 : Int) else 0 := by
  unfold laneL; rw [List.getD_eq_getElem?_getD, List.getElem?_map, List.getElem?_range h]; rfl
theorem laneL_zero (due : List Int) : laneL due 0 = List.replicate due.length 0 := by
  refine ext_getD (d := 0) (by rw [laneL_len, List.length_replicate]) fun i hi => ?_
  rw [laneL_len] at hi
  rw [laneL_at hi, if_neg (Nat.not_lt_zero _), List.getD_eq_getElem?_getD, List.getElem?_replicate, if_pos hi]; rfl
theorem laneL_step {due : List Int} {k : Nat} (hk : k < due.length) : (laneL due k).set k ((asgF due).getD k 0 : Int) = laneL due (k + 1) := by
  refine ext_getD (d := 0) (by rw [List.length_set, laneL_len, laneL_len]) fun i hi => ?_
  rw [List.length_set, laneL_len] at hi
  rw [getD_set (by rw [laneL_len]; exact hk), laneL_at hi, laneL_at hi]
  by_cases e : k = i
  · subst e; rw [if_pos rfl, if_pos (Nat.lt_succ_self _)]
  · rw [if_neg e]
    by_cases h : i < k
    · rw [if_pos h, if_pos (by omega)]
    · rw [if_neg h, if_neg (by omega)]
theorem laneL_all (due : List Int) : laneL due due.length = nI (asgF due) := by
  refine ext_getD (d := 0) (by rw [laneL_len, nI_len, asgF_len]) fun i hi => ?_
  rw [laneL_len] at hi
  rw [laneL_at hi, if_pos hi, nI_at (by rw [asgF_len]; exact hi)]
set_option maxHeartbeats 2000000 in
set_option maxRecDepth 100000 in
theorem pAssign_any (b : Nat) (due : List Int) (A : Option Addr) (c : Nat) (w : World) (hz : due.length ≤ 1000) (h : NumsIn b w A due) :
    Calls Try.prog 11 #[.slice A due.length c] w fun e w' => ∃ A' c', e = .returned (.tuple #[.slice A' (asgR due).length c', .int .i64 (valE due)]) ∧ GivesR w (asgR due) w' A' c' := by
  have HV := hide (val_any b due A c w (by omega) h)
  by_cases hv : valE due = 0
  · obtain ⟨v1, v2⟩ := valE_ok hv
    have HAs := hide (assign_any b due A c w v1 v2 h)
    have hr : asgR due = asgF due := if_pos hv
    have HL := hide (asgF_len due)
    have HP := hide (show ∀ k, (plF due k).1 = ((asgF due).getD k 0 : Int) from fun k => rfl)
    rw [hr]
    rw [hv] at HV ⊢
    have HV := hide (unhide HV)
    have hmk := smake due.length (by omega)
    clear hv hr v2 h hz
    go_enter Try.func11, Try.ntmps11
    go_wp2_with (first
      | (go_at_call 34; refine (unhide HV).mono ?_; rintro e w' ⟨rfl, rfl⟩)
      | (go_at_call 35; refine (unhide HAs).mono ?_; rintro e w1 ⟨rfl, hp1, hb1, hz1⟩; have HP1 := hide hp1; have HB1 := hide hb1; have HZ1 := hide hz1; clear hp1 hb1 hz1))
    clear hmk
    have H0 := hide (show RowB (w1.alloc (.cells (madeCells #[.int .i64 0] due.length) 3)) w1.heap.size (laneL due 0) ∧ Below w.heap.size w (w1.alloc (.cells (madeCells #[.int .i64 0] due.length) 3)) ∧ PlI (w1.alloc (.cells (madeCells #[.int .i64 0] due.length) 3)) w.heap.size due.length due.length (plF due) from
      ⟨by rw [laneL_zero]; exact RowB.zeros w1 _, below_new (unhide HB1) _, (unhide HP1).keep (below_new (Below.refl _ _) _)⟩)
    go_loopw [25] (fun s25 wr => ∃ k : Nat, k ≤ due.length ∧ s25 = .int .i64 k ∧ Hid (RowB wr w1.heap.size (laneL due k) ∧ Below w.heap.size w wr ∧ PlI wr w.heap.size due.length due.length (plF due))) (fun s25 _ => due.length - (intOf s25).toNat)
    case atStart => exact ⟨0, Nat.zero_le _, rfl, H0⟩
    case round =>
      obtain ⟨k, hk, rfl, HI⟩ := hrel
      obtain ⟨wo, rfl⟩ : ∃ wo : World, wo = wr := ⟨_, rfl⟩
      clear H0
      by_cases hlt : k < due.length
      · have kl : (k : Int) < (due.length : Int) := by omega
        have k0 : (0 : Int) ≤ (k : Int) := by omega
        obtain ⟨cur, p1, p2, p3⟩ := (unhide HI).2.2
        obtain ⟨q1, q2⟩ := p3 k hlt
        have HC := hide (show ∀ j u, (#[Value.int .i64 (plF due k).1, .int .i64 (plF due k).2] : Array Value)[j]? = some u → wo.cell? ⟨w.heap.size, k * 2 + j, none⟩ = some u from fun j u hu => by
          rw [Lib.cell_of_heap p1]
          match j with
          | 0 => rw [Nat.add_zero, q1]; exact hu
          | 1 => rw [q2]; exact hu
          | j + 2 => exact absurd hu (by simp))
        clear p1 p2 p3 q1 q2 cur
        obtain ⟨W2, hW2⟩ : ∃ W2 : World, wo.alloc (.cells #[.int .i64 (plF due k).1, .int .i64 (plF due k).2] 59) = W2 := ⟨_, rfl⟩
        have b2 : Below wo.heap.size wo W2 := by rw [← hW2]; exact below_new (Below.refl wo.heap.size wo) _
        have z0 : W2.cell? ⟨wo.heap.size, 0, none⟩ = some (.int .i64 (plF due k).1) := by rw [← hW2, Lib.cell_of_heap (heap_alloc_new wo _)]; rfl
        have r2 := (unhide HI).1.keep b2
        have r3 := r2.cell (k := k) (by rw [laneL_len]; exact hlt)
        have r4 := r2.frozen k
        have hZ := (unhide HI).1.lt
        have HR := hide (show RowB (W2.setCell ⟨w1.heap.size, k, none⟩ (.int .i64 (plF due k).1)) w1.heap.size (laneL due (k + 1)) ∧ Below w.heap.size w (W2.setCell ⟨w1.heap.size, k, none⟩ (.int .i64 (plF due k).1)) ∧ PlI (W2.setCell ⟨w1.heap.size, k, none⟩ (.int .i64 (plF due k).1)) w.heap.size due.length due.length (plF due) from
          ⟨by rw [← laneL_step hlt, ← unhide HP]; exact r2.put k _, below_put (onward (unhide HI).2.1 b2) (Nat.le_of_lt (unhide HZ1)) _ _, ((unhide HI).2.2.keep b2).far (Nat.ne_of_lt (unhide HZ1)) _⟩)
        generalize (plF due k).1 = x1 at HC z0 HR hW2
        generalize (plF due k).2 = x2 at HC hW2
        clear b2 r2
        go_wp2_with (refine wpList_load_at rfl _ _ rfl w.heap.size (k * 2) rfl #[.int .i64 x1, .int .i64 x2] _ (unhide HC) Try.underlying59 rfl (by kernel_rfl) ?_)
        go_roundw
        case rel => exact ⟨k + 1, by omega, by go_num, HR⟩
        case measure => simp [intOf]; omega
      · obtain rfl : k = due.length := by omega
        have kl : ¬ (due.length : Int) < (due.length : Int) := by omega
        go_wp2
        go_ret2
        refine ⟨_, _, by rw [unhide HL]; rfl, fun b' hb' => ?_, (unhide HI).2.1, Nat.le_of_eq (unhide HL)⟩
        have := (unhide HI).1
        rw [laneL_all] at this
        have hz1 := unhide HZ1
        exact this.nums (by have := this.lt; omega)
  · have hr : asgR due = [] := if_neg hv
    have q : (valE due != 0) = true := by rw [bne_iff_ne]; exact hv
    rw [hr]
    generalize valE due = v at *
    have HV := hide (unhide HV)
    clear hv hr h hz
    go_enter Try.func11, Try.ntmps11
    go_wp2_with (go_at_call 34; refine (unhide HV).mono ?_; rintro e w' ⟨rfl, rfl⟩)
    go_ret2
    exact ⟨none, 0, rfl, fun _ _ => NumsIn.nil _ _ _, Below.refl _ _, Nat.le_refl _⟩
end Go.Proofs.Ytmmhchhekmcihaa
