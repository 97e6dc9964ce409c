/-
  Crane (layer 18): the laws' sanity check (awake).
-/
import Derived.Test.YtjgjgilpebeelaaCraC
namespace Go.Proofs.Ytjgjgilpebeelaa
open Go.RowKit

theorem jlit_in {b : Nat} {w : World} (l : List Jb) (h : w.heap.size ≠ b) : JbsIn b (w.alloc (.cells (l.flatMap jbC).toArray 39)) (some ⟨w.heap.size, 0, none⟩) l := fun _ =>
  ⟨w.heap.size, 0, rfl, h, fun j u hu => by rw [Nat.zero_add, Lib.cell_of_heap (heap_alloc_new w _), List.getElem?_toArray]; exact hu⟩
theorem ilit_in {b : Nat} {w : World} (l : List Int) (h : w.heap.size ≠ b) : NumsIn b (w.alloc (.cells (l.map (Value.int .i64)).toArray 3)) (some ⟨w.heap.size, 0, none⟩) l := fun _ =>
  ⟨w.heap.size, 0, rfl, h, fun i hi => by rw [Nat.zero_add, Lib.cell_of_heap (heap_alloc_new w _), List.getElem?_toArray, List.getElem?_map, List.getElem?_eq_getElem hi, at_k hi]; rfl⟩
abbrev exA : List Jb := [(0, 2), (1, 6)]
abbrev exB : List Jb := [(0, 2), (1, 5)]
theorem exA_by : IsBy exA [0, 1] := ⟨List.Perm.refl _, List.Pairwise.cons (fun x hx => by rw [List.mem_singleton.1 hx]; exact .inl (by decide)) (List.pairwise_singleton _ _)⟩
theorem exB_by : IsBy exB [0, 1] := ⟨List.Perm.refl _, List.Pairwise.cons (fun x hx => by rw [List.mem_singleton.1 hx]; exact .inl (by decide)) (List.pairwise_singleton _ _)⟩
theorem exA_plan : planE 0 exA = 0 ∧ planL 0 exA = [0, 1] :=
  plan_ok (by decide) exA_by (latI_end (fun j hj => by
    match j, hj with
    | 0, _ => decide
    | 1, _ => decide))
theorem exB_lat : latI 0 exB [0, 1] = 1 := latI_at (k := 1) (by decide) (fun j hj => by obtain rfl : j = 0 := by omega
                                                                                        decide) (by decide)
theorem exB_plan : planE 0 exB = 12 ∧ planL 0 exB = [] := plan_late (by decide) exB_by (by rw [exB_lat]; decide)
theorem exB_over : (ovL 0 exB).length = 2 := by
  obtain ⟨k, hk, h1, h2⟩ := over_ok (now := 0) (by decide) exB_by
  rw [exB_lat] at h1
  obtain rfl : k = 2 := by omega
  rw [h2]; rfl
set_option maxHeartbeats 2000000 in
set_option maxRecDepth 100000 in
theorem awake_any (w : World) : Calls Try.prog 8 #[] w fun e w' => e = .returned (.bool true) ∧ Below w.heap.size w w' := by
  have HPA := hide (fun (W : World) => plan_any (W.heap.size + 1) 0 exA (some ⟨W.heap.size, 0, none⟩) 2 _ (by decide) (jlit_in (w := W) exA (by omega)))
  rw [exA_plan.1, exA_plan.2] at HPA
  have HPA := hide (unhide HPA)
  have HPB := hide (fun (W : World) => plan_any (W.heap.size + 1) 0 exB (some ⟨W.heap.size, 0, none⟩) 2 _ (by decide) (jlit_in (w := W) exB (by omega)))
  rw [exB_plan.1, exB_plan.2] at HPB
  have HPB := hide (unhide HPB)
  have HOB := hide (fun (W : World) => over_any (W.heap.size + 1) 0 exB (some ⟨W.heap.size, 0, none⟩) 2 _ (by decide) (jlit_in (w := W) exB (by omega)))
  have HOL := hide exB_over
  have HCo := hide (fun (W : World) => cost_any 3 W)
  have HB0 := hide (Below.refl w.heap.size w)
  go_enter Try.func8, Try.ntmps8
  go_wp2_with fail
  refine ((unhide HPA) w).mono ?_
  rintro e w2 ⟨A2, c2, rfl, hn2, hb2, _⟩
  have HB2 := hide (onward (onward (unhide HB0) ((Below.refl w.heap.size w).alloc (Nat.le_refl _) _)) hb2)
  have HN2 := hide (hn2 w2.heap.size (.inr (Nat.le_refl _)))
  clear hn2 hb2
  go_wp2_with fail
  refine ((unhide HPB) w2).mono ?_
  rintro e w3 ⟨A3, c3, rfl, hn3, hb3, _⟩
  have b2 := (Below.refl w2.heap.size w2).alloc (Nat.le_refl _) (.cells (exB.flatMap jbC).toArray 39)
  have HB3 := hide (onward (onward (unhide HB2) b2) hb3)
  have HN3 := hide (((unhide HN2).keep b2).keep hb3)
  have HZ3 := hide (show w3.heap.size ≠ w2.heap.size by have := hb3.size; rw [World.size_alloc] at this; omega)
  clear hn3 hb3 b2 HN2 HB2
  go_wp2_with fail
  have b4 := (Below.refl w3.heap.size w3).alloc (Nat.le_refl _) (.cells (([0, 1] : List Int).map (Value.int .i64)).toArray 3)
  refine (kints_any w2.heap.size [0, 1] [0, 1] A2 (some ⟨w3.heap.size, 0, none⟩) c2 2 _ (by decide) ((unhide HN3).keep b4) (ilit_in (w := w3) [0, 1] (unhide HZ3))).mono ?_
  rw [show decide (([0, 1] : List Int) = [0, 1]) = true from rfl]
  rintro e w5 ⟨rfl, hb5⟩
  have HB5 := hide (onward (onward (unhide HB3) b4) hb5)
  clear b4 hb5 HB3 HN3
  go_wp2_with fail
  refine ((unhide HOB) w5).mono ?_
  rintro e w6 ⟨A6, c6, rfl, hn6, hb6, _⟩
  have HB6 := hide (onward (onward (unhide HB5) ((Below.refl w5.heap.size w5).alloc (Nat.le_refl _) _)) hb6)
  rw [unhide HOL]
  clear hn6 hb6 HB5
  go_wp2_with (go_at_call 20; refine (unhide HCo _).mono ?_; rintro e w' ⟨rfl, rfl⟩)
  go_ret
  exact ⟨rfl, unhide HB6⟩
end Go.Proofs.Ytjgjgilpebeelaa
