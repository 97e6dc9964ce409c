/-
  Early (layer 19): the laws' sanity check (awake).
-/
import Derived.Test.YtbajmbegkacbbaaEarO
import Derived.Test.YtbajmbegkacbbaaEarQ
namespace Go.Proofs.Ytbajmbegkacbbaa
open Go.RowKit

theorem slit_in {b : Nat} {w : World} (l : List Sb) (h : w.heap.size ≠ b) : SbIn b (w.alloc (.cells (l.flatMap sbC).toArray 33)) (some ⟨w.heap.size, 0, none⟩) l := fun _ =>
  ⟨w.heap.size, 0, rfl, h, fun j u hu => by rw [Nat.zero_add, Lib.cell_of_heap (heap_alloc_new w _), List.getElem?_toArray]; exact hu⟩
theorem ilit_in {b : Nat} {w : World} (l : List Int) (h : w.heap.size ≠ b) : NumsIn b (w.alloc (.cells (l.map (Value.int .i64)).toArray 3)) (some ⟨w.heap.size, 0, none⟩) l := fun _ =>
  ⟨w.heap.size, 0, rfl, h, fun i hi => by rw [Nat.zero_add, Lib.cell_of_heap (heap_alloc_new w _), List.getElem?_toArray, List.getElem?_map, List.getElem?_eq_getElem hi, at_k hi]; rfl⟩
abbrev exS : List Sb := [(3, 20), (2, 20), (1, 25)]
theorem exS_rk : rkL exS = [(2, 20), (3, 20), (1, 25)] := (IsRk.rk ⟨by decide, by
  refine .cons (fun y hy => ?_) (.cons (fun y hy => ?_) (List.pairwise_singleton _ _))
  · simp only [List.mem_cons, List.not_mem_nil, or_false] at hy
    rcases hy with rfl | rfl <;> (unfold leS; decide)
  · simp only [List.mem_cons, List.not_mem_nil, or_false] at hy
    subst hy
    unfold leS; decide⟩).symm
theorem exS_ranks : rnkI exS = [2, 3, 1] := by unfold rnkI; rw [exS_rk]; rfl
theorem exS_20 : nxtI exS 20 = 2 := by rw [nxtI_cons exS_rk]; rfl
theorem exS_19 : nxtI exS 19 = 0 := by rw [nxtI_cons exS_rk]; rfl
set_option maxHeartbeats 2000000 in
set_option maxRecDepth 100000 in
theorem awake_any (w : World) : Calls Try.prog 6 #[] w fun e w' => e = .returned (.bool true) ∧ Below w.heap.size w w' := by
  have HA := hide (fun (W : World) => hold_any 10 30 15 4 W)
  rw [show hldB 10 30 15 4 = true by decide] at HA
  have HB := hide (fun (W : World) => hold_any 10 30 15 5 W)
  rw [show hldB 10 30 15 5 = false by decide] at HB
  obtain ⟨W0, hW0⟩ : ∃ W0 : World, w.alloc (.cells #[.int .i64 3, .int .i64 20, .int .i64 2, .int .i64 20, .int .i64 1, .int .i64 25] 33) = W0 := ⟨_, rfl⟩
  have hb0 := (Below.refl w.heap.size w).alloc (Nat.le_refl _) (.cells #[.int .i64 3, .int .i64 20, .int .i64 2, .int .i64 20, .int .i64 1, .int .i64 25] 33)
  have hi0 : SbIn (w.heap.size + 1) W0 (some ⟨w.heap.size, 0, none⟩) exS := by rw [← hW0]; exact slit_in (w := w) exS (by omega)
  rw [hW0] at hb0
  have HB0 := hide hb0
  have HN1 := hide (show ∀ W, Below W0.heap.size W0 W → Calls Try.prog 14 #[.slice (some ⟨w.heap.size, 0, none⟩) 3 3, .int .i64 20] W fun e w' => e = .returned (.int .i64 2) ∧ Below W.heap.size W w' from fun W hW => by
    have := next_any (w.heap.size + 1) exS (some ⟨w.heap.size, 0, none⟩) 3 20 W (by decide) (hi0.keep hW)
    rw [exS_20] at this
    exact this)
  have HN2 := hide (show ∀ W, Below W0.heap.size W0 W → Calls Try.prog 14 #[.slice (some ⟨w.heap.size, 0, none⟩) 3 3, .int .i64 19] W fun e w' => e = .returned (.int .i64 0) ∧ Below W.heap.size W w' from fun W hW => by
    have := next_any (w.heap.size + 1) exS (some ⟨w.heap.size, 0, none⟩) 3 19 W (by decide) (hi0.keep hW)
    rw [exS_19] at this
    exact this)
  have HRk := hide (show ∀ W, Below W0.heap.size W0 W → Calls Try.prog 12 #[.slice (some ⟨w.heap.size, 0, none⟩) 3 3] W (GivR W [2, 3, 1]) from fun W hW => by
    have := rank_any (w.heap.size + 1) exS (some ⟨w.heap.size, 0, none⟩) 3 W (by decide) (hi0.keep hW)
    rw [exS_ranks] at this
    exact this)
  clear hi0 hb0
  go_enter Try.func6, Try.ntmps6
  go_upto_region 2 with fail
  clear hW0
  go_wp2_with (first
    | (go_at_call 9; refine (unhide HA _).mono ?_; rintro e w1 ⟨rfl, rfl⟩; clear HA)
    | (go_at_call 9; refine (unhide HB _).mono ?_; rintro e w1 ⟨rfl, rfl⟩; clear HB))
  refine (unhide HN1 W0 (Below.refl _ _)).mono ?_
  rintro e w1 ⟨rfl, hb1⟩
  have HB1 := hide hb1
  clear hb1 HN1
  go_wp2_with fail
  refine (unhide HN2 w1 (unhide HB1)).mono ?_
  rintro e w2 ⟨rfl, hb2⟩
  have HB2 := hide (onward (unhide HB1) hb2)
  clear hb2 HN2 HB1
  go_wp2_with fail
  refine (unhide HRk w2 (unhide HB2)).mono ?_
  rintro e w3 ⟨A3, c3, rfl, _, hn3, hb3⟩
  have HN3 := hide (hn3 w3.heap.size (.inr (Nat.le_refl _)))
  have HN3 := hide (unhide HN3)
  have HB3 := hide (onward (onward (unhide HB0) (unhide HB2)) hb3)
  have HN4 := hide (hn3 (w3.heap.size + 1) (.inr (by omega)))
  have b4 := (Below.refl w3.heap.size w3).alloc (Nat.le_refl _) (.cells #[.int .i64 2, .int .i64 3, .int .i64 1] 3)
  have HK := hide (kints_any (w3.heap.size + 1) [2, 3, 1] [2, 3, 1] A3 (some ⟨w3.heap.size, 0, none⟩) c3 3 _ (by decide) ((unhide HN4).keep b4) (ilit_in (w := w3) [2, 3, 1] (by omega)))
  rw [show decide (([2, 3, 1] : List Int) = [2, 3, 1]) = true from rfl] at HK
  have HB4 := hide (onward (unhide HB3) b4)
  clear hn3 hb3 b4 HRk HB2 HB3 HN3 HN4
  go_wp2_with fail
  refine (unhide HK).mono ?_
  rintro e w5 ⟨rfl, hb5⟩
  have HB5 := hide (onward (unhide HB4) hb5)
  clear hb5 HB4 HK
  go_wp2
  go_ret
  exact ⟨rfl, unhide HB5⟩
end Go.Proofs.Ytbajmbegkacbbaa
