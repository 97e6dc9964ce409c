/-
  Contract of Validate of messages: the other outcomes, and the whole.
-/
import Derived.Test.YtglgobmmmghdoaaGreatDoorMsgG
namespace Go.Proofs.YtglgobmmmghdoaaGreatDoor
open Go.RowKit

section
variable {ops : Array Oper} {rest : List Oper} {o : Oper} {a : Act} {W : World} {Q : Exit → Act → World → Prop}
set_option maxRecDepth 100000 in
/-- A whole message is loaded behind a guard that says yes. -/
theorem wpList_loadM_w {t : TypeId} {g : Nat} {fr : Nat × Nat} {m : Msg} {A : Option Addr} {c : Nat} {L : Option Addr} {d : Nat} (hg : W.heap[g]? = some (.cells (msgL m A c L d) t fr)) (x : Operand) (ho : o.op = .load 35 x)
    (hx : a.eval x = .pointer (some ⟨g, 0, none⟩)) (hw : Region.wanted o (yielded ops a.tmps) = true)
    (h : wpList Tryz.prog ops Q rest (a.put o.dst (msgV m A c L d)) W) : wpList Tryz.prog ops Q (o :: rest) a W :=
  BigFrame.wpList_want hw fun _ hK => wp_load_row _ x ho g hx t _ fr _ hg undM' undM infoM (hK _ _ h)
end
theorem Keys.below {w w1 : World} {B : Nat} (h : Keys w) (hb : Below B w w1) (hB : w.heap.size ≤ B) : Keys w1 := h.keep (hb.mono hB)

set_option maxHeartbeats 4000000 in
set_option maxRecDepth 100000 in
theorem val_low (m : Msg) (A L : Option Addr) (c d : Nat) (w : World) (hk : m.kind < 1) :
    Calls Tryz.prog 12 #[msgV m A c L d] w fun e w' => e = .returned (.int .i64 (valE m)) ∧ Below w.heap.size w w' := by
  have HV := hide (show valE m = 4 by unfold valE kindB; rw [if_neg (by rw [inB_iff]; omega)])
  have HB := hide ((Below.refl w.heap.size w).alloc (Nat.le_refl _) (msgO m A c L d))
  go_enter Tryz.func12, Tryz.ntmps12
  go_wp2
  go_ret
  exact ⟨ret_int (unhide HV).symm, unhide HB⟩

set_option maxHeartbeats 4000000 in
set_option maxRecDepth 100000 in
theorem val_high (m : Msg) (A L : Option Addr) (c d : Nat) (w : World) (hk : 5 < m.kind) :
    Calls Tryz.prog 12 #[msgV m A c L d] w fun e w' => e = .returned (.int .i64 (valE m)) ∧ Below w.heap.size w w' := by
  have HV := hide (show valE m = 4 by unfold valE kindB; rw [if_neg (by rw [inB_iff]; omega)])
  have HB := hide ((Below.refl w.heap.size w).alloc (Nat.le_refl _) (msgO m A c L d))
  have n1 : ¬ m.kind < 1 := by omega
  go_enter Tryz.func12, Tryz.ntmps12
  go_wp2
  go_ret
  exact ⟨ret_int (unhide HV).symm, unhide HB⟩

set_option maxHeartbeats 8000000 in
set_option maxRecDepth 100000 in
theorem val_lim3 (b : Nat) (m : Msg) (A L : Option Addr) (c d : Nat) (w : World) (hz : m.onw.length ≤ 1000000000) (hz2 : m.lst.length ≤ 1000000000) (h1 : LegsIn b w A m.onw) (h2 : NumsIn b w L m.lst) (hK : Keys w) (hk : kindB m = true) (hs : sameM m (ownM m) = true) (hl : ¬ m.onw.length ≤ 3) :
    Calls Tryz.prog 12 #[msgV m A c L d] w fun e w' => e = .returned (.int .i64 (valE m)) ∧ Below w.heap.size w w' := by
  have HV := hide (show valE m = 2 by unfold valE; rw [if_pos hk, if_pos hs, if_neg (by unfold limB; rw [Bool.and_eq_true, decide_eq_true_eq]; exact fun h => hl h.1)])
  have i3 : (3 : Int) < (m.onw.length : Int) := by omega
  obtain ⟨k0, k5⟩ := inB_iff.1 (show inB m.kind 1 5 = true from hk)
  obtain ⟨A', c', L', d', hO, hLg, hNm⟩ := own_all b m A L c d hk
  obtain ⟨W1, hW⟩ : ∃ W1 : World, w.alloc (msgO m A c L d) = W1 := ⟨_, rfl⟩
  have b0 : Below w.heap.size w W1 := by rw [← hW]; exact (Below.refl _ _).alloc (Nat.le_refl _) _
  have hsz : w.heap.size < W1.heap.size := by rw [← hW, World.size_alloc]; omega
  have hbox : W1.heap[w.heap.size]? = some (msgO m A c L d) := by rw [← hW]; exact heap_alloc_new w _
  have z0 : W1.cell? ⟨w.heap.size, 0, none⟩ = some (.int .i64 m.kind) := by rw [Lib.cell_of_heap hbox]; rfl
  have n1 : ¬ m.kind < 1 := by omega
  have n5 : ¬ 5 < m.kind := by omega
  have HD1 := hide (fun t : After W1 => hO t.to ((h1.keep b0).keep t.is) ((h2.keep b0).keep t.is))
  have HD2 := hide (fun t : After W1 => by
    have := same_any b m (ownM m) A A' L L' c c' d d' t.to hz hz2 ((h1.keep b0).keep t.is) (hLg _ ((h1.keep b0).keep t.is)) ((h2.keep b0).keep t.is) (hNm _ ((h2.keep b0).keep t.is))
    rw [hs] at this
    exact this)
  have HX := hide (fun (w' : World) (hw' : ∃ t : After W1, w' = t.to) => show w'.heap[w.heap.size]? = some (msgO m A c L d) by
    obtain ⟨t, rfl⟩ := hw'
    rw [t.is.block _ hsz]; exact hbox)
  have HB := hide b0
  have HK := hide (hK.keep b0)
  have HFo := hide (formed_at b m A L c d hz hz2)
  have HRa := hide (ranged_at b m A L c d hz hz2)
  have HKI := hide hk
  have HL1 := hide (h1.keep b0)
  have HL2 := hide (h2.keep b0)
  have HZ2 := hide hz2
  clear hO hLg hNm b0 hsz hbox k0 k5 hk hs h1 h2 hz hz2 hK
  go_enter Tryz.func12, Tryz.ntmps12
  go_wp2_with fail
  refine wp_region_after (by kernel_rfl) (by kernel_rfl) ?_
  refine BigFrame.wpQuiet_want rfl (fun K hK => ?_)
  refine quiet_loadM _ rfl rfl (unhide HX) (hK _ ?_)
  clear hK K
  refine BigFrame.wpQuiet_want rfl (fun K hK => ?_)
  refine quiet_loadM _ rfl rfl (unhide HX) (hK _ ?_)
  clear hK K
  simp only [Act.put, List.setIfInBounds_toArray, List.set_cons_succ, List.set_cons_zero]
  repeat (go_big_quiet_step ((first | (go_at_call 34; exact After.call (unhide HD1 _)) | (go_at_call 33; exact After.call (unhide HD2 _)))))
  refine wpQuiet_nil ?_
  rintro _ ⟨t, rfl⟩
  have HT := hide t.is
  have HX2 := hide (unhide HX _ ⟨t, rfl⟩)
  generalize t.to = W2 at *
  have x1 : W2.cell? ⟨w.heap.size, 1, none⟩ = some (.int .i64 m.act) := by rw [Lib.cell_of_heap (unhide HX2)]; rfl
  have x16 : W2.cell? ⟨w.heap.size, 16, none⟩ = some (.slice A m.onw.length c) := by rw [Lib.cell_of_heap (unhide HX2)]; rfl
  have x29 : W2.cell? ⟨w.heap.size, 29, none⟩ = some (.slice L m.lst.length d) := by rw [Lib.cell_of_heap (unhide HX2)]; rfl
  have hlt2 : w.heap.size < W2.heap.size := (Array.getElem?_eq_some_iff.1 (unhide HX2)).1
  have HLT := hide hlt2
  have L1 := hide ((unhide HL1).keep (unhide HT))
  have L2 := hide ((unhide HL2).keep (unhide HT))
  have HB2 := hide ((unhide HB).trans ((unhide HT).mono (unhide HB).size))
  have HK2 := hide ((unhide HK).keep (unhide HT))
  clear z0 hlt2 HX HD1 HD2
  go_wp2
  go_ret
  exact ⟨ret_int (unhide HV).symm, unhide HB2⟩

set_option maxHeartbeats 8000000 in
set_option maxRecDepth 100000 in
theorem val_lim40 (b : Nat) (m : Msg) (A L : Option Addr) (c d : Nat) (w : World) (hz : m.onw.length ≤ 1000000000) (hz2 : m.lst.length ≤ 1000000000) (h1 : LegsIn b w A m.onw) (h2 : NumsIn b w L m.lst) (hK : Keys w) (hk : kindB m = true) (hs : sameM m (ownM m) = true) (hl : m.onw.length ≤ 3) (hl2 : ¬ m.lst.length ≤ 40) :
    Calls Tryz.prog 12 #[msgV m A c L d] w fun e w' => e = .returned (.int .i64 (valE m)) ∧ Below w.heap.size w w' := by
  have HV := hide (show valE m = 2 by unfold valE; rw [if_pos hk, if_pos hs, if_neg (by unfold limB; rw [Bool.and_eq_true, decide_eq_true_eq, decide_eq_true_eq]; exact fun h => hl2 h.2)])
  have i3 : ¬ (3 : Int) < (m.onw.length : Int) := by omega
  have i40 : (40 : Int) < (m.lst.length : Int) := by omega
  obtain ⟨k0, k5⟩ := inB_iff.1 (show inB m.kind 1 5 = true from hk)
  obtain ⟨A', c', L', d', hO, hLg, hNm⟩ := own_all b m A L c d hk
  obtain ⟨W1, hW⟩ : ∃ W1 : World, w.alloc (msgO m A c L d) = W1 := ⟨_, rfl⟩
  have b0 : Below w.heap.size w W1 := by rw [← hW]; exact (Below.refl _ _).alloc (Nat.le_refl _) _
  have hsz : w.heap.size < W1.heap.size := by rw [← hW, World.size_alloc]; omega
  have hbox : W1.heap[w.heap.size]? = some (msgO m A c L d) := by rw [← hW]; exact heap_alloc_new w _
  have z0 : W1.cell? ⟨w.heap.size, 0, none⟩ = some (.int .i64 m.kind) := by rw [Lib.cell_of_heap hbox]; rfl
  have n1 : ¬ m.kind < 1 := by omega
  have n5 : ¬ 5 < m.kind := by omega
  have HD1 := hide (fun t : After W1 => hO t.to ((h1.keep b0).keep t.is) ((h2.keep b0).keep t.is))
  have HD2 := hide (fun t : After W1 => by
    have := same_any b m (ownM m) A A' L L' c c' d d' t.to hz hz2 ((h1.keep b0).keep t.is) (hLg _ ((h1.keep b0).keep t.is)) ((h2.keep b0).keep t.is) (hNm _ ((h2.keep b0).keep t.is))
    rw [hs] at this
    exact this)
  have HX := hide (fun (w' : World) (hw' : ∃ t : After W1, w' = t.to) => show w'.heap[w.heap.size]? = some (msgO m A c L d) by
    obtain ⟨t, rfl⟩ := hw'
    rw [t.is.block _ hsz]; exact hbox)
  have HB := hide b0
  have HK := hide (hK.keep b0)
  have HFo := hide (formed_at b m A L c d hz hz2)
  have HRa := hide (ranged_at b m A L c d hz hz2)
  have HKI := hide hk
  have HL1 := hide (h1.keep b0)
  have HL2 := hide (h2.keep b0)
  have HZ2 := hide hz2
  clear hO hLg hNm b0 hsz hbox k0 k5 hk hs h1 h2 hz hz2 hK
  go_enter Tryz.func12, Tryz.ntmps12
  go_wp2_with fail
  refine wp_region_after (by kernel_rfl) (by kernel_rfl) ?_
  refine BigFrame.wpQuiet_want rfl (fun K hK => ?_)
  refine quiet_loadM _ rfl rfl (unhide HX) (hK _ ?_)
  clear hK K
  refine BigFrame.wpQuiet_want rfl (fun K hK => ?_)
  refine quiet_loadM _ rfl rfl (unhide HX) (hK _ ?_)
  clear hK K
  simp only [Act.put, List.setIfInBounds_toArray, List.set_cons_succ, List.set_cons_zero]
  repeat (go_big_quiet_step ((first | (go_at_call 34; exact After.call (unhide HD1 _)) | (go_at_call 33; exact After.call (unhide HD2 _)))))
  refine wpQuiet_nil ?_
  rintro _ ⟨t, rfl⟩
  have HT := hide t.is
  have HX2 := hide (unhide HX _ ⟨t, rfl⟩)
  generalize t.to = W2 at *
  have x1 : W2.cell? ⟨w.heap.size, 1, none⟩ = some (.int .i64 m.act) := by rw [Lib.cell_of_heap (unhide HX2)]; rfl
  have x16 : W2.cell? ⟨w.heap.size, 16, none⟩ = some (.slice A m.onw.length c) := by rw [Lib.cell_of_heap (unhide HX2)]; rfl
  have x29 : W2.cell? ⟨w.heap.size, 29, none⟩ = some (.slice L m.lst.length d) := by rw [Lib.cell_of_heap (unhide HX2)]; rfl
  have hlt2 : w.heap.size < W2.heap.size := (Array.getElem?_eq_some_iff.1 (unhide HX2)).1
  have HLT := hide hlt2
  have L1 := hide ((unhide HL1).keep (unhide HT))
  have L2 := hide ((unhide HL2).keep (unhide HT))
  have HB2 := hide ((unhide HB).trans ((unhide HT).mono (unhide HB).size))
  have HK2 := hide ((unhide HK).keep (unhide HT))
  clear z0 hlt2 HX HD1 HD2
  go_wp2
  go_ret
  exact ⟨ret_int (unhide HV).symm, unhide HB2⟩

set_option maxHeartbeats 8000000 in
set_option maxRecDepth 100000 in
theorem val_form (b : Nat) (m : Msg) (A L : Option Addr) (c d : Nat) (w : World) (hz : m.onw.length ≤ 1000000000) (hz2 : m.lst.length ≤ 1000000000) (h1 : LegsIn b w A m.onw) (h2 : NumsIn b w L m.lst) (hK : Keys w) (hk : kindB m = true) (hs : sameM m (ownM m) = true) (hl : m.onw.length ≤ 3) (hl2 : m.lst.length ≤ 40) (hf : (keysL m.kind).all (formB m) = false) :
    Calls Tryz.prog 12 #[msgV m A c L d] w fun e w' => e = .returned (.int .i64 (valE m)) ∧ Below w.heap.size w w' := by
  have HV := hide (show valE m = 3 by unfold valE; rw [if_pos hk, if_pos hs, if_pos (by unfold limB; rw [decide_eq_true hl, decide_eq_true hl2]; rfl), if_neg (by rw [hf]; exact Bool.false_ne_true)])
  have i3 : ¬ (3 : Int) < (m.onw.length : Int) := by omega
  have i40 : ¬ (40 : Int) < (m.lst.length : Int) := by omega
  obtain ⟨k0, k5⟩ := inB_iff.1 (show inB m.kind 1 5 = true from hk)
  obtain ⟨A', c', L', d', hO, hLg, hNm⟩ := own_all b m A L c d hk
  obtain ⟨W1, hW⟩ : ∃ W1 : World, w.alloc (msgO m A c L d) = W1 := ⟨_, rfl⟩
  have b0 : Below w.heap.size w W1 := by rw [← hW]; exact (Below.refl _ _).alloc (Nat.le_refl _) _
  have hsz : w.heap.size < W1.heap.size := by rw [← hW, World.size_alloc]; omega
  have hbox : W1.heap[w.heap.size]? = some (msgO m A c L d) := by rw [← hW]; exact heap_alloc_new w _
  have z0 : W1.cell? ⟨w.heap.size, 0, none⟩ = some (.int .i64 m.kind) := by rw [Lib.cell_of_heap hbox]; rfl
  have n1 : ¬ m.kind < 1 := by omega
  have n5 : ¬ 5 < m.kind := by omega
  have HD1 := hide (fun t : After W1 => hO t.to ((h1.keep b0).keep t.is) ((h2.keep b0).keep t.is))
  have HD2 := hide (fun t : After W1 => by
    have := same_any b m (ownM m) A A' L L' c c' d d' t.to hz hz2 ((h1.keep b0).keep t.is) (hLg _ ((h1.keep b0).keep t.is)) ((h2.keep b0).keep t.is) (hNm _ ((h2.keep b0).keep t.is))
    rw [hs] at this
    exact this)
  have HX := hide (fun (w' : World) (hw' : ∃ t : After W1, w' = t.to) => show w'.heap[w.heap.size]? = some (msgO m A c L d) by
    obtain ⟨t, rfl⟩ := hw'
    rw [t.is.block _ hsz]; exact hbox)
  have HB := hide b0
  have HK := hide (hK.keep b0)
  have HFo := hide (formed_at b m A L c d hz hz2)
  have HRa := hide (ranged_at b m A L c d hz hz2)
  have HKI := hide hk
  have HL1 := hide (h1.keep b0)
  have HL2 := hide (h2.keep b0)
  have HZ2 := hide hz2
  clear hO hLg hNm b0 hsz hbox k0 k5 hk hs h1 h2 hz hz2 hK
  go_enter Tryz.func12, Tryz.ntmps12
  go_wp2_with fail
  refine wp_region_after (by kernel_rfl) (by kernel_rfl) ?_
  refine BigFrame.wpQuiet_want rfl (fun K hK => ?_)
  refine quiet_loadM _ rfl rfl (unhide HX) (hK _ ?_)
  clear hK K
  refine BigFrame.wpQuiet_want rfl (fun K hK => ?_)
  refine quiet_loadM _ rfl rfl (unhide HX) (hK _ ?_)
  clear hK K
  simp only [Act.put, List.setIfInBounds_toArray, List.set_cons_succ, List.set_cons_zero]
  repeat (go_big_quiet_step ((first | (go_at_call 34; exact After.call (unhide HD1 _)) | (go_at_call 33; exact After.call (unhide HD2 _)))))
  refine wpQuiet_nil ?_
  rintro _ ⟨t, rfl⟩
  have HT := hide t.is
  have HX2 := hide (unhide HX _ ⟨t, rfl⟩)
  generalize t.to = W2 at *
  have x1 : W2.cell? ⟨w.heap.size, 1, none⟩ = some (.int .i64 m.act) := by rw [Lib.cell_of_heap (unhide HX2)]; rfl
  have x16 : W2.cell? ⟨w.heap.size, 16, none⟩ = some (.slice A m.onw.length c) := by rw [Lib.cell_of_heap (unhide HX2)]; rfl
  have x29 : W2.cell? ⟨w.heap.size, 29, none⟩ = some (.slice L m.lst.length d) := by rw [Lib.cell_of_heap (unhide HX2)]; rfl
  have hlt2 : w.heap.size < W2.heap.size := (Array.getElem?_eq_some_iff.1 (unhide HX2)).1
  have HLT := hide hlt2
  have L1 := hide ((unhide HL1).keep (unhide HT))
  have L2 := hide ((unhide HL2).keep (unhide HT))
  have HB2 := hide ((unhide HB).trans ((unhide HT).mono (unhide HB).size))
  have HK2 := hide ((unhide HK).keep (unhide HT))
  clear z0 hlt2 HX HD1 HD2
  go_wp2_with (refine wpList_loadM (unhide HX2) rfl _ rfl rfl ?_)
  refine (all_form b m A L c d _ (unhide HKI) (unhide HK2) (unhide HFo) (unhide L1) (unhide L2)).mono ?_
  rw [hf]
  rintro e w3 ⟨rfl, hb3⟩
  have y1 := kept hb3 x1
  have y29 := kept hb3 x29
  have HX3 := hide (show w3.heap[w.heap.size]? = some (msgO m A c L d) by rw [hb3.block _ (unhide HLT)]; exact unhide HX2)
  have M1 := hide ((unhide L1).keep hb3)
  have M2 := hide ((unhide L2).keep hb3)
  have HK3 := hide ((unhide HK2).keep hb3)
  have HB3 := hide ((unhide HB2).trans (hb3.mono (Nat.le_of_lt (unhide HLT))))
  have HLT3 := hide (Nat.lt_of_lt_of_le (unhide HLT) hb3.size)
  clear hb3 x1 x16 x29
  go_wp2
  go_ret
  exact ⟨ret_int (unhide HV).symm, unhide HB3⟩

set_option maxHeartbeats 8000000 in
set_option maxRecDepth 100000 in
theorem val_act (b : Nat) (m : Msg) (A L : Option Addr) (c d : Nat) (w : World) (hz : m.onw.length ≤ 1000000000) (hz2 : m.lst.length ≤ 1000000000) (h1 : LegsIn b w A m.onw) (h2 : NumsIn b w L m.lst) (hK : Keys w) (hk : kindB m = true) (hs : sameM m (ownM m) = true) (hl : m.onw.length ≤ 3) (hl2 : m.lst.length ≤ 40) (hf : (keysL m.kind).all (formB m) = true) (ha : inB m.act 0 2 = false) :
    Calls Tryz.prog 12 #[msgV m A c L d] w fun e w' => e = .returned (.int .i64 (valE m)) ∧ Below w.heap.size w w' := by
  have HV := hide (show valE m = 1 by unfold valE; rw [if_pos hk, if_pos hs, if_pos (by unfold limB; rw [decide_eq_true hl, decide_eq_true hl2]; rfl), if_pos hf, if_neg (by rw [ha]; exact Bool.false_ne_true)])
  have i3 : ¬ (3 : Int) < (m.onw.length : Int) := by omega
  have i40 : ¬ (40 : Int) < (m.lst.length : Int) := by omega
  obtain ⟨k0, k5⟩ := inB_iff.1 (show inB m.kind 1 5 = true from hk)
  obtain ⟨A', c', L', d', hO, hLg, hNm⟩ := own_all b m A L c d hk
  obtain ⟨W1, hW⟩ : ∃ W1 : World, w.alloc (msgO m A c L d) = W1 := ⟨_, rfl⟩
  have b0 : Below w.heap.size w W1 := by rw [← hW]; exact (Below.refl _ _).alloc (Nat.le_refl _) _
  have hsz : w.heap.size < W1.heap.size := by rw [← hW, World.size_alloc]; omega
  have hbox : W1.heap[w.heap.size]? = some (msgO m A c L d) := by rw [← hW]; exact heap_alloc_new w _
  have z0 : W1.cell? ⟨w.heap.size, 0, none⟩ = some (.int .i64 m.kind) := by rw [Lib.cell_of_heap hbox]; rfl
  have n1 : ¬ m.kind < 1 := by omega
  have n5 : ¬ 5 < m.kind := by omega
  have HD1 := hide (fun t : After W1 => hO t.to ((h1.keep b0).keep t.is) ((h2.keep b0).keep t.is))
  have HD2 := hide (fun t : After W1 => by
    have := same_any b m (ownM m) A A' L L' c c' d d' t.to hz hz2 ((h1.keep b0).keep t.is) (hLg _ ((h1.keep b0).keep t.is)) ((h2.keep b0).keep t.is) (hNm _ ((h2.keep b0).keep t.is))
    rw [hs] at this
    exact this)
  have HX := hide (fun (w' : World) (hw' : ∃ t : After W1, w' = t.to) => show w'.heap[w.heap.size]? = some (msgO m A c L d) by
    obtain ⟨t, rfl⟩ := hw'
    rw [t.is.block _ hsz]; exact hbox)
  have HB := hide b0
  have HK := hide (hK.keep b0)
  have HFo := hide (formed_at b m A L c d hz hz2)
  have HRa := hide (ranged_at b m A L c d hz hz2)
  have HKI := hide hk
  have HL1 := hide (h1.keep b0)
  have HL2 := hide (h2.keep b0)
  have HZ2 := hide hz2
  clear hO hLg hNm b0 hsz hbox k0 k5 hk hs h1 h2 hz hz2 hK
  go_enter Tryz.func12, Tryz.ntmps12
  go_wp2_with fail
  refine wp_region_after (by kernel_rfl) (by kernel_rfl) ?_
  refine BigFrame.wpQuiet_want rfl (fun K hK => ?_)
  refine quiet_loadM _ rfl rfl (unhide HX) (hK _ ?_)
  clear hK K
  refine BigFrame.wpQuiet_want rfl (fun K hK => ?_)
  refine quiet_loadM _ rfl rfl (unhide HX) (hK _ ?_)
  clear hK K
  simp only [Act.put, List.setIfInBounds_toArray, List.set_cons_succ, List.set_cons_zero]
  repeat (go_big_quiet_step ((first | (go_at_call 34; exact After.call (unhide HD1 _)) | (go_at_call 33; exact After.call (unhide HD2 _)))))
  refine wpQuiet_nil ?_
  rintro _ ⟨t, rfl⟩
  have HT := hide t.is
  have HX2 := hide (unhide HX _ ⟨t, rfl⟩)
  generalize t.to = W2 at *
  have x1 : W2.cell? ⟨w.heap.size, 1, none⟩ = some (.int .i64 m.act) := by rw [Lib.cell_of_heap (unhide HX2)]; rfl
  have x16 : W2.cell? ⟨w.heap.size, 16, none⟩ = some (.slice A m.onw.length c) := by rw [Lib.cell_of_heap (unhide HX2)]; rfl
  have x29 : W2.cell? ⟨w.heap.size, 29, none⟩ = some (.slice L m.lst.length d) := by rw [Lib.cell_of_heap (unhide HX2)]; rfl
  have hlt2 : w.heap.size < W2.heap.size := (Array.getElem?_eq_some_iff.1 (unhide HX2)).1
  have HLT := hide hlt2
  have L1 := hide ((unhide HL1).keep (unhide HT))
  have L2 := hide ((unhide HL2).keep (unhide HT))
  have HB2 := hide ((unhide HB).trans ((unhide HT).mono (unhide HB).size))
  have HK2 := hide ((unhide HK).keep (unhide HT))
  clear z0 hlt2 HX HD1 HD2
  go_wp2_with (refine wpList_loadM (unhide HX2) rfl _ rfl rfl ?_)
  refine (all_form b m A L c d _ (unhide HKI) (unhide HK2) (unhide HFo) (unhide L1) (unhide L2)).mono ?_
  rw [hf]
  rintro e w3 ⟨rfl, hb3⟩
  have y1 := kept hb3 x1
  have y29 := kept hb3 x29
  have HX3 := hide (show w3.heap[w.heap.size]? = some (msgO m A c L d) by rw [hb3.block _ (unhide HLT)]; exact unhide HX2)
  have M1 := hide ((unhide L1).keep hb3)
  have M2 := hide ((unhide L2).keep hb3)
  have HK3 := hide ((unhide HK2).keep hb3)
  have HB3 := hide ((unhide HB2).trans (hb3.mono (Nat.le_of_lt (unhide HLT))))
  have HLT3 := hide (Nat.lt_of_lt_of_le (unhide HLT) hb3.size)
  clear hb3 x1 x16 x29
  go_wp2_with (go_at_call 37; refine (within_any _ _ _ _).mono ?_; rw [ha]; rintro e w1 ⟨rfl, rfl⟩)
  go_ret
  exact ⟨ret_int (unhide HV).symm, unhide HB3⟩

set_option maxHeartbeats 8000000 in
set_option maxRecDepth 100000 in
theorem val_rang (b : Nat) (m : Msg) (A L : Option Addr) (c d : Nat) (w : World) (hz : m.onw.length ≤ 1000000000) (hz2 : m.lst.length ≤ 1000000000) (h1 : LegsIn b w A m.onw) (h2 : NumsIn b w L m.lst) (hK : Keys w) (hk : kindB m = true) (hs : sameM m (ownM m) = true) (hl : m.onw.length ≤ 3) (hl2 : m.lst.length ≤ 40) (hf : (keysL m.kind).all (formB m) = true) (ha : inB m.act 0 2 = true) (hr : (keysL m.kind).all (rangB m) = false) :
    Calls Tryz.prog 12 #[msgV m A c L d] w fun e w' => e = .returned (.int .i64 (valE m)) ∧ Below w.heap.size w w' := by
  have HV := hide (show valE m = 1 by unfold valE; rw [if_pos hk, if_pos hs, if_pos (by unfold limB; rw [decide_eq_true hl, decide_eq_true hl2]; rfl), if_pos hf, if_neg (by rw [ha, hr]; exact Bool.false_ne_true)])
  have i3 : ¬ (3 : Int) < (m.onw.length : Int) := by omega
  have i40 : ¬ (40 : Int) < (m.lst.length : Int) := by omega
  obtain ⟨k0, k5⟩ := inB_iff.1 (show inB m.kind 1 5 = true from hk)
  obtain ⟨A', c', L', d', hO, hLg, hNm⟩ := own_all b m A L c d hk
  obtain ⟨W1, hW⟩ : ∃ W1 : World, w.alloc (msgO m A c L d) = W1 := ⟨_, rfl⟩
  have b0 : Below w.heap.size w W1 := by rw [← hW]; exact (Below.refl _ _).alloc (Nat.le_refl _) _
  have hsz : w.heap.size < W1.heap.size := by rw [← hW, World.size_alloc]; omega
  have hbox : W1.heap[w.heap.size]? = some (msgO m A c L d) := by rw [← hW]; exact heap_alloc_new w _
  have z0 : W1.cell? ⟨w.heap.size, 0, none⟩ = some (.int .i64 m.kind) := by rw [Lib.cell_of_heap hbox]; rfl
  have n1 : ¬ m.kind < 1 := by omega
  have n5 : ¬ 5 < m.kind := by omega
  have HD1 := hide (fun t : After W1 => hO t.to ((h1.keep b0).keep t.is) ((h2.keep b0).keep t.is))
  have HD2 := hide (fun t : After W1 => by
    have := same_any b m (ownM m) A A' L L' c c' d d' t.to hz hz2 ((h1.keep b0).keep t.is) (hLg _ ((h1.keep b0).keep t.is)) ((h2.keep b0).keep t.is) (hNm _ ((h2.keep b0).keep t.is))
    rw [hs] at this
    exact this)
  have HX := hide (fun (w' : World) (hw' : ∃ t : After W1, w' = t.to) => show w'.heap[w.heap.size]? = some (msgO m A c L d) by
    obtain ⟨t, rfl⟩ := hw'
    rw [t.is.block _ hsz]; exact hbox)
  have HB := hide b0
  have HK := hide (hK.keep b0)
  have HFo := hide (formed_at b m A L c d hz hz2)
  have HRa := hide (ranged_at b m A L c d hz hz2)
  have HKI := hide hk
  have HL1 := hide (h1.keep b0)
  have HL2 := hide (h2.keep b0)
  have HZ2 := hide hz2
  clear hO hLg hNm b0 hsz hbox k0 k5 hk hs h1 h2 hz hz2 hK
  go_enter Tryz.func12, Tryz.ntmps12
  go_wp2_with fail
  refine wp_region_after (by kernel_rfl) (by kernel_rfl) ?_
  refine BigFrame.wpQuiet_want rfl (fun K hK => ?_)
  refine quiet_loadM _ rfl rfl (unhide HX) (hK _ ?_)
  clear hK K
  refine BigFrame.wpQuiet_want rfl (fun K hK => ?_)
  refine quiet_loadM _ rfl rfl (unhide HX) (hK _ ?_)
  clear hK K
  simp only [Act.put, List.setIfInBounds_toArray, List.set_cons_succ, List.set_cons_zero]
  repeat (go_big_quiet_step ((first | (go_at_call 34; exact After.call (unhide HD1 _)) | (go_at_call 33; exact After.call (unhide HD2 _)))))
  refine wpQuiet_nil ?_
  rintro _ ⟨t, rfl⟩
  have HT := hide t.is
  have HX2 := hide (unhide HX _ ⟨t, rfl⟩)
  generalize t.to = W2 at *
  have x1 : W2.cell? ⟨w.heap.size, 1, none⟩ = some (.int .i64 m.act) := by rw [Lib.cell_of_heap (unhide HX2)]; rfl
  have x16 : W2.cell? ⟨w.heap.size, 16, none⟩ = some (.slice A m.onw.length c) := by rw [Lib.cell_of_heap (unhide HX2)]; rfl
  have x29 : W2.cell? ⟨w.heap.size, 29, none⟩ = some (.slice L m.lst.length d) := by rw [Lib.cell_of_heap (unhide HX2)]; rfl
  have hlt2 : w.heap.size < W2.heap.size := (Array.getElem?_eq_some_iff.1 (unhide HX2)).1
  have HLT := hide hlt2
  have L1 := hide ((unhide HL1).keep (unhide HT))
  have L2 := hide ((unhide HL2).keep (unhide HT))
  have HB2 := hide ((unhide HB).trans ((unhide HT).mono (unhide HB).size))
  have HK2 := hide ((unhide HK).keep (unhide HT))
  clear z0 hlt2 HX HD1 HD2
  go_wp2_with (refine wpList_loadM (unhide HX2) rfl _ rfl rfl ?_)
  refine (all_form b m A L c d _ (unhide HKI) (unhide HK2) (unhide HFo) (unhide L1) (unhide L2)).mono ?_
  rw [hf]
  rintro e w3 ⟨rfl, hb3⟩
  have y1 := kept hb3 x1
  have y29 := kept hb3 x29
  have HX3 := hide (show w3.heap[w.heap.size]? = some (msgO m A c L d) by rw [hb3.block _ (unhide HLT)]; exact unhide HX2)
  have M1 := hide ((unhide L1).keep hb3)
  have M2 := hide ((unhide L2).keep hb3)
  have HK3 := hide ((unhide HK2).keep hb3)
  have HB3 := hide ((unhide HB2).trans (hb3.mono (Nat.le_of_lt (unhide HLT))))
  have HLT3 := hide (Nat.lt_of_lt_of_le (unhide HLT) hb3.size)
  clear hb3 x1 x16 x29
  go_wp2_with (first | (go_at_call 37; refine (within_any _ _ _ _).mono ?_; rw [ha]; rintro e w1 ⟨rfl, rfl⟩) | (refine wpList_loadM_w (unhide HX3) _ rfl rfl rfl ?_))
  refine (all_rang b m A L c d _ (unhide HKI) (unhide HK3) (unhide HRa) (unhide M1) (unhide M2)).mono ?_
  rw [hr]
  rintro e w4 ⟨rfl, hb4⟩
  have v29 := kept hb4 y29
  have N2 := hide ((unhide M2).keep hb4)
  have HB4 := hide ((unhide HB3).trans (hb4.mono (Nat.le_of_lt (unhide HLT3))))
  clear hb4 y1 y29
  go_wp2
  go_ret
  exact ⟨ret_int (unhide HV).symm, unhide HB4⟩

set_option maxHeartbeats 8000000 in
set_option maxRecDepth 100000 in
theorem val_asc (b : Nat) (m : Msg) (A L : Option Addr) (c d : Nat) (w : World) (hz : m.onw.length ≤ 1000000000) (hz2 : m.lst.length ≤ 1000000000) (h1 : LegsIn b w A m.onw) (h2 : NumsIn b w L m.lst) (hK : Keys w) (hk : kindB m = true) (hs : sameM m (ownM m) = true) (hl : m.onw.length ≤ 3) (hl2 : m.lst.length ≤ 40) (hf : (keysL m.kind).all (formB m) = true) (ha : inB m.act 0 2 = true) (hr : (keysL m.kind).all (rangB m) = true) (hc : ascB m.lst = false) :
    Calls Tryz.prog 12 #[msgV m A c L d] w fun e w' => e = .returned (.int .i64 (valE m)) ∧ Below w.heap.size w w' := by
  have HV := hide (show valE m = 9 by unfold valE; rw [if_pos hk, if_pos hs, if_pos (by unfold limB; rw [decide_eq_true hl, decide_eq_true hl2]; rfl), if_pos hf, if_pos (by rw [ha, hr]; rfl), if_neg (by rw [hc]; exact Bool.false_ne_true)])
  have i3 : ¬ (3 : Int) < (m.onw.length : Int) := by omega
  have i40 : ¬ (40 : Int) < (m.lst.length : Int) := by omega
  obtain ⟨k0, k5⟩ := inB_iff.1 (show inB m.kind 1 5 = true from hk)
  obtain ⟨A', c', L', d', hO, hLg, hNm⟩ := own_all b m A L c d hk
  obtain ⟨W1, hW⟩ : ∃ W1 : World, w.alloc (msgO m A c L d) = W1 := ⟨_, rfl⟩
  have b0 : Below w.heap.size w W1 := by rw [← hW]; exact (Below.refl _ _).alloc (Nat.le_refl _) _
  have hsz : w.heap.size < W1.heap.size := by rw [← hW, World.size_alloc]; omega
  have hbox : W1.heap[w.heap.size]? = some (msgO m A c L d) := by rw [← hW]; exact heap_alloc_new w _
  have z0 : W1.cell? ⟨w.heap.size, 0, none⟩ = some (.int .i64 m.kind) := by rw [Lib.cell_of_heap hbox]; rfl
  have n1 : ¬ m.kind < 1 := by omega
  have n5 : ¬ 5 < m.kind := by omega
  have HD1 := hide (fun t : After W1 => hO t.to ((h1.keep b0).keep t.is) ((h2.keep b0).keep t.is))
  have HD2 := hide (fun t : After W1 => by
    have := same_any b m (ownM m) A A' L L' c c' d d' t.to hz hz2 ((h1.keep b0).keep t.is) (hLg _ ((h1.keep b0).keep t.is)) ((h2.keep b0).keep t.is) (hNm _ ((h2.keep b0).keep t.is))
    rw [hs] at this
    exact this)
  have HX := hide (fun (w' : World) (hw' : ∃ t : After W1, w' = t.to) => show w'.heap[w.heap.size]? = some (msgO m A c L d) by
    obtain ⟨t, rfl⟩ := hw'
    rw [t.is.block _ hsz]; exact hbox)
  have HB := hide b0
  have HK := hide (hK.keep b0)
  have HFo := hide (formed_at b m A L c d hz hz2)
  have HRa := hide (ranged_at b m A L c d hz hz2)
  have HKI := hide hk
  have HL1 := hide (h1.keep b0)
  have HL2 := hide (h2.keep b0)
  have HZ2 := hide hz2
  clear hO hLg hNm b0 hsz hbox k0 k5 hk hs h1 h2 hz hz2 hK
  go_enter Tryz.func12, Tryz.ntmps12
  go_wp2_with fail
  refine wp_region_after (by kernel_rfl) (by kernel_rfl) ?_
  refine BigFrame.wpQuiet_want rfl (fun K hK => ?_)
  refine quiet_loadM _ rfl rfl (unhide HX) (hK _ ?_)
  clear hK K
  refine BigFrame.wpQuiet_want rfl (fun K hK => ?_)
  refine quiet_loadM _ rfl rfl (unhide HX) (hK _ ?_)
  clear hK K
  simp only [Act.put, List.setIfInBounds_toArray, List.set_cons_succ, List.set_cons_zero]
  repeat (go_big_quiet_step ((first | (go_at_call 34; exact After.call (unhide HD1 _)) | (go_at_call 33; exact After.call (unhide HD2 _)))))
  refine wpQuiet_nil ?_
  rintro _ ⟨t, rfl⟩
  have HT := hide t.is
  have HX2 := hide (unhide HX _ ⟨t, rfl⟩)
  generalize t.to = W2 at *
  have x1 : W2.cell? ⟨w.heap.size, 1, none⟩ = some (.int .i64 m.act) := by rw [Lib.cell_of_heap (unhide HX2)]; rfl
  have x16 : W2.cell? ⟨w.heap.size, 16, none⟩ = some (.slice A m.onw.length c) := by rw [Lib.cell_of_heap (unhide HX2)]; rfl
  have x29 : W2.cell? ⟨w.heap.size, 29, none⟩ = some (.slice L m.lst.length d) := by rw [Lib.cell_of_heap (unhide HX2)]; rfl
  have hlt2 : w.heap.size < W2.heap.size := (Array.getElem?_eq_some_iff.1 (unhide HX2)).1
  have HLT := hide hlt2
  have L1 := hide ((unhide HL1).keep (unhide HT))
  have L2 := hide ((unhide HL2).keep (unhide HT))
  have HB2 := hide ((unhide HB).trans ((unhide HT).mono (unhide HB).size))
  have HK2 := hide ((unhide HK).keep (unhide HT))
  clear z0 hlt2 HX HD1 HD2
  go_wp2_with (refine wpList_loadM (unhide HX2) rfl _ rfl rfl ?_)
  refine (all_form b m A L c d _ (unhide HKI) (unhide HK2) (unhide HFo) (unhide L1) (unhide L2)).mono ?_
  rw [hf]
  rintro e w3 ⟨rfl, hb3⟩
  have y1 := kept hb3 x1
  have y29 := kept hb3 x29
  have HX3 := hide (show w3.heap[w.heap.size]? = some (msgO m A c L d) by rw [hb3.block _ (unhide HLT)]; exact unhide HX2)
  have M1 := hide ((unhide L1).keep hb3)
  have M2 := hide ((unhide L2).keep hb3)
  have HK3 := hide ((unhide HK2).keep hb3)
  have HB3 := hide ((unhide HB2).trans (hb3.mono (Nat.le_of_lt (unhide HLT))))
  have HLT3 := hide (Nat.lt_of_lt_of_le (unhide HLT) hb3.size)
  clear hb3 x1 x16 x29
  go_wp2_with (first | (go_at_call 37; refine (within_any _ _ _ _).mono ?_; rw [ha]; rintro e w1 ⟨rfl, rfl⟩) | (refine wpList_loadM_w (unhide HX3) _ rfl rfl rfl ?_))
  refine (all_rang b m A L c d _ (unhide HKI) (unhide HK3) (unhide HRa) (unhide M1) (unhide M2)).mono ?_
  rw [hr]
  rintro e w4 ⟨rfl, hb4⟩
  have v29 := kept hb4 y29
  have N2 := hide ((unhide M2).keep hb4)
  have HB4 := hide ((unhide HB3).trans (hb4.mono (Nat.le_of_lt (unhide HLT3))))
  clear hb4 y1 y29
  go_wp2_with (go_at_call 39; refine (asc_any b m.lst L d _ (unhide HZ2) (unhide N2)).mono ?_; rw [hc]; rintro e w5 ⟨rfl, hb5⟩; have HB5 := hide (onward (unhide HB4) hb5); clear hb5)
  go_ret
  exact ⟨ret_int (unhide HV).symm, unhide HB5⟩

set_option maxHeartbeats 8000000 in
set_option maxRecDepth 100000 in
theorem val_ok (b : Nat) (m : Msg) (A L : Option Addr) (c d : Nat) (w : World) (hz : m.onw.length ≤ 1000000000) (hz2 : m.lst.length ≤ 1000000000) (h1 : LegsIn b w A m.onw) (h2 : NumsIn b w L m.lst) (hK : Keys w) (hk : kindB m = true) (hs : sameM m (ownM m) = true) (hl : m.onw.length ≤ 3) (hl2 : m.lst.length ≤ 40) (hf : (keysL m.kind).all (formB m) = true) (ha : inB m.act 0 2 = true) (hr : (keysL m.kind).all (rangB m) = true) (hc : ascB m.lst = true) :
    Calls Tryz.prog 12 #[msgV m A c L d] w fun e w' => e = .returned (.int .i64 (valE m)) ∧ Below w.heap.size w w' := by
  have HV := hide (show valE m = 0 by unfold valE; rw [if_pos hk, if_pos hs, if_pos (by unfold limB; rw [decide_eq_true hl, decide_eq_true hl2]; rfl), if_pos hf, if_pos (by rw [ha, hr]; rfl), if_pos hc])
  have i3 : ¬ (3 : Int) < (m.onw.length : Int) := by omega
  have i40 : ¬ (40 : Int) < (m.lst.length : Int) := by omega
  obtain ⟨k0, k5⟩ := inB_iff.1 (show inB m.kind 1 5 = true from hk)
  obtain ⟨A', c', L', d', hO, hLg, hNm⟩ := own_all b m A L c d hk
  obtain ⟨W1, hW⟩ : ∃ W1 : World, w.alloc (msgO m A c L d) = W1 := ⟨_, rfl⟩
  have b0 : Below w.heap.size w W1 := by rw [← hW]; exact (Below.refl _ _).alloc (Nat.le_refl _) _
  have hsz : w.heap.size < W1.heap.size := by rw [← hW, World.size_alloc]; omega
  have hbox : W1.heap[w.heap.size]? = some (msgO m A c L d) := by rw [← hW]; exact heap_alloc_new w _
  have z0 : W1.cell? ⟨w.heap.size, 0, none⟩ = some (.int .i64 m.kind) := by rw [Lib.cell_of_heap hbox]; rfl
  have n1 : ¬ m.kind < 1 := by omega
  have n5 : ¬ 5 < m.kind := by omega
  have HD1 := hide (fun t : After W1 => hO t.to ((h1.keep b0).keep t.is) ((h2.keep b0).keep t.is))
  have HD2 := hide (fun t : After W1 => by
    have := same_any b m (ownM m) A A' L L' c c' d d' t.to hz hz2 ((h1.keep b0).keep t.is) (hLg _ ((h1.keep b0).keep t.is)) ((h2.keep b0).keep t.is) (hNm _ ((h2.keep b0).keep t.is))
    rw [hs] at this
    exact this)
  have HX := hide (fun (w' : World) (hw' : ∃ t : After W1, w' = t.to) => show w'.heap[w.heap.size]? = some (msgO m A c L d) by
    obtain ⟨t, rfl⟩ := hw'
    rw [t.is.block _ hsz]; exact hbox)
  have HB := hide b0
  have HK := hide (hK.keep b0)
  have HFo := hide (formed_at b m A L c d hz hz2)
  have HRa := hide (ranged_at b m A L c d hz hz2)
  have HKI := hide hk
  have HL1 := hide (h1.keep b0)
  have HL2 := hide (h2.keep b0)
  have HZ2 := hide hz2
  clear hO hLg hNm b0 hsz hbox k0 k5 hk hs h1 h2 hz hz2 hK
  go_enter Tryz.func12, Tryz.ntmps12
  go_wp2_with fail
  refine wp_region_after (by kernel_rfl) (by kernel_rfl) ?_
  refine BigFrame.wpQuiet_want rfl (fun K hK => ?_)
  refine quiet_loadM _ rfl rfl (unhide HX) (hK _ ?_)
  clear hK K
  refine BigFrame.wpQuiet_want rfl (fun K hK => ?_)
  refine quiet_loadM _ rfl rfl (unhide HX) (hK _ ?_)
  clear hK K
  simp only [Act.put, List.setIfInBounds_toArray, List.set_cons_succ, List.set_cons_zero]
  repeat (go_big_quiet_step ((first | (go_at_call 34; exact After.call (unhide HD1 _)) | (go_at_call 33; exact After.call (unhide HD2 _)))))
  refine wpQuiet_nil ?_
  rintro _ ⟨t, rfl⟩
  have HT := hide t.is
  have HX2 := hide (unhide HX _ ⟨t, rfl⟩)
  generalize t.to = W2 at *
  have x1 : W2.cell? ⟨w.heap.size, 1, none⟩ = some (.int .i64 m.act) := by rw [Lib.cell_of_heap (unhide HX2)]; rfl
  have x16 : W2.cell? ⟨w.heap.size, 16, none⟩ = some (.slice A m.onw.length c) := by rw [Lib.cell_of_heap (unhide HX2)]; rfl
  have x29 : W2.cell? ⟨w.heap.size, 29, none⟩ = some (.slice L m.lst.length d) := by rw [Lib.cell_of_heap (unhide HX2)]; rfl
  have hlt2 : w.heap.size < W2.heap.size := (Array.getElem?_eq_some_iff.1 (unhide HX2)).1
  have HLT := hide hlt2
  have L1 := hide ((unhide HL1).keep (unhide HT))
  have L2 := hide ((unhide HL2).keep (unhide HT))
  have HB2 := hide ((unhide HB).trans ((unhide HT).mono (unhide HB).size))
  have HK2 := hide ((unhide HK).keep (unhide HT))
  clear z0 hlt2 HX HD1 HD2
  go_wp2_with (refine wpList_loadM (unhide HX2) rfl _ rfl rfl ?_)
  refine (all_form b m A L c d _ (unhide HKI) (unhide HK2) (unhide HFo) (unhide L1) (unhide L2)).mono ?_
  rw [hf]
  rintro e w3 ⟨rfl, hb3⟩
  have y1 := kept hb3 x1
  have y29 := kept hb3 x29
  have HX3 := hide (show w3.heap[w.heap.size]? = some (msgO m A c L d) by rw [hb3.block _ (unhide HLT)]; exact unhide HX2)
  have M1 := hide ((unhide L1).keep hb3)
  have M2 := hide ((unhide L2).keep hb3)
  have HK3 := hide ((unhide HK2).keep hb3)
  have HB3 := hide ((unhide HB2).trans (hb3.mono (Nat.le_of_lt (unhide HLT))))
  have HLT3 := hide (Nat.lt_of_lt_of_le (unhide HLT) hb3.size)
  clear hb3 x1 x16 x29
  go_wp2_with (first | (go_at_call 37; refine (within_any _ _ _ _).mono ?_; rw [ha]; rintro e w1 ⟨rfl, rfl⟩) | (refine wpList_loadM_w (unhide HX3) _ rfl rfl rfl ?_))
  refine (all_rang b m A L c d _ (unhide HKI) (unhide HK3) (unhide HRa) (unhide M1) (unhide M2)).mono ?_
  rw [hr]
  rintro e w4 ⟨rfl, hb4⟩
  have v29 := kept hb4 y29
  have N2 := hide ((unhide M2).keep hb4)
  have HB4 := hide ((unhide HB3).trans (hb4.mono (Nat.le_of_lt (unhide HLT3))))
  clear hb4 y1 y29
  go_wp2_with (go_at_call 39; refine (asc_any b m.lst L d _ (unhide HZ2) (unhide N2)).mono ?_; rw [hc]; rintro e w5 ⟨rfl, hb5⟩; have HB5 := hide (onward (unhide HB4) hb5); clear hb5)
  go_ret
  exact ⟨ret_int (unhide HV).symm, unhide HB5⟩

theorem val_any (b : Nat) (m : Msg) (A L : Option Addr) (c d : Nat) (w : World) (hz : m.onw.length ≤ 1000000000) (hz2 : m.lst.length ≤ 1000000000) (h1 : LegsIn b w A m.onw) (h2 : NumsIn b w L m.lst) (hK : Keys w) :
    Calls Tryz.prog 12 #[msgV m A c L d] w fun e w' => e = .returned (.int .i64 (valE m)) ∧ Below w.heap.size w w' := by
  by_cases k0 : m.kind < 1
  · exact val_low m A L c d w k0
  · by_cases k5 : 5 < m.kind
    · exact val_high m A L c d w k5
    · have hk : kindB m = true := inB_iff.2 ⟨by omega, by omega⟩
      cases hs : sameM m (ownM m) with
      | false => exact val_own b m A L c d w hz hz2 h1 h2 hk hs
      | true =>
        by_cases hl : m.onw.length ≤ 3
        · by_cases hl2 : m.lst.length ≤ 40
          · cases hf : (keysL m.kind).all (formB m) with
            | false => exact val_form b m A L c d w hz hz2 h1 h2 hK hk hs hl hl2 hf
            | true =>
              cases ha : inB m.act 0 2 with
              | false => exact val_act b m A L c d w hz hz2 h1 h2 hK hk hs hl hl2 hf ha
              | true =>
                cases hr : (keysL m.kind).all (rangB m) with
                | false => exact val_rang b m A L c d w hz hz2 h1 h2 hK hk hs hl hl2 hf ha hr
                | true =>
                  cases hc : ascB m.lst with
                  | false => exact val_asc b m A L c d w hz hz2 h1 h2 hK hk hs hl hl2 hf ha hr hc
                  | true => exact val_ok b m A L c d w hz hz2 h1 h2 hK hk hs hl hl2 hf ha hr hc
          · exact val_lim40 b m A L c d w hz hz2 h1 h2 hK hk hs hl hl2
        · exact val_lim3 b m A L c d w hz hz2 h1 h2 hK hk hs hl

end Go.Proofs.YtglgobmmmghdoaaGreatDoor
