/-
  Contract of Same of messages (the program's).
-/
import Derived.Test.YtglgobmmmghdoaaGreatDoorMsgB
namespace Go.Proofs.YtglgobmmmghdoaaGreatDoor
open Go.RowKit

def smB (m n : Msg) : Bool := (m.kind == n.kind) && ((m.act == n.act) && ((m.port.toList == n.port.toList) && ((m.num == n.num) && (lgE6 m.inn n.inn && (lgE6 m.out n.out && (decide (m.onw = n.onw) && (plE m.pl m.pa m.ps n.pl n.pa n.ps && ((m.cnt == n.cnt) && ((m.load == n.load) && ((m.sta == n.sta) && ((m.sq == n.sq) && ((m.wgt == n.wgt) && ((m.sur.toList == n.sur.toList) && ((m.giv.toList == n.giv.toList) && ((m.exc == n.exc) && ((m.node.toList == n.node.toList) && (decide (m.lst = n.lst))))))))))))))))))
theorem smB_dec (m n : Msg) : smB m n = sameM m n := by
  unfold smB sameM
  rw [toList_eq, toList_eq, toList_eq, toList_eq, Bool.eq_iff_iff]
  simp only [Bool.and_eq_true, decide_eq_true_eq, beq_iff_eq, lgE6_iff, plE_iff]
  rw [Msg.ext_iff']

theorem box_cell {w : World} {cs cs' : Array Value} {t t' : TypeId} {k : Nat} {v : Value} (h : cs[k]? = some v) : ((w.alloc (.cells cs t)).alloc (.cells cs' t')).cell? ⟨w.heap.size, k, none⟩ = some v := by
  refine kept ((Below.refl _ (w.alloc (.cells cs t))).alloc (Nat.le_refl _) _) ?_
  rw [Lib.cell_of_heap (heap_alloc_new w _)]
  exact h
theorem box_cell2 {w : World} {cs cs' : Array Value} {t t' : TypeId} {k : Nat} {v : Value} (h : cs'[k]? = some v) : ((w.alloc (.cells cs t)).alloc (.cells cs' t')).cell? ⟨w.heap.size + 1, k, none⟩ = some v := by
  have e := heap_alloc_new (w.alloc (.cells cs t)) (.cells cs' t')
  rw [World.size_alloc] at e
  rw [Lib.cell_of_heap e]
  exact h

set_option maxHeartbeats 4000000 in
set_option maxRecDepth 100000 in
theorem sm_0 (b : Nat) (m n : Msg) (A A' L L' : Option Addr) (c c' d d' : Nat) (w : World) (hz : m.onw.length ≤ 1000000000) (hz2 : m.lst.length ≤ 1000000000) (h1 : LegsIn b w A m.onw) (h2 : LegsIn b w A' n.onw) (h3 : NumsIn b w L m.lst) (h4 : NumsIn b w L' n.lst) (e0 : (m.kind == n.kind) = false) :
    Calls Tryz.prog 33 #[msgV m A c L d, msgV n A' c' L' d'] w fun e w' => e = .returned (.bool false) ∧ Below w.heap.size w w' := by
  have b0 := ((Below.refl w.heap.size w).alloc (Nat.le_refl _) (msgO m A c L d)).alloc (by rw [World.size_alloc]; omega) (msgO n A' c' L' d')
  have H1 := hide (h1.keep b0)
  have H2 := hide (h2.keep b0)
  have H3 := hide (h3.keep b0)
  have H4 := hide (h4.keep b0)
  have B0 := Lib.hid b0
  have Z1 := hide hz
  have Z2 := hide hz2
  clear h1 h2 h3 h4 b0 hz hz2
  obtain ⟨W1, hW⟩ : ∃ W1 : World, (w.alloc (msgO m A c L d)).alloc (msgO n A' c' L' d') = W1 := ⟨_, rfl⟩
  have hA : ∀ k v, (msgL m A c L d)[k]? = some v → W1.cell? ⟨w.heap.size, k, none⟩ = some v := fun k v hk => by rw [← hW]; exact box_cell hk
  have hN : ∀ k v, (msgL n A' c' L' d')[k]? = some v → W1.cell? ⟨w.heap.size + 1, k, none⟩ = some v := fun k v hk => by rw [← hW]; exact box_cell2 hk
  have z0 := hA 0 _ rfl
  have u0 := hN 0 _ rfl
  rw [hW] at H1 H2 H3 H4 B0
  clear hA hN
  go_enter Tryz.func33, Tryz.ntmps33
  simp only [List.append_eq, List.cons_append, List.nil_append]
  go_wp2
  go_ret
  exact ⟨rfl, B0.out⟩

set_option maxHeartbeats 4000000 in
set_option maxRecDepth 100000 in
theorem sm_1 (b : Nat) (m n : Msg) (A A' L L' : Option Addr) (c c' d d' : Nat) (w : World) (hz : m.onw.length ≤ 1000000000) (hz2 : m.lst.length ≤ 1000000000) (h1 : LegsIn b w A m.onw) (h2 : LegsIn b w A' n.onw) (h3 : NumsIn b w L m.lst) (h4 : NumsIn b w L' n.lst) (e0 : (m.kind == n.kind) = true) (e1 : (m.act == n.act) = false) :
    Calls Tryz.prog 33 #[msgV m A c L d, msgV n A' c' L' d'] w fun e w' => e = .returned (.bool false) ∧ Below w.heap.size w w' := by
  have b0 := ((Below.refl w.heap.size w).alloc (Nat.le_refl _) (msgO m A c L d)).alloc (by rw [World.size_alloc]; omega) (msgO n A' c' L' d')
  have H1 := hide (h1.keep b0)
  have H2 := hide (h2.keep b0)
  have H3 := hide (h3.keep b0)
  have H4 := hide (h4.keep b0)
  have B0 := Lib.hid b0
  have Z1 := hide hz
  have Z2 := hide hz2
  clear h1 h2 h3 h4 b0 hz hz2
  obtain ⟨W1, hW⟩ : ∃ W1 : World, (w.alloc (msgO m A c L d)).alloc (msgO n A' c' L' d') = W1 := ⟨_, rfl⟩
  have hA : ∀ k v, (msgL m A c L d)[k]? = some v → W1.cell? ⟨w.heap.size, k, none⟩ = some v := fun k v hk => by rw [← hW]; exact box_cell hk
  have hN : ∀ k v, (msgL n A' c' L' d')[k]? = some v → W1.cell? ⟨w.heap.size + 1, k, none⟩ = some v := fun k v hk => by rw [← hW]; exact box_cell2 hk
  have z0 := hA 0 _ rfl
  have u0 := hN 0 _ rfl
  have z1 := hA 1 _ rfl
  have u1 := hN 1 _ rfl
  rw [hW] at H1 H2 H3 H4 B0
  clear hA hN
  go_enter Tryz.func33, Tryz.ntmps33
  simp only [List.append_eq, List.cons_append, List.nil_append]
  go_wp2
  go_ret
  exact ⟨rfl, B0.out⟩

set_option maxHeartbeats 4000000 in
set_option maxRecDepth 100000 in
theorem sm_2 (b : Nat) (m n : Msg) (A A' L L' : Option Addr) (c c' d d' : Nat) (w : World) (hz : m.onw.length ≤ 1000000000) (hz2 : m.lst.length ≤ 1000000000) (h1 : LegsIn b w A m.onw) (h2 : LegsIn b w A' n.onw) (h3 : NumsIn b w L m.lst) (h4 : NumsIn b w L' n.lst) (e0 : (m.kind == n.kind) = true) (e1 : (m.act == n.act) = true) (e2 : (m.port.toList == n.port.toList) = false) :
    Calls Tryz.prog 33 #[msgV m A c L d, msgV n A' c' L' d'] w fun e w' => e = .returned (.bool false) ∧ Below w.heap.size w w' := by
  have b0 := ((Below.refl w.heap.size w).alloc (Nat.le_refl _) (msgO m A c L d)).alloc (by rw [World.size_alloc]; omega) (msgO n A' c' L' d')
  have H1 := hide (h1.keep b0)
  have H2 := hide (h2.keep b0)
  have H3 := hide (h3.keep b0)
  have H4 := hide (h4.keep b0)
  have B0 := Lib.hid b0
  have Z1 := hide hz
  have Z2 := hide hz2
  clear h1 h2 h3 h4 b0 hz hz2
  obtain ⟨W1, hW⟩ : ∃ W1 : World, (w.alloc (msgO m A c L d)).alloc (msgO n A' c' L' d') = W1 := ⟨_, rfl⟩
  have hA : ∀ k v, (msgL m A c L d)[k]? = some v → W1.cell? ⟨w.heap.size, k, none⟩ = some v := fun k v hk => by rw [← hW]; exact box_cell hk
  have hN : ∀ k v, (msgL n A' c' L' d')[k]? = some v → W1.cell? ⟨w.heap.size + 1, k, none⟩ = some v := fun k v hk => by rw [← hW]; exact box_cell2 hk
  have z0 := hA 0 _ rfl
  have u0 := hN 0 _ rfl
  have z1 := hA 1 _ rfl
  have u1 := hN 1 _ rfl
  have z2 := hA 2 _ rfl
  have u2 := hN 2 _ rfl
  rw [hW] at H1 H2 H3 H4 B0
  clear hA hN
  go_enter Tryz.func33, Tryz.ntmps33
  simp only [List.append_eq, List.cons_append, List.nil_append]
  go_wp2
  go_ret
  exact ⟨rfl, B0.out⟩

set_option maxHeartbeats 4000000 in
set_option maxRecDepth 100000 in
theorem sm_3 (b : Nat) (m n : Msg) (A A' L L' : Option Addr) (c c' d d' : Nat) (w : World) (hz : m.onw.length ≤ 1000000000) (hz2 : m.lst.length ≤ 1000000000) (h1 : LegsIn b w A m.onw) (h2 : LegsIn b w A' n.onw) (h3 : NumsIn b w L m.lst) (h4 : NumsIn b w L' n.lst) (e0 : (m.kind == n.kind) = true) (e1 : (m.act == n.act) = true) (e2 : (m.port.toList == n.port.toList) = true) (e3 : (m.num == n.num) = false) :
    Calls Tryz.prog 33 #[msgV m A c L d, msgV n A' c' L' d'] w fun e w' => e = .returned (.bool false) ∧ Below w.heap.size w w' := by
  have b0 := ((Below.refl w.heap.size w).alloc (Nat.le_refl _) (msgO m A c L d)).alloc (by rw [World.size_alloc]; omega) (msgO n A' c' L' d')
  have H1 := hide (h1.keep b0)
  have H2 := hide (h2.keep b0)
  have H3 := hide (h3.keep b0)
  have H4 := hide (h4.keep b0)
  have B0 := Lib.hid b0
  have Z1 := hide hz
  have Z2 := hide hz2
  clear h1 h2 h3 h4 b0 hz hz2
  obtain ⟨W1, hW⟩ : ∃ W1 : World, (w.alloc (msgO m A c L d)).alloc (msgO n A' c' L' d') = W1 := ⟨_, rfl⟩
  have hA : ∀ k v, (msgL m A c L d)[k]? = some v → W1.cell? ⟨w.heap.size, k, none⟩ = some v := fun k v hk => by rw [← hW]; exact box_cell hk
  have hN : ∀ k v, (msgL n A' c' L' d')[k]? = some v → W1.cell? ⟨w.heap.size + 1, k, none⟩ = some v := fun k v hk => by rw [← hW]; exact box_cell2 hk
  have z0 := hA 0 _ rfl
  have u0 := hN 0 _ rfl
  have z1 := hA 1 _ rfl
  have u1 := hN 1 _ rfl
  have z2 := hA 2 _ rfl
  have u2 := hN 2 _ rfl
  have z3 := hA 3 _ rfl
  have u3 := hN 3 _ rfl
  rw [hW] at H1 H2 H3 H4 B0
  clear hA hN
  go_enter Tryz.func33, Tryz.ntmps33
  simp only [List.append_eq, List.cons_append, List.nil_append]
  go_wp2
  go_ret
  exact ⟨rfl, B0.out⟩

set_option maxHeartbeats 4000000 in
set_option maxRecDepth 100000 in
theorem sm_4 (b : Nat) (m n : Msg) (A A' L L' : Option Addr) (c c' d d' : Nat) (w : World) (hz : m.onw.length ≤ 1000000000) (hz2 : m.lst.length ≤ 1000000000) (h1 : LegsIn b w A m.onw) (h2 : LegsIn b w A' n.onw) (h3 : NumsIn b w L m.lst) (h4 : NumsIn b w L' n.lst) (e0 : (m.kind == n.kind) = true) (e1 : (m.act == n.act) = true) (e2 : (m.port.toList == n.port.toList) = true) (e3 : (m.num == n.num) = true) (e4 : lgE6 m.inn n.inn = false) :
    Calls Tryz.prog 33 #[msgV m A c L d, msgV n A' c' L' d'] w fun e w' => e = .returned (.bool false) ∧ Below w.heap.size w w' := by
  have b0 := ((Below.refl w.heap.size w).alloc (Nat.le_refl _) (msgO m A c L d)).alloc (by rw [World.size_alloc]; omega) (msgO n A' c' L' d')
  have H1 := hide (h1.keep b0)
  have H2 := hide (h2.keep b0)
  have H3 := hide (h3.keep b0)
  have H4 := hide (h4.keep b0)
  have B0 := Lib.hid b0
  have Z1 := hide hz
  have Z2 := hide hz2
  clear h1 h2 h3 h4 b0 hz hz2
  have op4 := leg_eql m.inn n.inn
  obtain ⟨W1, hW⟩ : ∃ W1 : World, (w.alloc (msgO m A c L d)).alloc (msgO n A' c' L' d') = W1 := ⟨_, rfl⟩
  have hA : ∀ k v, (msgL m A c L d)[k]? = some v → W1.cell? ⟨w.heap.size, k, none⟩ = some v := fun k v hk => by rw [← hW]; exact box_cell hk
  have hN : ∀ k v, (msgL n A' c' L' d')[k]? = some v → W1.cell? ⟨w.heap.size + 1, k, none⟩ = some v := fun k v hk => by rw [← hW]; exact box_cell2 hk
  have z0 := hA 0 _ rfl
  have u0 := hN 0 _ rfl
  have z1 := hA 1 _ rfl
  have u1 := hN 1 _ rfl
  have z2 := hA 2 _ rfl
  have u2 := hN 2 _ rfl
  have z3 := hA 3 _ rfl
  have u3 := hN 3 _ rfl
  have z4 := hA 4 _ rfl
  have u4 := hN 4 _ rfl
  have z5 := hA 5 _ rfl
  have u5 := hN 5 _ rfl
  have z6 := hA 6 _ rfl
  have u6 := hN 6 _ rfl
  have z7 := hA 7 _ rfl
  have u7 := hN 7 _ rfl
  have z8 := hA 8 _ rfl
  have u8 := hN 8 _ rfl
  have z9 := hA 9 _ rfl
  have u9 := hN 9 _ rfl
  rw [hW] at H1 H2 H3 H4 B0
  clear hA hN
  go_enter Tryz.func33, Tryz.ntmps33
  simp only [List.append_eq, List.cons_append, List.nil_append]
  go_wp2
  go_ret
  exact ⟨rfl, B0.out⟩

set_option maxHeartbeats 4000000 in
set_option maxRecDepth 100000 in
theorem sm_5 (b : Nat) (m n : Msg) (A A' L L' : Option Addr) (c c' d d' : Nat) (w : World) (hz : m.onw.length ≤ 1000000000) (hz2 : m.lst.length ≤ 1000000000) (h1 : LegsIn b w A m.onw) (h2 : LegsIn b w A' n.onw) (h3 : NumsIn b w L m.lst) (h4 : NumsIn b w L' n.lst) (e0 : (m.kind == n.kind) = true) (e1 : (m.act == n.act) = true) (e2 : (m.port.toList == n.port.toList) = true) (e3 : (m.num == n.num) = true) (e4 : lgE6 m.inn n.inn = true) (e5 : lgE6 m.out n.out = false) :
    Calls Tryz.prog 33 #[msgV m A c L d, msgV n A' c' L' d'] w fun e w' => e = .returned (.bool false) ∧ Below w.heap.size w w' := by
  have b0 := ((Below.refl w.heap.size w).alloc (Nat.le_refl _) (msgO m A c L d)).alloc (by rw [World.size_alloc]; omega) (msgO n A' c' L' d')
  have H1 := hide (h1.keep b0)
  have H2 := hide (h2.keep b0)
  have H3 := hide (h3.keep b0)
  have H4 := hide (h4.keep b0)
  have B0 := Lib.hid b0
  have Z1 := hide hz
  have Z2 := hide hz2
  clear h1 h2 h3 h4 b0 hz hz2
  have op4 := leg_eql m.inn n.inn
  have op5 := leg_eql m.out n.out
  obtain ⟨W1, hW⟩ : ∃ W1 : World, (w.alloc (msgO m A c L d)).alloc (msgO n A' c' L' d') = W1 := ⟨_, rfl⟩
  have hA : ∀ k v, (msgL m A c L d)[k]? = some v → W1.cell? ⟨w.heap.size, k, none⟩ = some v := fun k v hk => by rw [← hW]; exact box_cell hk
  have hN : ∀ k v, (msgL n A' c' L' d')[k]? = some v → W1.cell? ⟨w.heap.size + 1, k, none⟩ = some v := fun k v hk => by rw [← hW]; exact box_cell2 hk
  have z0 := hA 0 _ rfl
  have u0 := hN 0 _ rfl
  have z1 := hA 1 _ rfl
  have u1 := hN 1 _ rfl
  have z2 := hA 2 _ rfl
  have u2 := hN 2 _ rfl
  have z3 := hA 3 _ rfl
  have u3 := hN 3 _ rfl
  have z4 := hA 4 _ rfl
  have u4 := hN 4 _ rfl
  have z5 := hA 5 _ rfl
  have u5 := hN 5 _ rfl
  have z6 := hA 6 _ rfl
  have u6 := hN 6 _ rfl
  have z7 := hA 7 _ rfl
  have u7 := hN 7 _ rfl
  have z8 := hA 8 _ rfl
  have u8 := hN 8 _ rfl
  have z9 := hA 9 _ rfl
  have u9 := hN 9 _ rfl
  have z10 := hA 10 _ rfl
  have u10 := hN 10 _ rfl
  have z11 := hA 11 _ rfl
  have u11 := hN 11 _ rfl
  have z12 := hA 12 _ rfl
  have u12 := hN 12 _ rfl
  have z13 := hA 13 _ rfl
  have u13 := hN 13 _ rfl
  have z14 := hA 14 _ rfl
  have u14 := hN 14 _ rfl
  have z15 := hA 15 _ rfl
  have u15 := hN 15 _ rfl
  rw [hW] at H1 H2 H3 H4 B0
  clear hA hN
  go_enter Tryz.func33, Tryz.ntmps33
  simp only [List.append_eq, List.cons_append, List.nil_append]
  go_wp2
  go_ret
  exact ⟨rfl, B0.out⟩

set_option maxHeartbeats 4000000 in
set_option maxRecDepth 100000 in
theorem sm_6 (b : Nat) (m n : Msg) (A A' L L' : Option Addr) (c c' d d' : Nat) (w : World) (hz : m.onw.length ≤ 1000000000) (hz2 : m.lst.length ≤ 1000000000) (h1 : LegsIn b w A m.onw) (h2 : LegsIn b w A' n.onw) (h3 : NumsIn b w L m.lst) (h4 : NumsIn b w L' n.lst) (e0 : (m.kind == n.kind) = true) (e1 : (m.act == n.act) = true) (e2 : (m.port.toList == n.port.toList) = true) (e3 : (m.num == n.num) = true) (e4 : lgE6 m.inn n.inn = true) (e5 : lgE6 m.out n.out = true) (e6 : decide (m.onw = n.onw) = false) :
    Calls Tryz.prog 33 #[msgV m A c L d, msgV n A' c' L' d'] w fun e w' => e = .returned (.bool false) ∧ Below w.heap.size w w' := by
  have b0 := ((Below.refl w.heap.size w).alloc (Nat.le_refl _) (msgO m A c L d)).alloc (by rw [World.size_alloc]; omega) (msgO n A' c' L' d')
  have H1 := hide (h1.keep b0)
  have H2 := hide (h2.keep b0)
  have H3 := hide (h3.keep b0)
  have H4 := hide (h4.keep b0)
  have B0 := Lib.hid b0
  have Z1 := hide hz
  have Z2 := hide hz2
  clear h1 h2 h3 h4 b0 hz hz2
  have op4 := leg_eql m.inn n.inn
  have op5 := leg_eql m.out n.out
  obtain ⟨W1, hW⟩ : ∃ W1 : World, (w.alloc (msgO m A c L d)).alloc (msgO n A' c' L' d') = W1 := ⟨_, rfl⟩
  have hA : ∀ k v, (msgL m A c L d)[k]? = some v → W1.cell? ⟨w.heap.size, k, none⟩ = some v := fun k v hk => by rw [← hW]; exact box_cell hk
  have hN : ∀ k v, (msgL n A' c' L' d')[k]? = some v → W1.cell? ⟨w.heap.size + 1, k, none⟩ = some v := fun k v hk => by rw [← hW]; exact box_cell2 hk
  have z0 := hA 0 _ rfl
  have u0 := hN 0 _ rfl
  have z1 := hA 1 _ rfl
  have u1 := hN 1 _ rfl
  have z2 := hA 2 _ rfl
  have u2 := hN 2 _ rfl
  have z3 := hA 3 _ rfl
  have u3 := hN 3 _ rfl
  have z4 := hA 4 _ rfl
  have u4 := hN 4 _ rfl
  have z5 := hA 5 _ rfl
  have u5 := hN 5 _ rfl
  have z6 := hA 6 _ rfl
  have u6 := hN 6 _ rfl
  have z7 := hA 7 _ rfl
  have u7 := hN 7 _ rfl
  have z8 := hA 8 _ rfl
  have u8 := hN 8 _ rfl
  have z9 := hA 9 _ rfl
  have u9 := hN 9 _ rfl
  have z10 := hA 10 _ rfl
  have u10 := hN 10 _ rfl
  have z11 := hA 11 _ rfl
  have u11 := hN 11 _ rfl
  have z12 := hA 12 _ rfl
  have u12 := hN 12 _ rfl
  have z13 := hA 13 _ rfl
  have u13 := hN 13 _ rfl
  have z14 := hA 14 _ rfl
  have u14 := hN 14 _ rfl
  have z15 := hA 15 _ rfl
  have u15 := hN 15 _ rfl
  have z16 := hA 16 _ rfl
  have u16 := hN 16 _ rfl
  rw [hW] at H1 H2 H3 H4 B0
  clear hA hN
  have E6 := hide e6
  clear e6
  go_enter Tryz.func33, Tryz.ntmps33
  simp only [List.append_eq, List.cons_append, List.nil_append]
  go_wp2_with fail
  refine (eqlegs_any b m.onw n.onw A A' c c' _ (unhide Z1) (unhide H1) (unhide H2)).mono ?_
  rw [unhide E6]
  rintro e w1 ⟨rfl, hb1⟩
  have HB := Lib.hid (B0.out.trans (hb1.mono B0.out.size))
  clear hb1
  go_wp2
  go_ret
  exact ⟨rfl, HB.out⟩

set_option maxHeartbeats 4000000 in
set_option maxRecDepth 100000 in
theorem sm_7 (b : Nat) (m n : Msg) (A A' L L' : Option Addr) (c c' d d' : Nat) (w : World) (hz : m.onw.length ≤ 1000000000) (hz2 : m.lst.length ≤ 1000000000) (h1 : LegsIn b w A m.onw) (h2 : LegsIn b w A' n.onw) (h3 : NumsIn b w L m.lst) (h4 : NumsIn b w L' n.lst) (e0 : (m.kind == n.kind) = true) (e1 : (m.act == n.act) = true) (e2 : (m.port.toList == n.port.toList) = true) (e3 : (m.num == n.num) = true) (e4 : lgE6 m.inn n.inn = true) (e5 : lgE6 m.out n.out = true) (e6 : decide (m.onw = n.onw) = true) (e7 : plE m.pl m.pa m.ps n.pl n.pa n.ps = false) :
    Calls Tryz.prog 33 #[msgV m A c L d, msgV n A' c' L' d'] w fun e w' => e = .returned (.bool false) ∧ Below w.heap.size w w' := by
  have b0 := ((Below.refl w.heap.size w).alloc (Nat.le_refl _) (msgO m A c L d)).alloc (by rw [World.size_alloc]; omega) (msgO n A' c' L' d')
  have H1 := hide (h1.keep b0)
  have H2 := hide (h2.keep b0)
  have H3 := hide (h3.keep b0)
  have H4 := hide (h4.keep b0)
  have B0 := Lib.hid b0
  have Z1 := hide hz
  have Z2 := hide hz2
  clear h1 h2 h3 h4 b0 hz hz2
  have op4 := leg_eql m.inn n.inn
  have op5 := leg_eql m.out n.out
  have op7 := plate_eql m.pl m.pa m.ps n.pl n.pa n.ps
  obtain ⟨W1, hW⟩ : ∃ W1 : World, (w.alloc (msgO m A c L d)).alloc (msgO n A' c' L' d') = W1 := ⟨_, rfl⟩
  have hA : ∀ k v, (msgL m A c L d)[k]? = some v → W1.cell? ⟨w.heap.size, k, none⟩ = some v := fun k v hk => by rw [← hW]; exact box_cell hk
  have hN : ∀ k v, (msgL n A' c' L' d')[k]? = some v → W1.cell? ⟨w.heap.size + 1, k, none⟩ = some v := fun k v hk => by rw [← hW]; exact box_cell2 hk
  have z0 := hA 0 _ rfl
  have u0 := hN 0 _ rfl
  have z1 := hA 1 _ rfl
  have u1 := hN 1 _ rfl
  have z2 := hA 2 _ rfl
  have u2 := hN 2 _ rfl
  have z3 := hA 3 _ rfl
  have u3 := hN 3 _ rfl
  have z4 := hA 4 _ rfl
  have u4 := hN 4 _ rfl
  have z5 := hA 5 _ rfl
  have u5 := hN 5 _ rfl
  have z6 := hA 6 _ rfl
  have u6 := hN 6 _ rfl
  have z7 := hA 7 _ rfl
  have u7 := hN 7 _ rfl
  have z8 := hA 8 _ rfl
  have u8 := hN 8 _ rfl
  have z9 := hA 9 _ rfl
  have u9 := hN 9 _ rfl
  have z10 := hA 10 _ rfl
  have u10 := hN 10 _ rfl
  have z11 := hA 11 _ rfl
  have u11 := hN 11 _ rfl
  have z12 := hA 12 _ rfl
  have u12 := hN 12 _ rfl
  have z13 := hA 13 _ rfl
  have u13 := hN 13 _ rfl
  have z14 := hA 14 _ rfl
  have u14 := hN 14 _ rfl
  have z15 := hA 15 _ rfl
  have u15 := hN 15 _ rfl
  have z16 := hA 16 _ rfl
  have u16 := hN 16 _ rfl
  have z17 := hA 17 _ rfl
  have u17 := hN 17 _ rfl
  have z18 := hA 18 _ rfl
  have u18 := hN 18 _ rfl
  have z19 := hA 19 _ rfl
  have u19 := hN 19 _ rfl
  rw [hW] at H1 H2 H3 H4 B0
  clear hA hN
  have E6 := hide e6
  clear e6
  go_enter Tryz.func33, Tryz.ntmps33
  simp only [List.append_eq, List.cons_append, List.nil_append]
  go_wp2_with fail
  refine (eqlegs_any b m.onw n.onw A A' c c' _ (unhide Z1) (unhide H1) (unhide H2)).mono ?_
  rw [unhide E6]
  rintro e w1 ⟨rfl, hb1⟩
  have HK := Lib.hid hb1
  have x17 := kept hb1 z17
  have y17 := kept hb1 u17
  have x18 := kept hb1 z18
  have y18 := kept hb1 u18
  have x19 := kept hb1 z19
  have y19 := kept hb1 u19
  clear z0 u0 z1 u1 z2 u2 z3 u3 z4 u4 z5 u5 z6 u6 z7 u7 z8 u8 z9 u9 z10 u10 z11 u11 z12 u12 z13 u13 z14 u14 z15 u15 z16 u16 z17 u17 z18 u18 z19 u19
  have HB := Lib.hid (B0.out.trans (hb1.mono B0.out.size))
  clear hb1
  go_wp2
  go_ret
  exact ⟨rfl, HB.out⟩

set_option maxHeartbeats 4000000 in
set_option maxRecDepth 100000 in
theorem sm_8 (b : Nat) (m n : Msg) (A A' L L' : Option Addr) (c c' d d' : Nat) (w : World) (hz : m.onw.length ≤ 1000000000) (hz2 : m.lst.length ≤ 1000000000) (h1 : LegsIn b w A m.onw) (h2 : LegsIn b w A' n.onw) (h3 : NumsIn b w L m.lst) (h4 : NumsIn b w L' n.lst) (e0 : (m.kind == n.kind) = true) (e1 : (m.act == n.act) = true) (e2 : (m.port.toList == n.port.toList) = true) (e3 : (m.num == n.num) = true) (e4 : lgE6 m.inn n.inn = true) (e5 : lgE6 m.out n.out = true) (e6 : decide (m.onw = n.onw) = true) (e7 : plE m.pl m.pa m.ps n.pl n.pa n.ps = true) (e8 : (m.cnt == n.cnt) = false) :
    Calls Tryz.prog 33 #[msgV m A c L d, msgV n A' c' L' d'] w fun e w' => e = .returned (.bool false) ∧ Below w.heap.size w w' := by
  have b0 := ((Below.refl w.heap.size w).alloc (Nat.le_refl _) (msgO m A c L d)).alloc (by rw [World.size_alloc]; omega) (msgO n A' c' L' d')
  have H1 := hide (h1.keep b0)
  have H2 := hide (h2.keep b0)
  have H3 := hide (h3.keep b0)
  have H4 := hide (h4.keep b0)
  have B0 := Lib.hid b0
  have Z1 := hide hz
  have Z2 := hide hz2
  clear h1 h2 h3 h4 b0 hz hz2
  have op4 := leg_eql m.inn n.inn
  have op5 := leg_eql m.out n.out
  have op7 := plate_eql m.pl m.pa m.ps n.pl n.pa n.ps
  obtain ⟨W1, hW⟩ : ∃ W1 : World, (w.alloc (msgO m A c L d)).alloc (msgO n A' c' L' d') = W1 := ⟨_, rfl⟩
  have hA : ∀ k v, (msgL m A c L d)[k]? = some v → W1.cell? ⟨w.heap.size, k, none⟩ = some v := fun k v hk => by rw [← hW]; exact box_cell hk
  have hN : ∀ k v, (msgL n A' c' L' d')[k]? = some v → W1.cell? ⟨w.heap.size + 1, k, none⟩ = some v := fun k v hk => by rw [← hW]; exact box_cell2 hk
  have z0 := hA 0 _ rfl
  have u0 := hN 0 _ rfl
  have z1 := hA 1 _ rfl
  have u1 := hN 1 _ rfl
  have z2 := hA 2 _ rfl
  have u2 := hN 2 _ rfl
  have z3 := hA 3 _ rfl
  have u3 := hN 3 _ rfl
  have z4 := hA 4 _ rfl
  have u4 := hN 4 _ rfl
  have z5 := hA 5 _ rfl
  have u5 := hN 5 _ rfl
  have z6 := hA 6 _ rfl
  have u6 := hN 6 _ rfl
  have z7 := hA 7 _ rfl
  have u7 := hN 7 _ rfl
  have z8 := hA 8 _ rfl
  have u8 := hN 8 _ rfl
  have z9 := hA 9 _ rfl
  have u9 := hN 9 _ rfl
  have z10 := hA 10 _ rfl
  have u10 := hN 10 _ rfl
  have z11 := hA 11 _ rfl
  have u11 := hN 11 _ rfl
  have z12 := hA 12 _ rfl
  have u12 := hN 12 _ rfl
  have z13 := hA 13 _ rfl
  have u13 := hN 13 _ rfl
  have z14 := hA 14 _ rfl
  have u14 := hN 14 _ rfl
  have z15 := hA 15 _ rfl
  have u15 := hN 15 _ rfl
  have z16 := hA 16 _ rfl
  have u16 := hN 16 _ rfl
  have z17 := hA 17 _ rfl
  have u17 := hN 17 _ rfl
  have z18 := hA 18 _ rfl
  have u18 := hN 18 _ rfl
  have z19 := hA 19 _ rfl
  have u19 := hN 19 _ rfl
  have z20 := hA 20 _ rfl
  have u20 := hN 20 _ rfl
  rw [hW] at H1 H2 H3 H4 B0
  clear hA hN
  have E6 := hide e6
  clear e6
  go_enter Tryz.func33, Tryz.ntmps33
  simp only [List.append_eq, List.cons_append, List.nil_append]
  go_wp2_with fail
  refine (eqlegs_any b m.onw n.onw A A' c c' _ (unhide Z1) (unhide H1) (unhide H2)).mono ?_
  rw [unhide E6]
  rintro e w1 ⟨rfl, hb1⟩
  have HK := Lib.hid hb1
  have x17 := kept hb1 z17
  have y17 := kept hb1 u17
  have x18 := kept hb1 z18
  have y18 := kept hb1 u18
  have x19 := kept hb1 z19
  have y19 := kept hb1 u19
  have x20 := kept hb1 z20
  have y20 := kept hb1 u20
  clear z0 u0 z1 u1 z2 u2 z3 u3 z4 u4 z5 u5 z6 u6 z7 u7 z8 u8 z9 u9 z10 u10 z11 u11 z12 u12 z13 u13 z14 u14 z15 u15 z16 u16 z17 u17 z18 u18 z19 u19 z20 u20
  have HB := Lib.hid (B0.out.trans (hb1.mono B0.out.size))
  clear hb1
  go_wp2
  go_ret
  exact ⟨rfl, HB.out⟩

set_option maxHeartbeats 4000000 in
set_option maxRecDepth 100000 in
theorem sm_9 (b : Nat) (m n : Msg) (A A' L L' : Option Addr) (c c' d d' : Nat) (w : World) (hz : m.onw.length ≤ 1000000000) (hz2 : m.lst.length ≤ 1000000000) (h1 : LegsIn b w A m.onw) (h2 : LegsIn b w A' n.onw) (h3 : NumsIn b w L m.lst) (h4 : NumsIn b w L' n.lst) (e0 : (m.kind == n.kind) = true) (e1 : (m.act == n.act) = true) (e2 : (m.port.toList == n.port.toList) = true) (e3 : (m.num == n.num) = true) (e4 : lgE6 m.inn n.inn = true) (e5 : lgE6 m.out n.out = true) (e6 : decide (m.onw = n.onw) = true) (e7 : plE m.pl m.pa m.ps n.pl n.pa n.ps = true) (e8 : (m.cnt == n.cnt) = true) (e9 : (m.load == n.load) = false) :
    Calls Tryz.prog 33 #[msgV m A c L d, msgV n A' c' L' d'] w fun e w' => e = .returned (.bool false) ∧ Below w.heap.size w w' := by
  have b0 := ((Below.refl w.heap.size w).alloc (Nat.le_refl _) (msgO m A c L d)).alloc (by rw [World.size_alloc]; omega) (msgO n A' c' L' d')
  have H1 := hide (h1.keep b0)
  have H2 := hide (h2.keep b0)
  have H3 := hide (h3.keep b0)
  have H4 := hide (h4.keep b0)
  have B0 := Lib.hid b0
  have Z1 := hide hz
  have Z2 := hide hz2
  clear h1 h2 h3 h4 b0 hz hz2
  have op4 := leg_eql m.inn n.inn
  have op5 := leg_eql m.out n.out
  have op7 := plate_eql m.pl m.pa m.ps n.pl n.pa n.ps
  obtain ⟨W1, hW⟩ : ∃ W1 : World, (w.alloc (msgO m A c L d)).alloc (msgO n A' c' L' d') = W1 := ⟨_, rfl⟩
  have hA : ∀ k v, (msgL m A c L d)[k]? = some v → W1.cell? ⟨w.heap.size, k, none⟩ = some v := fun k v hk => by rw [← hW]; exact box_cell hk
  have hN : ∀ k v, (msgL n A' c' L' d')[k]? = some v → W1.cell? ⟨w.heap.size + 1, k, none⟩ = some v := fun k v hk => by rw [← hW]; exact box_cell2 hk
  have z0 := hA 0 _ rfl
  have u0 := hN 0 _ rfl
  have z1 := hA 1 _ rfl
  have u1 := hN 1 _ rfl
  have z2 := hA 2 _ rfl
  have u2 := hN 2 _ rfl
  have z3 := hA 3 _ rfl
  have u3 := hN 3 _ rfl
  have z4 := hA 4 _ rfl
  have u4 := hN 4 _ rfl
  have z5 := hA 5 _ rfl
  have u5 := hN 5 _ rfl
  have z6 := hA 6 _ rfl
  have u6 := hN 6 _ rfl
  have z7 := hA 7 _ rfl
  have u7 := hN 7 _ rfl
  have z8 := hA 8 _ rfl
  have u8 := hN 8 _ rfl
  have z9 := hA 9 _ rfl
  have u9 := hN 9 _ rfl
  have z10 := hA 10 _ rfl
  have u10 := hN 10 _ rfl
  have z11 := hA 11 _ rfl
  have u11 := hN 11 _ rfl
  have z12 := hA 12 _ rfl
  have u12 := hN 12 _ rfl
  have z13 := hA 13 _ rfl
  have u13 := hN 13 _ rfl
  have z14 := hA 14 _ rfl
  have u14 := hN 14 _ rfl
  have z15 := hA 15 _ rfl
  have u15 := hN 15 _ rfl
  have z16 := hA 16 _ rfl
  have u16 := hN 16 _ rfl
  have z17 := hA 17 _ rfl
  have u17 := hN 17 _ rfl
  have z18 := hA 18 _ rfl
  have u18 := hN 18 _ rfl
  have z19 := hA 19 _ rfl
  have u19 := hN 19 _ rfl
  have z20 := hA 20 _ rfl
  have u20 := hN 20 _ rfl
  have z21 := hA 21 _ rfl
  have u21 := hN 21 _ rfl
  rw [hW] at H1 H2 H3 H4 B0
  clear hA hN
  have E6 := hide e6
  clear e6
  go_enter Tryz.func33, Tryz.ntmps33
  simp only [List.append_eq, List.cons_append, List.nil_append]
  go_wp2_with fail
  refine (eqlegs_any b m.onw n.onw A A' c c' _ (unhide Z1) (unhide H1) (unhide H2)).mono ?_
  rw [unhide E6]
  rintro e w1 ⟨rfl, hb1⟩
  have HK := Lib.hid hb1
  have x17 := kept hb1 z17
  have y17 := kept hb1 u17
  have x18 := kept hb1 z18
  have y18 := kept hb1 u18
  have x19 := kept hb1 z19
  have y19 := kept hb1 u19
  have x20 := kept hb1 z20
  have y20 := kept hb1 u20
  have x21 := kept hb1 z21
  have y21 := kept hb1 u21
  clear z0 u0 z1 u1 z2 u2 z3 u3 z4 u4 z5 u5 z6 u6 z7 u7 z8 u8 z9 u9 z10 u10 z11 u11 z12 u12 z13 u13 z14 u14 z15 u15 z16 u16 z17 u17 z18 u18 z19 u19 z20 u20 z21 u21
  have HB := Lib.hid (B0.out.trans (hb1.mono B0.out.size))
  clear hb1
  go_wp2
  go_ret
  exact ⟨rfl, HB.out⟩

set_option maxHeartbeats 4000000 in
set_option maxRecDepth 100000 in
theorem sm_10 (b : Nat) (m n : Msg) (A A' L L' : Option Addr) (c c' d d' : Nat) (w : World) (hz : m.onw.length ≤ 1000000000) (hz2 : m.lst.length ≤ 1000000000) (h1 : LegsIn b w A m.onw) (h2 : LegsIn b w A' n.onw) (h3 : NumsIn b w L m.lst) (h4 : NumsIn b w L' n.lst) (e0 : (m.kind == n.kind) = true) (e1 : (m.act == n.act) = true) (e2 : (m.port.toList == n.port.toList) = true) (e3 : (m.num == n.num) = true) (e4 : lgE6 m.inn n.inn = true) (e5 : lgE6 m.out n.out = true) (e6 : decide (m.onw = n.onw) = true) (e7 : plE m.pl m.pa m.ps n.pl n.pa n.ps = true) (e8 : (m.cnt == n.cnt) = true) (e9 : (m.load == n.load) = true) (e10 : (m.sta == n.sta) = false) :
    Calls Tryz.prog 33 #[msgV m A c L d, msgV n A' c' L' d'] w fun e w' => e = .returned (.bool false) ∧ Below w.heap.size w w' := by
  have b0 := ((Below.refl w.heap.size w).alloc (Nat.le_refl _) (msgO m A c L d)).alloc (by rw [World.size_alloc]; omega) (msgO n A' c' L' d')
  have H1 := hide (h1.keep b0)
  have H2 := hide (h2.keep b0)
  have H3 := hide (h3.keep b0)
  have H4 := hide (h4.keep b0)
  have B0 := Lib.hid b0
  have Z1 := hide hz
  have Z2 := hide hz2
  clear h1 h2 h3 h4 b0 hz hz2
  have op4 := leg_eql m.inn n.inn
  have op5 := leg_eql m.out n.out
  have op7 := plate_eql m.pl m.pa m.ps n.pl n.pa n.ps
  obtain ⟨W1, hW⟩ : ∃ W1 : World, (w.alloc (msgO m A c L d)).alloc (msgO n A' c' L' d') = W1 := ⟨_, rfl⟩
  have hA : ∀ k v, (msgL m A c L d)[k]? = some v → W1.cell? ⟨w.heap.size, k, none⟩ = some v := fun k v hk => by rw [← hW]; exact box_cell hk
  have hN : ∀ k v, (msgL n A' c' L' d')[k]? = some v → W1.cell? ⟨w.heap.size + 1, k, none⟩ = some v := fun k v hk => by rw [← hW]; exact box_cell2 hk
  have z0 := hA 0 _ rfl
  have u0 := hN 0 _ rfl
  have z1 := hA 1 _ rfl
  have u1 := hN 1 _ rfl
  have z2 := hA 2 _ rfl
  have u2 := hN 2 _ rfl
  have z3 := hA 3 _ rfl
  have u3 := hN 3 _ rfl
  have z4 := hA 4 _ rfl
  have u4 := hN 4 _ rfl
  have z5 := hA 5 _ rfl
  have u5 := hN 5 _ rfl
  have z6 := hA 6 _ rfl
  have u6 := hN 6 _ rfl
  have z7 := hA 7 _ rfl
  have u7 := hN 7 _ rfl
  have z8 := hA 8 _ rfl
  have u8 := hN 8 _ rfl
  have z9 := hA 9 _ rfl
  have u9 := hN 9 _ rfl
  have z10 := hA 10 _ rfl
  have u10 := hN 10 _ rfl
  have z11 := hA 11 _ rfl
  have u11 := hN 11 _ rfl
  have z12 := hA 12 _ rfl
  have u12 := hN 12 _ rfl
  have z13 := hA 13 _ rfl
  have u13 := hN 13 _ rfl
  have z14 := hA 14 _ rfl
  have u14 := hN 14 _ rfl
  have z15 := hA 15 _ rfl
  have u15 := hN 15 _ rfl
  have z16 := hA 16 _ rfl
  have u16 := hN 16 _ rfl
  have z17 := hA 17 _ rfl
  have u17 := hN 17 _ rfl
  have z18 := hA 18 _ rfl
  have u18 := hN 18 _ rfl
  have z19 := hA 19 _ rfl
  have u19 := hN 19 _ rfl
  have z20 := hA 20 _ rfl
  have u20 := hN 20 _ rfl
  have z21 := hA 21 _ rfl
  have u21 := hN 21 _ rfl
  have z22 := hA 22 _ rfl
  have u22 := hN 22 _ rfl
  rw [hW] at H1 H2 H3 H4 B0
  clear hA hN
  have E6 := hide e6
  clear e6
  go_enter Tryz.func33, Tryz.ntmps33
  simp only [List.append_eq, List.cons_append, List.nil_append]
  go_wp2_with fail
  refine (eqlegs_any b m.onw n.onw A A' c c' _ (unhide Z1) (unhide H1) (unhide H2)).mono ?_
  rw [unhide E6]
  rintro e w1 ⟨rfl, hb1⟩
  have HK := Lib.hid hb1
  have x17 := kept hb1 z17
  have y17 := kept hb1 u17
  have x18 := kept hb1 z18
  have y18 := kept hb1 u18
  have x19 := kept hb1 z19
  have y19 := kept hb1 u19
  have x20 := kept hb1 z20
  have y20 := kept hb1 u20
  have x21 := kept hb1 z21
  have y21 := kept hb1 u21
  have x22 := kept hb1 z22
  have y22 := kept hb1 u22
  clear z0 u0 z1 u1 z2 u2 z3 u3 z4 u4 z5 u5 z6 u6 z7 u7 z8 u8 z9 u9 z10 u10 z11 u11 z12 u12 z13 u13 z14 u14 z15 u15 z16 u16 z17 u17 z18 u18 z19 u19 z20 u20 z21 u21 z22 u22
  have HB := Lib.hid (B0.out.trans (hb1.mono B0.out.size))
  clear hb1
  go_wp2
  go_ret
  exact ⟨rfl, HB.out⟩

set_option maxHeartbeats 4000000 in
set_option maxRecDepth 100000 in
theorem sm_11 (b : Nat) (m n : Msg) (A A' L L' : Option Addr) (c c' d d' : Nat) (w : World) (hz : m.onw.length ≤ 1000000000) (hz2 : m.lst.length ≤ 1000000000) (h1 : LegsIn b w A m.onw) (h2 : LegsIn b w A' n.onw) (h3 : NumsIn b w L m.lst) (h4 : NumsIn b w L' n.lst) (e0 : (m.kind == n.kind) = true) (e1 : (m.act == n.act) = true) (e2 : (m.port.toList == n.port.toList) = true) (e3 : (m.num == n.num) = true) (e4 : lgE6 m.inn n.inn = true) (e5 : lgE6 m.out n.out = true) (e6 : decide (m.onw = n.onw) = true) (e7 : plE m.pl m.pa m.ps n.pl n.pa n.ps = true) (e8 : (m.cnt == n.cnt) = true) (e9 : (m.load == n.load) = true) (e10 : (m.sta == n.sta) = true) (e11 : (m.sq == n.sq) = false) :
    Calls Tryz.prog 33 #[msgV m A c L d, msgV n A' c' L' d'] w fun e w' => e = .returned (.bool false) ∧ Below w.heap.size w w' := by
  have b0 := ((Below.refl w.heap.size w).alloc (Nat.le_refl _) (msgO m A c L d)).alloc (by rw [World.size_alloc]; omega) (msgO n A' c' L' d')
  have H1 := hide (h1.keep b0)
  have H2 := hide (h2.keep b0)
  have H3 := hide (h3.keep b0)
  have H4 := hide (h4.keep b0)
  have B0 := Lib.hid b0
  have Z1 := hide hz
  have Z2 := hide hz2
  clear h1 h2 h3 h4 b0 hz hz2
  have op4 := leg_eql m.inn n.inn
  have op5 := leg_eql m.out n.out
  have op7 := plate_eql m.pl m.pa m.ps n.pl n.pa n.ps
  obtain ⟨W1, hW⟩ : ∃ W1 : World, (w.alloc (msgO m A c L d)).alloc (msgO n A' c' L' d') = W1 := ⟨_, rfl⟩
  have hA : ∀ k v, (msgL m A c L d)[k]? = some v → W1.cell? ⟨w.heap.size, k, none⟩ = some v := fun k v hk => by rw [← hW]; exact box_cell hk
  have hN : ∀ k v, (msgL n A' c' L' d')[k]? = some v → W1.cell? ⟨w.heap.size + 1, k, none⟩ = some v := fun k v hk => by rw [← hW]; exact box_cell2 hk
  have z0 := hA 0 _ rfl
  have u0 := hN 0 _ rfl
  have z1 := hA 1 _ rfl
  have u1 := hN 1 _ rfl
  have z2 := hA 2 _ rfl
  have u2 := hN 2 _ rfl
  have z3 := hA 3 _ rfl
  have u3 := hN 3 _ rfl
  have z4 := hA 4 _ rfl
  have u4 := hN 4 _ rfl
  have z5 := hA 5 _ rfl
  have u5 := hN 5 _ rfl
  have z6 := hA 6 _ rfl
  have u6 := hN 6 _ rfl
  have z7 := hA 7 _ rfl
  have u7 := hN 7 _ rfl
  have z8 := hA 8 _ rfl
  have u8 := hN 8 _ rfl
  have z9 := hA 9 _ rfl
  have u9 := hN 9 _ rfl
  have z10 := hA 10 _ rfl
  have u10 := hN 10 _ rfl
  have z11 := hA 11 _ rfl
  have u11 := hN 11 _ rfl
  have z12 := hA 12 _ rfl
  have u12 := hN 12 _ rfl
  have z13 := hA 13 _ rfl
  have u13 := hN 13 _ rfl
  have z14 := hA 14 _ rfl
  have u14 := hN 14 _ rfl
  have z15 := hA 15 _ rfl
  have u15 := hN 15 _ rfl
  have z16 := hA 16 _ rfl
  have u16 := hN 16 _ rfl
  have z17 := hA 17 _ rfl
  have u17 := hN 17 _ rfl
  have z18 := hA 18 _ rfl
  have u18 := hN 18 _ rfl
  have z19 := hA 19 _ rfl
  have u19 := hN 19 _ rfl
  have z20 := hA 20 _ rfl
  have u20 := hN 20 _ rfl
  have z21 := hA 21 _ rfl
  have u21 := hN 21 _ rfl
  have z22 := hA 22 _ rfl
  have u22 := hN 22 _ rfl
  have z23 := hA 23 _ rfl
  have u23 := hN 23 _ rfl
  rw [hW] at H1 H2 H3 H4 B0
  clear hA hN
  have E6 := hide e6
  clear e6
  go_enter Tryz.func33, Tryz.ntmps33
  simp only [List.append_eq, List.cons_append, List.nil_append]
  go_wp2_with fail
  refine (eqlegs_any b m.onw n.onw A A' c c' _ (unhide Z1) (unhide H1) (unhide H2)).mono ?_
  rw [unhide E6]
  rintro e w1 ⟨rfl, hb1⟩
  have HK := Lib.hid hb1
  have x17 := kept hb1 z17
  have y17 := kept hb1 u17
  have x18 := kept hb1 z18
  have y18 := kept hb1 u18
  have x19 := kept hb1 z19
  have y19 := kept hb1 u19
  have x20 := kept hb1 z20
  have y20 := kept hb1 u20
  have x21 := kept hb1 z21
  have y21 := kept hb1 u21
  have x22 := kept hb1 z22
  have y22 := kept hb1 u22
  have x23 := kept hb1 z23
  have y23 := kept hb1 u23
  clear z0 u0 z1 u1 z2 u2 z3 u3 z4 u4 z5 u5 z6 u6 z7 u7 z8 u8 z9 u9 z10 u10 z11 u11 z12 u12 z13 u13 z14 u14 z15 u15 z16 u16 z17 u17 z18 u18 z19 u19 z20 u20 z21 u21 z22 u22 z23 u23
  have HB := Lib.hid (B0.out.trans (hb1.mono B0.out.size))
  clear hb1
  go_wp2
  go_ret
  exact ⟨rfl, HB.out⟩

set_option maxHeartbeats 4000000 in
set_option maxRecDepth 100000 in
theorem sm_12 (b : Nat) (m n : Msg) (A A' L L' : Option Addr) (c c' d d' : Nat) (w : World) (hz : m.onw.length ≤ 1000000000) (hz2 : m.lst.length ≤ 1000000000) (h1 : LegsIn b w A m.onw) (h2 : LegsIn b w A' n.onw) (h3 : NumsIn b w L m.lst) (h4 : NumsIn b w L' n.lst) (e0 : (m.kind == n.kind) = true) (e1 : (m.act == n.act) = true) (e2 : (m.port.toList == n.port.toList) = true) (e3 : (m.num == n.num) = true) (e4 : lgE6 m.inn n.inn = true) (e5 : lgE6 m.out n.out = true) (e6 : decide (m.onw = n.onw) = true) (e7 : plE m.pl m.pa m.ps n.pl n.pa n.ps = true) (e8 : (m.cnt == n.cnt) = true) (e9 : (m.load == n.load) = true) (e10 : (m.sta == n.sta) = true) (e11 : (m.sq == n.sq) = true) (e12 : (m.wgt == n.wgt) = false) :
    Calls Tryz.prog 33 #[msgV m A c L d, msgV n A' c' L' d'] w fun e w' => e = .returned (.bool false) ∧ Below w.heap.size w w' := by
  have b0 := ((Below.refl w.heap.size w).alloc (Nat.le_refl _) (msgO m A c L d)).alloc (by rw [World.size_alloc]; omega) (msgO n A' c' L' d')
  have H1 := hide (h1.keep b0)
  have H2 := hide (h2.keep b0)
  have H3 := hide (h3.keep b0)
  have H4 := hide (h4.keep b0)
  have B0 := Lib.hid b0
  have Z1 := hide hz
  have Z2 := hide hz2
  clear h1 h2 h3 h4 b0 hz hz2
  have op4 := leg_eql m.inn n.inn
  have op5 := leg_eql m.out n.out
  have op7 := plate_eql m.pl m.pa m.ps n.pl n.pa n.ps
  obtain ⟨W1, hW⟩ : ∃ W1 : World, (w.alloc (msgO m A c L d)).alloc (msgO n A' c' L' d') = W1 := ⟨_, rfl⟩
  have hA : ∀ k v, (msgL m A c L d)[k]? = some v → W1.cell? ⟨w.heap.size, k, none⟩ = some v := fun k v hk => by rw [← hW]; exact box_cell hk
  have hN : ∀ k v, (msgL n A' c' L' d')[k]? = some v → W1.cell? ⟨w.heap.size + 1, k, none⟩ = some v := fun k v hk => by rw [← hW]; exact box_cell2 hk
  have z0 := hA 0 _ rfl
  have u0 := hN 0 _ rfl
  have z1 := hA 1 _ rfl
  have u1 := hN 1 _ rfl
  have z2 := hA 2 _ rfl
  have u2 := hN 2 _ rfl
  have z3 := hA 3 _ rfl
  have u3 := hN 3 _ rfl
  have z4 := hA 4 _ rfl
  have u4 := hN 4 _ rfl
  have z5 := hA 5 _ rfl
  have u5 := hN 5 _ rfl
  have z6 := hA 6 _ rfl
  have u6 := hN 6 _ rfl
  have z7 := hA 7 _ rfl
  have u7 := hN 7 _ rfl
  have z8 := hA 8 _ rfl
  have u8 := hN 8 _ rfl
  have z9 := hA 9 _ rfl
  have u9 := hN 9 _ rfl
  have z10 := hA 10 _ rfl
  have u10 := hN 10 _ rfl
  have z11 := hA 11 _ rfl
  have u11 := hN 11 _ rfl
  have z12 := hA 12 _ rfl
  have u12 := hN 12 _ rfl
  have z13 := hA 13 _ rfl
  have u13 := hN 13 _ rfl
  have z14 := hA 14 _ rfl
  have u14 := hN 14 _ rfl
  have z15 := hA 15 _ rfl
  have u15 := hN 15 _ rfl
  have z16 := hA 16 _ rfl
  have u16 := hN 16 _ rfl
  have z17 := hA 17 _ rfl
  have u17 := hN 17 _ rfl
  have z18 := hA 18 _ rfl
  have u18 := hN 18 _ rfl
  have z19 := hA 19 _ rfl
  have u19 := hN 19 _ rfl
  have z20 := hA 20 _ rfl
  have u20 := hN 20 _ rfl
  have z21 := hA 21 _ rfl
  have u21 := hN 21 _ rfl
  have z22 := hA 22 _ rfl
  have u22 := hN 22 _ rfl
  have z23 := hA 23 _ rfl
  have u23 := hN 23 _ rfl
  have z24 := hA 24 _ rfl
  have u24 := hN 24 _ rfl
  rw [hW] at H1 H2 H3 H4 B0
  clear hA hN
  have E6 := hide e6
  clear e6
  go_enter Tryz.func33, Tryz.ntmps33
  simp only [List.append_eq, List.cons_append, List.nil_append]
  go_wp2_with fail
  refine (eqlegs_any b m.onw n.onw A A' c c' _ (unhide Z1) (unhide H1) (unhide H2)).mono ?_
  rw [unhide E6]
  rintro e w1 ⟨rfl, hb1⟩
  have HK := Lib.hid hb1
  have x17 := kept hb1 z17
  have y17 := kept hb1 u17
  have x18 := kept hb1 z18
  have y18 := kept hb1 u18
  have x19 := kept hb1 z19
  have y19 := kept hb1 u19
  have x20 := kept hb1 z20
  have y20 := kept hb1 u20
  have x21 := kept hb1 z21
  have y21 := kept hb1 u21
  have x22 := kept hb1 z22
  have y22 := kept hb1 u22
  have x23 := kept hb1 z23
  have y23 := kept hb1 u23
  have x24 := kept hb1 z24
  have y24 := kept hb1 u24
  clear z0 u0 z1 u1 z2 u2 z3 u3 z4 u4 z5 u5 z6 u6 z7 u7 z8 u8 z9 u9 z10 u10 z11 u11 z12 u12 z13 u13 z14 u14 z15 u15 z16 u16 z17 u17 z18 u18 z19 u19 z20 u20 z21 u21 z22 u22 z23 u23 z24 u24
  have HB := Lib.hid (B0.out.trans (hb1.mono B0.out.size))
  clear hb1
  go_wp2
  go_ret
  exact ⟨rfl, HB.out⟩

set_option maxHeartbeats 4000000 in
set_option maxRecDepth 100000 in
theorem sm_13 (b : Nat) (m n : Msg) (A A' L L' : Option Addr) (c c' d d' : Nat) (w : World) (hz : m.onw.length ≤ 1000000000) (hz2 : m.lst.length ≤ 1000000000) (h1 : LegsIn b w A m.onw) (h2 : LegsIn b w A' n.onw) (h3 : NumsIn b w L m.lst) (h4 : NumsIn b w L' n.lst) (e0 : (m.kind == n.kind) = true) (e1 : (m.act == n.act) = true) (e2 : (m.port.toList == n.port.toList) = true) (e3 : (m.num == n.num) = true) (e4 : lgE6 m.inn n.inn = true) (e5 : lgE6 m.out n.out = true) (e6 : decide (m.onw = n.onw) = true) (e7 : plE m.pl m.pa m.ps n.pl n.pa n.ps = true) (e8 : (m.cnt == n.cnt) = true) (e9 : (m.load == n.load) = true) (e10 : (m.sta == n.sta) = true) (e11 : (m.sq == n.sq) = true) (e12 : (m.wgt == n.wgt) = true) (e13 : (m.sur.toList == n.sur.toList) = false) :
    Calls Tryz.prog 33 #[msgV m A c L d, msgV n A' c' L' d'] w fun e w' => e = .returned (.bool false) ∧ Below w.heap.size w w' := by
  have b0 := ((Below.refl w.heap.size w).alloc (Nat.le_refl _) (msgO m A c L d)).alloc (by rw [World.size_alloc]; omega) (msgO n A' c' L' d')
  have H1 := hide (h1.keep b0)
  have H2 := hide (h2.keep b0)
  have H3 := hide (h3.keep b0)
  have H4 := hide (h4.keep b0)
  have B0 := Lib.hid b0
  have Z1 := hide hz
  have Z2 := hide hz2
  clear h1 h2 h3 h4 b0 hz hz2
  have op4 := leg_eql m.inn n.inn
  have op5 := leg_eql m.out n.out
  have op7 := plate_eql m.pl m.pa m.ps n.pl n.pa n.ps
  obtain ⟨W1, hW⟩ : ∃ W1 : World, (w.alloc (msgO m A c L d)).alloc (msgO n A' c' L' d') = W1 := ⟨_, rfl⟩
  have hA : ∀ k v, (msgL m A c L d)[k]? = some v → W1.cell? ⟨w.heap.size, k, none⟩ = some v := fun k v hk => by rw [← hW]; exact box_cell hk
  have hN : ∀ k v, (msgL n A' c' L' d')[k]? = some v → W1.cell? ⟨w.heap.size + 1, k, none⟩ = some v := fun k v hk => by rw [← hW]; exact box_cell2 hk
  have z0 := hA 0 _ rfl
  have u0 := hN 0 _ rfl
  have z1 := hA 1 _ rfl
  have u1 := hN 1 _ rfl
  have z2 := hA 2 _ rfl
  have u2 := hN 2 _ rfl
  have z3 := hA 3 _ rfl
  have u3 := hN 3 _ rfl
  have z4 := hA 4 _ rfl
  have u4 := hN 4 _ rfl
  have z5 := hA 5 _ rfl
  have u5 := hN 5 _ rfl
  have z6 := hA 6 _ rfl
  have u6 := hN 6 _ rfl
  have z7 := hA 7 _ rfl
  have u7 := hN 7 _ rfl
  have z8 := hA 8 _ rfl
  have u8 := hN 8 _ rfl
  have z9 := hA 9 _ rfl
  have u9 := hN 9 _ rfl
  have z10 := hA 10 _ rfl
  have u10 := hN 10 _ rfl
  have z11 := hA 11 _ rfl
  have u11 := hN 11 _ rfl
  have z12 := hA 12 _ rfl
  have u12 := hN 12 _ rfl
  have z13 := hA 13 _ rfl
  have u13 := hN 13 _ rfl
  have z14 := hA 14 _ rfl
  have u14 := hN 14 _ rfl
  have z15 := hA 15 _ rfl
  have u15 := hN 15 _ rfl
  have z16 := hA 16 _ rfl
  have u16 := hN 16 _ rfl
  have z17 := hA 17 _ rfl
  have u17 := hN 17 _ rfl
  have z18 := hA 18 _ rfl
  have u18 := hN 18 _ rfl
  have z19 := hA 19 _ rfl
  have u19 := hN 19 _ rfl
  have z20 := hA 20 _ rfl
  have u20 := hN 20 _ rfl
  have z21 := hA 21 _ rfl
  have u21 := hN 21 _ rfl
  have z22 := hA 22 _ rfl
  have u22 := hN 22 _ rfl
  have z23 := hA 23 _ rfl
  have u23 := hN 23 _ rfl
  have z24 := hA 24 _ rfl
  have u24 := hN 24 _ rfl
  have z25 := hA 25 _ rfl
  have u25 := hN 25 _ rfl
  rw [hW] at H1 H2 H3 H4 B0
  clear hA hN
  have E6 := hide e6
  clear e6
  go_enter Tryz.func33, Tryz.ntmps33
  simp only [List.append_eq, List.cons_append, List.nil_append]
  go_wp2_with fail
  refine (eqlegs_any b m.onw n.onw A A' c c' _ (unhide Z1) (unhide H1) (unhide H2)).mono ?_
  rw [unhide E6]
  rintro e w1 ⟨rfl, hb1⟩
  have HK := Lib.hid hb1
  have x17 := kept hb1 z17
  have y17 := kept hb1 u17
  have x18 := kept hb1 z18
  have y18 := kept hb1 u18
  have x19 := kept hb1 z19
  have y19 := kept hb1 u19
  have x20 := kept hb1 z20
  have y20 := kept hb1 u20
  have x21 := kept hb1 z21
  have y21 := kept hb1 u21
  have x22 := kept hb1 z22
  have y22 := kept hb1 u22
  have x23 := kept hb1 z23
  have y23 := kept hb1 u23
  have x24 := kept hb1 z24
  have y24 := kept hb1 u24
  have x25 := kept hb1 z25
  have y25 := kept hb1 u25
  clear z0 u0 z1 u1 z2 u2 z3 u3 z4 u4 z5 u5 z6 u6 z7 u7 z8 u8 z9 u9 z10 u10 z11 u11 z12 u12 z13 u13 z14 u14 z15 u15 z16 u16 z17 u17 z18 u18 z19 u19 z20 u20 z21 u21 z22 u22 z23 u23 z24 u24 z25 u25
  have HB := Lib.hid (B0.out.trans (hb1.mono B0.out.size))
  clear hb1
  go_wp2
  go_ret
  exact ⟨rfl, HB.out⟩

set_option maxHeartbeats 4000000 in
set_option maxRecDepth 100000 in
theorem sm_14 (b : Nat) (m n : Msg) (A A' L L' : Option Addr) (c c' d d' : Nat) (w : World) (hz : m.onw.length ≤ 1000000000) (hz2 : m.lst.length ≤ 1000000000) (h1 : LegsIn b w A m.onw) (h2 : LegsIn b w A' n.onw) (h3 : NumsIn b w L m.lst) (h4 : NumsIn b w L' n.lst) (e0 : (m.kind == n.kind) = true) (e1 : (m.act == n.act) = true) (e2 : (m.port.toList == n.port.toList) = true) (e3 : (m.num == n.num) = true) (e4 : lgE6 m.inn n.inn = true) (e5 : lgE6 m.out n.out = true) (e6 : decide (m.onw = n.onw) = true) (e7 : plE m.pl m.pa m.ps n.pl n.pa n.ps = true) (e8 : (m.cnt == n.cnt) = true) (e9 : (m.load == n.load) = true) (e10 : (m.sta == n.sta) = true) (e11 : (m.sq == n.sq) = true) (e12 : (m.wgt == n.wgt) = true) (e13 : (m.sur.toList == n.sur.toList) = true) (e14 : (m.giv.toList == n.giv.toList) = false) :
    Calls Tryz.prog 33 #[msgV m A c L d, msgV n A' c' L' d'] w fun e w' => e = .returned (.bool false) ∧ Below w.heap.size w w' := by
  have b0 := ((Below.refl w.heap.size w).alloc (Nat.le_refl _) (msgO m A c L d)).alloc (by rw [World.size_alloc]; omega) (msgO n A' c' L' d')
  have H1 := hide (h1.keep b0)
  have H2 := hide (h2.keep b0)
  have H3 := hide (h3.keep b0)
  have H4 := hide (h4.keep b0)
  have B0 := Lib.hid b0
  have Z1 := hide hz
  have Z2 := hide hz2
  clear h1 h2 h3 h4 b0 hz hz2
  have op4 := leg_eql m.inn n.inn
  have op5 := leg_eql m.out n.out
  have op7 := plate_eql m.pl m.pa m.ps n.pl n.pa n.ps
  obtain ⟨W1, hW⟩ : ∃ W1 : World, (w.alloc (msgO m A c L d)).alloc (msgO n A' c' L' d') = W1 := ⟨_, rfl⟩
  have hA : ∀ k v, (msgL m A c L d)[k]? = some v → W1.cell? ⟨w.heap.size, k, none⟩ = some v := fun k v hk => by rw [← hW]; exact box_cell hk
  have hN : ∀ k v, (msgL n A' c' L' d')[k]? = some v → W1.cell? ⟨w.heap.size + 1, k, none⟩ = some v := fun k v hk => by rw [← hW]; exact box_cell2 hk
  have z0 := hA 0 _ rfl
  have u0 := hN 0 _ rfl
  have z1 := hA 1 _ rfl
  have u1 := hN 1 _ rfl
  have z2 := hA 2 _ rfl
  have u2 := hN 2 _ rfl
  have z3 := hA 3 _ rfl
  have u3 := hN 3 _ rfl
  have z4 := hA 4 _ rfl
  have u4 := hN 4 _ rfl
  have z5 := hA 5 _ rfl
  have u5 := hN 5 _ rfl
  have z6 := hA 6 _ rfl
  have u6 := hN 6 _ rfl
  have z7 := hA 7 _ rfl
  have u7 := hN 7 _ rfl
  have z8 := hA 8 _ rfl
  have u8 := hN 8 _ rfl
  have z9 := hA 9 _ rfl
  have u9 := hN 9 _ rfl
  have z10 := hA 10 _ rfl
  have u10 := hN 10 _ rfl
  have z11 := hA 11 _ rfl
  have u11 := hN 11 _ rfl
  have z12 := hA 12 _ rfl
  have u12 := hN 12 _ rfl
  have z13 := hA 13 _ rfl
  have u13 := hN 13 _ rfl
  have z14 := hA 14 _ rfl
  have u14 := hN 14 _ rfl
  have z15 := hA 15 _ rfl
  have u15 := hN 15 _ rfl
  have z16 := hA 16 _ rfl
  have u16 := hN 16 _ rfl
  have z17 := hA 17 _ rfl
  have u17 := hN 17 _ rfl
  have z18 := hA 18 _ rfl
  have u18 := hN 18 _ rfl
  have z19 := hA 19 _ rfl
  have u19 := hN 19 _ rfl
  have z20 := hA 20 _ rfl
  have u20 := hN 20 _ rfl
  have z21 := hA 21 _ rfl
  have u21 := hN 21 _ rfl
  have z22 := hA 22 _ rfl
  have u22 := hN 22 _ rfl
  have z23 := hA 23 _ rfl
  have u23 := hN 23 _ rfl
  have z24 := hA 24 _ rfl
  have u24 := hN 24 _ rfl
  have z25 := hA 25 _ rfl
  have u25 := hN 25 _ rfl
  have z26 := hA 26 _ rfl
  have u26 := hN 26 _ rfl
  rw [hW] at H1 H2 H3 H4 B0
  clear hA hN
  have E6 := hide e6
  clear e6
  go_enter Tryz.func33, Tryz.ntmps33
  simp only [List.append_eq, List.cons_append, List.nil_append]
  go_wp2_with fail
  refine (eqlegs_any b m.onw n.onw A A' c c' _ (unhide Z1) (unhide H1) (unhide H2)).mono ?_
  rw [unhide E6]
  rintro e w1 ⟨rfl, hb1⟩
  have HK := Lib.hid hb1
  have x17 := kept hb1 z17
  have y17 := kept hb1 u17
  have x18 := kept hb1 z18
  have y18 := kept hb1 u18
  have x19 := kept hb1 z19
  have y19 := kept hb1 u19
  have x20 := kept hb1 z20
  have y20 := kept hb1 u20
  have x21 := kept hb1 z21
  have y21 := kept hb1 u21
  have x22 := kept hb1 z22
  have y22 := kept hb1 u22
  have x23 := kept hb1 z23
  have y23 := kept hb1 u23
  have x24 := kept hb1 z24
  have y24 := kept hb1 u24
  have x25 := kept hb1 z25
  have y25 := kept hb1 u25
  have x26 := kept hb1 z26
  have y26 := kept hb1 u26
  clear z0 u0 z1 u1 z2 u2 z3 u3 z4 u4 z5 u5 z6 u6 z7 u7 z8 u8 z9 u9 z10 u10 z11 u11 z12 u12 z13 u13 z14 u14 z15 u15 z16 u16 z17 u17 z18 u18 z19 u19 z20 u20 z21 u21 z22 u22 z23 u23 z24 u24 z25 u25 z26 u26
  have HB := Lib.hid (B0.out.trans (hb1.mono B0.out.size))
  clear hb1
  go_wp2
  go_ret
  exact ⟨rfl, HB.out⟩

set_option maxHeartbeats 4000000 in
set_option maxRecDepth 100000 in
theorem sm_15 (b : Nat) (m n : Msg) (A A' L L' : Option Addr) (c c' d d' : Nat) (w : World) (hz : m.onw.length ≤ 1000000000) (hz2 : m.lst.length ≤ 1000000000) (h1 : LegsIn b w A m.onw) (h2 : LegsIn b w A' n.onw) (h3 : NumsIn b w L m.lst) (h4 : NumsIn b w L' n.lst) (e0 : (m.kind == n.kind) = true) (e1 : (m.act == n.act) = true) (e2 : (m.port.toList == n.port.toList) = true) (e3 : (m.num == n.num) = true) (e4 : lgE6 m.inn n.inn = true) (e5 : lgE6 m.out n.out = true) (e6 : decide (m.onw = n.onw) = true) (e7 : plE m.pl m.pa m.ps n.pl n.pa n.ps = true) (e8 : (m.cnt == n.cnt) = true) (e9 : (m.load == n.load) = true) (e10 : (m.sta == n.sta) = true) (e11 : (m.sq == n.sq) = true) (e12 : (m.wgt == n.wgt) = true) (e13 : (m.sur.toList == n.sur.toList) = true) (e14 : (m.giv.toList == n.giv.toList) = true) (e15 : (m.exc == n.exc) = false) :
    Calls Tryz.prog 33 #[msgV m A c L d, msgV n A' c' L' d'] w fun e w' => e = .returned (.bool false) ∧ Below w.heap.size w w' := by
  have b0 := ((Below.refl w.heap.size w).alloc (Nat.le_refl _) (msgO m A c L d)).alloc (by rw [World.size_alloc]; omega) (msgO n A' c' L' d')
  have H1 := hide (h1.keep b0)
  have H2 := hide (h2.keep b0)
  have H3 := hide (h3.keep b0)
  have H4 := hide (h4.keep b0)
  have B0 := Lib.hid b0
  have Z1 := hide hz
  have Z2 := hide hz2
  clear h1 h2 h3 h4 b0 hz hz2
  have op4 := leg_eql m.inn n.inn
  have op5 := leg_eql m.out n.out
  have op7 := plate_eql m.pl m.pa m.ps n.pl n.pa n.ps
  obtain ⟨W1, hW⟩ : ∃ W1 : World, (w.alloc (msgO m A c L d)).alloc (msgO n A' c' L' d') = W1 := ⟨_, rfl⟩
  have hA : ∀ k v, (msgL m A c L d)[k]? = some v → W1.cell? ⟨w.heap.size, k, none⟩ = some v := fun k v hk => by rw [← hW]; exact box_cell hk
  have hN : ∀ k v, (msgL n A' c' L' d')[k]? = some v → W1.cell? ⟨w.heap.size + 1, k, none⟩ = some v := fun k v hk => by rw [← hW]; exact box_cell2 hk
  have z0 := hA 0 _ rfl
  have u0 := hN 0 _ rfl
  have z1 := hA 1 _ rfl
  have u1 := hN 1 _ rfl
  have z2 := hA 2 _ rfl
  have u2 := hN 2 _ rfl
  have z3 := hA 3 _ rfl
  have u3 := hN 3 _ rfl
  have z4 := hA 4 _ rfl
  have u4 := hN 4 _ rfl
  have z5 := hA 5 _ rfl
  have u5 := hN 5 _ rfl
  have z6 := hA 6 _ rfl
  have u6 := hN 6 _ rfl
  have z7 := hA 7 _ rfl
  have u7 := hN 7 _ rfl
  have z8 := hA 8 _ rfl
  have u8 := hN 8 _ rfl
  have z9 := hA 9 _ rfl
  have u9 := hN 9 _ rfl
  have z10 := hA 10 _ rfl
  have u10 := hN 10 _ rfl
  have z11 := hA 11 _ rfl
  have u11 := hN 11 _ rfl
  have z12 := hA 12 _ rfl
  have u12 := hN 12 _ rfl
  have z13 := hA 13 _ rfl
  have u13 := hN 13 _ rfl
  have z14 := hA 14 _ rfl
  have u14 := hN 14 _ rfl
  have z15 := hA 15 _ rfl
  have u15 := hN 15 _ rfl
  have z16 := hA 16 _ rfl
  have u16 := hN 16 _ rfl
  have z17 := hA 17 _ rfl
  have u17 := hN 17 _ rfl
  have z18 := hA 18 _ rfl
  have u18 := hN 18 _ rfl
  have z19 := hA 19 _ rfl
  have u19 := hN 19 _ rfl
  have z20 := hA 20 _ rfl
  have u20 := hN 20 _ rfl
  have z21 := hA 21 _ rfl
  have u21 := hN 21 _ rfl
  have z22 := hA 22 _ rfl
  have u22 := hN 22 _ rfl
  have z23 := hA 23 _ rfl
  have u23 := hN 23 _ rfl
  have z24 := hA 24 _ rfl
  have u24 := hN 24 _ rfl
  have z25 := hA 25 _ rfl
  have u25 := hN 25 _ rfl
  have z26 := hA 26 _ rfl
  have u26 := hN 26 _ rfl
  have z27 := hA 27 _ rfl
  have u27 := hN 27 _ rfl
  rw [hW] at H1 H2 H3 H4 B0
  clear hA hN
  have E6 := hide e6
  clear e6
  go_enter Tryz.func33, Tryz.ntmps33
  simp only [List.append_eq, List.cons_append, List.nil_append]
  go_wp2_with fail
  refine (eqlegs_any b m.onw n.onw A A' c c' _ (unhide Z1) (unhide H1) (unhide H2)).mono ?_
  rw [unhide E6]
  rintro e w1 ⟨rfl, hb1⟩
  have HK := Lib.hid hb1
  have x17 := kept hb1 z17
  have y17 := kept hb1 u17
  have x18 := kept hb1 z18
  have y18 := kept hb1 u18
  have x19 := kept hb1 z19
  have y19 := kept hb1 u19
  have x20 := kept hb1 z20
  have y20 := kept hb1 u20
  have x21 := kept hb1 z21
  have y21 := kept hb1 u21
  have x22 := kept hb1 z22
  have y22 := kept hb1 u22
  have x23 := kept hb1 z23
  have y23 := kept hb1 u23
  have x24 := kept hb1 z24
  have y24 := kept hb1 u24
  have x25 := kept hb1 z25
  have y25 := kept hb1 u25
  have x26 := kept hb1 z26
  have y26 := kept hb1 u26
  have x27 := kept hb1 z27
  have y27 := kept hb1 u27
  clear z0 u0 z1 u1 z2 u2 z3 u3 z4 u4 z5 u5 z6 u6 z7 u7 z8 u8 z9 u9 z10 u10 z11 u11 z12 u12 z13 u13 z14 u14 z15 u15 z16 u16 z17 u17 z18 u18 z19 u19 z20 u20 z21 u21 z22 u22 z23 u23 z24 u24 z25 u25 z26 u26 z27 u27
  have HB := Lib.hid (B0.out.trans (hb1.mono B0.out.size))
  clear hb1
  go_wp2
  go_ret
  exact ⟨rfl, HB.out⟩

set_option maxHeartbeats 4000000 in
set_option maxRecDepth 100000 in
theorem sm_16 (b : Nat) (m n : Msg) (A A' L L' : Option Addr) (c c' d d' : Nat) (w : World) (hz : m.onw.length ≤ 1000000000) (hz2 : m.lst.length ≤ 1000000000) (h1 : LegsIn b w A m.onw) (h2 : LegsIn b w A' n.onw) (h3 : NumsIn b w L m.lst) (h4 : NumsIn b w L' n.lst) (e0 : (m.kind == n.kind) = true) (e1 : (m.act == n.act) = true) (e2 : (m.port.toList == n.port.toList) = true) (e3 : (m.num == n.num) = true) (e4 : lgE6 m.inn n.inn = true) (e5 : lgE6 m.out n.out = true) (e6 : decide (m.onw = n.onw) = true) (e7 : plE m.pl m.pa m.ps n.pl n.pa n.ps = true) (e8 : (m.cnt == n.cnt) = true) (e9 : (m.load == n.load) = true) (e10 : (m.sta == n.sta) = true) (e11 : (m.sq == n.sq) = true) (e12 : (m.wgt == n.wgt) = true) (e13 : (m.sur.toList == n.sur.toList) = true) (e14 : (m.giv.toList == n.giv.toList) = true) (e15 : (m.exc == n.exc) = true) (e16 : (m.node.toList == n.node.toList) = false) :
    Calls Tryz.prog 33 #[msgV m A c L d, msgV n A' c' L' d'] w fun e w' => e = .returned (.bool false) ∧ Below w.heap.size w w' := by
  have b0 := ((Below.refl w.heap.size w).alloc (Nat.le_refl _) (msgO m A c L d)).alloc (by rw [World.size_alloc]; omega) (msgO n A' c' L' d')
  have H1 := hide (h1.keep b0)
  have H2 := hide (h2.keep b0)
  have H3 := hide (h3.keep b0)
  have H4 := hide (h4.keep b0)
  have B0 := Lib.hid b0
  have Z1 := hide hz
  have Z2 := hide hz2
  clear h1 h2 h3 h4 b0 hz hz2
  have op4 := leg_eql m.inn n.inn
  have op5 := leg_eql m.out n.out
  have op7 := plate_eql m.pl m.pa m.ps n.pl n.pa n.ps
  obtain ⟨W1, hW⟩ : ∃ W1 : World, (w.alloc (msgO m A c L d)).alloc (msgO n A' c' L' d') = W1 := ⟨_, rfl⟩
  have hA : ∀ k v, (msgL m A c L d)[k]? = some v → W1.cell? ⟨w.heap.size, k, none⟩ = some v := fun k v hk => by rw [← hW]; exact box_cell hk
  have hN : ∀ k v, (msgL n A' c' L' d')[k]? = some v → W1.cell? ⟨w.heap.size + 1, k, none⟩ = some v := fun k v hk => by rw [← hW]; exact box_cell2 hk
  have z0 := hA 0 _ rfl
  have u0 := hN 0 _ rfl
  have z1 := hA 1 _ rfl
  have u1 := hN 1 _ rfl
  have z2 := hA 2 _ rfl
  have u2 := hN 2 _ rfl
  have z3 := hA 3 _ rfl
  have u3 := hN 3 _ rfl
  have z4 := hA 4 _ rfl
  have u4 := hN 4 _ rfl
  have z5 := hA 5 _ rfl
  have u5 := hN 5 _ rfl
  have z6 := hA 6 _ rfl
  have u6 := hN 6 _ rfl
  have z7 := hA 7 _ rfl
  have u7 := hN 7 _ rfl
  have z8 := hA 8 _ rfl
  have u8 := hN 8 _ rfl
  have z9 := hA 9 _ rfl
  have u9 := hN 9 _ rfl
  have z10 := hA 10 _ rfl
  have u10 := hN 10 _ rfl
  have z11 := hA 11 _ rfl
  have u11 := hN 11 _ rfl
  have z12 := hA 12 _ rfl
  have u12 := hN 12 _ rfl
  have z13 := hA 13 _ rfl
  have u13 := hN 13 _ rfl
  have z14 := hA 14 _ rfl
  have u14 := hN 14 _ rfl
  have z15 := hA 15 _ rfl
  have u15 := hN 15 _ rfl
  have z16 := hA 16 _ rfl
  have u16 := hN 16 _ rfl
  have z17 := hA 17 _ rfl
  have u17 := hN 17 _ rfl
  have z18 := hA 18 _ rfl
  have u18 := hN 18 _ rfl
  have z19 := hA 19 _ rfl
  have u19 := hN 19 _ rfl
  have z20 := hA 20 _ rfl
  have u20 := hN 20 _ rfl
  have z21 := hA 21 _ rfl
  have u21 := hN 21 _ rfl
  have z22 := hA 22 _ rfl
  have u22 := hN 22 _ rfl
  have z23 := hA 23 _ rfl
  have u23 := hN 23 _ rfl
  have z24 := hA 24 _ rfl
  have u24 := hN 24 _ rfl
  have z25 := hA 25 _ rfl
  have u25 := hN 25 _ rfl
  have z26 := hA 26 _ rfl
  have u26 := hN 26 _ rfl
  have z27 := hA 27 _ rfl
  have u27 := hN 27 _ rfl
  have z28 := hA 28 _ rfl
  have u28 := hN 28 _ rfl
  rw [hW] at H1 H2 H3 H4 B0
  clear hA hN
  have E6 := hide e6
  clear e6
  go_enter Tryz.func33, Tryz.ntmps33
  simp only [List.append_eq, List.cons_append, List.nil_append]
  go_wp2_with fail
  refine (eqlegs_any b m.onw n.onw A A' c c' _ (unhide Z1) (unhide H1) (unhide H2)).mono ?_
  rw [unhide E6]
  rintro e w1 ⟨rfl, hb1⟩
  have HK := Lib.hid hb1
  have x17 := kept hb1 z17
  have y17 := kept hb1 u17
  have x18 := kept hb1 z18
  have y18 := kept hb1 u18
  have x19 := kept hb1 z19
  have y19 := kept hb1 u19
  have x20 := kept hb1 z20
  have y20 := kept hb1 u20
  have x21 := kept hb1 z21
  have y21 := kept hb1 u21
  have x22 := kept hb1 z22
  have y22 := kept hb1 u22
  have x23 := kept hb1 z23
  have y23 := kept hb1 u23
  have x24 := kept hb1 z24
  have y24 := kept hb1 u24
  have x25 := kept hb1 z25
  have y25 := kept hb1 u25
  have x26 := kept hb1 z26
  have y26 := kept hb1 u26
  have x27 := kept hb1 z27
  have y27 := kept hb1 u27
  have x28 := kept hb1 z28
  have y28 := kept hb1 u28
  clear z0 u0 z1 u1 z2 u2 z3 u3 z4 u4 z5 u5 z6 u6 z7 u7 z8 u8 z9 u9 z10 u10 z11 u11 z12 u12 z13 u13 z14 u14 z15 u15 z16 u16 z17 u17 z18 u18 z19 u19 z20 u20 z21 u21 z22 u22 z23 u23 z24 u24 z25 u25 z26 u26 z27 u27 z28 u28
  have HB := Lib.hid (B0.out.trans (hb1.mono B0.out.size))
  clear hb1
  go_wp2
  go_ret
  exact ⟨rfl, HB.out⟩

set_option maxHeartbeats 4000000 in
set_option maxRecDepth 100000 in
theorem sm_17 (b : Nat) (m n : Msg) (A A' L L' : Option Addr) (c c' d d' : Nat) (w : World) (hz : m.onw.length ≤ 1000000000) (hz2 : m.lst.length ≤ 1000000000) (h1 : LegsIn b w A m.onw) (h2 : LegsIn b w A' n.onw) (h3 : NumsIn b w L m.lst) (h4 : NumsIn b w L' n.lst) (e0 : (m.kind == n.kind) = true) (e1 : (m.act == n.act) = true) (e2 : (m.port.toList == n.port.toList) = true) (e3 : (m.num == n.num) = true) (e4 : lgE6 m.inn n.inn = true) (e5 : lgE6 m.out n.out = true) (e6 : decide (m.onw = n.onw) = true) (e7 : plE m.pl m.pa m.ps n.pl n.pa n.ps = true) (e8 : (m.cnt == n.cnt) = true) (e9 : (m.load == n.load) = true) (e10 : (m.sta == n.sta) = true) (e11 : (m.sq == n.sq) = true) (e12 : (m.wgt == n.wgt) = true) (e13 : (m.sur.toList == n.sur.toList) = true) (e14 : (m.giv.toList == n.giv.toList) = true) (e15 : (m.exc == n.exc) = true) (e16 : (m.node.toList == n.node.toList) = true) (e17 : decide (m.lst = n.lst) = false) :
    Calls Tryz.prog 33 #[msgV m A c L d, msgV n A' c' L' d'] w fun e w' => e = .returned (.bool false) ∧ Below w.heap.size w w' := by
  have b0 := ((Below.refl w.heap.size w).alloc (Nat.le_refl _) (msgO m A c L d)).alloc (by rw [World.size_alloc]; omega) (msgO n A' c' L' d')
  have H1 := hide (h1.keep b0)
  have H2 := hide (h2.keep b0)
  have H3 := hide (h3.keep b0)
  have H4 := hide (h4.keep b0)
  have B0 := Lib.hid b0
  have Z1 := hide hz
  have Z2 := hide hz2
  clear h1 h2 h3 h4 b0 hz hz2
  have op4 := leg_eql m.inn n.inn
  have op5 := leg_eql m.out n.out
  have op7 := plate_eql m.pl m.pa m.ps n.pl n.pa n.ps
  obtain ⟨W1, hW⟩ : ∃ W1 : World, (w.alloc (msgO m A c L d)).alloc (msgO n A' c' L' d') = W1 := ⟨_, rfl⟩
  have hA : ∀ k v, (msgL m A c L d)[k]? = some v → W1.cell? ⟨w.heap.size, k, none⟩ = some v := fun k v hk => by rw [← hW]; exact box_cell hk
  have hN : ∀ k v, (msgL n A' c' L' d')[k]? = some v → W1.cell? ⟨w.heap.size + 1, k, none⟩ = some v := fun k v hk => by rw [← hW]; exact box_cell2 hk
  have z0 := hA 0 _ rfl
  have u0 := hN 0 _ rfl
  have z1 := hA 1 _ rfl
  have u1 := hN 1 _ rfl
  have z2 := hA 2 _ rfl
  have u2 := hN 2 _ rfl
  have z3 := hA 3 _ rfl
  have u3 := hN 3 _ rfl
  have z4 := hA 4 _ rfl
  have u4 := hN 4 _ rfl
  have z5 := hA 5 _ rfl
  have u5 := hN 5 _ rfl
  have z6 := hA 6 _ rfl
  have u6 := hN 6 _ rfl
  have z7 := hA 7 _ rfl
  have u7 := hN 7 _ rfl
  have z8 := hA 8 _ rfl
  have u8 := hN 8 _ rfl
  have z9 := hA 9 _ rfl
  have u9 := hN 9 _ rfl
  have z10 := hA 10 _ rfl
  have u10 := hN 10 _ rfl
  have z11 := hA 11 _ rfl
  have u11 := hN 11 _ rfl
  have z12 := hA 12 _ rfl
  have u12 := hN 12 _ rfl
  have z13 := hA 13 _ rfl
  have u13 := hN 13 _ rfl
  have z14 := hA 14 _ rfl
  have u14 := hN 14 _ rfl
  have z15 := hA 15 _ rfl
  have u15 := hN 15 _ rfl
  have z16 := hA 16 _ rfl
  have u16 := hN 16 _ rfl
  have z17 := hA 17 _ rfl
  have u17 := hN 17 _ rfl
  have z18 := hA 18 _ rfl
  have u18 := hN 18 _ rfl
  have z19 := hA 19 _ rfl
  have u19 := hN 19 _ rfl
  have z20 := hA 20 _ rfl
  have u20 := hN 20 _ rfl
  have z21 := hA 21 _ rfl
  have u21 := hN 21 _ rfl
  have z22 := hA 22 _ rfl
  have u22 := hN 22 _ rfl
  have z23 := hA 23 _ rfl
  have u23 := hN 23 _ rfl
  have z24 := hA 24 _ rfl
  have u24 := hN 24 _ rfl
  have z25 := hA 25 _ rfl
  have u25 := hN 25 _ rfl
  have z26 := hA 26 _ rfl
  have u26 := hN 26 _ rfl
  have z27 := hA 27 _ rfl
  have u27 := hN 27 _ rfl
  have z28 := hA 28 _ rfl
  have u28 := hN 28 _ rfl
  have z29 := hA 29 _ rfl
  have u29 := hN 29 _ rfl
  rw [hW] at H1 H2 H3 H4 B0
  clear hA hN
  have E6 := hide e6
  clear e6
  have E17 := hide e17
  clear e17
  go_enter Tryz.func33, Tryz.ntmps33
  simp only [List.append_eq, List.cons_append, List.nil_append]
  go_wp2_with fail
  refine (eqlegs_any b m.onw n.onw A A' c c' _ (unhide Z1) (unhide H1) (unhide H2)).mono ?_
  rw [unhide E6]
  rintro e w1 ⟨rfl, hb1⟩
  have HK := Lib.hid hb1
  have x17 := kept hb1 z17
  have y17 := kept hb1 u17
  have x18 := kept hb1 z18
  have y18 := kept hb1 u18
  have x19 := kept hb1 z19
  have y19 := kept hb1 u19
  have x20 := kept hb1 z20
  have y20 := kept hb1 u20
  have x21 := kept hb1 z21
  have y21 := kept hb1 u21
  have x22 := kept hb1 z22
  have y22 := kept hb1 u22
  have x23 := kept hb1 z23
  have y23 := kept hb1 u23
  have x24 := kept hb1 z24
  have y24 := kept hb1 u24
  have x25 := kept hb1 z25
  have y25 := kept hb1 u25
  have x26 := kept hb1 z26
  have y26 := kept hb1 u26
  have x27 := kept hb1 z27
  have y27 := kept hb1 u27
  have x28 := kept hb1 z28
  have y28 := kept hb1 u28
  have x29 := kept hb1 z29
  have y29 := kept hb1 u29
  clear z0 u0 z1 u1 z2 u2 z3 u3 z4 u4 z5 u5 z6 u6 z7 u7 z8 u8 z9 u9 z10 u10 z11 u11 z12 u12 z13 u13 z14 u14 z15 u15 z16 u16 z17 u17 z18 u18 z19 u19 z20 u20 z21 u21 z22 u22 z23 u23 z24 u24 z25 u25 z26 u26 z27 u27 z28 u28 z29 u29
  have HB := Lib.hid (B0.out.trans (hb1.mono B0.out.size))
  clear hb1
  go_wp2_with fail
  refine (eqints_any b m.lst n.lst L L' d d' _ (unhide Z2) ((unhide H3).keep HK.out) ((unhide H4).keep HK.out)).mono ?_
  rw [unhide E17]
  rintro e w2 ⟨rfl, hb2⟩
  have HB2 := Lib.hid (onward HB.out hb2)
  clear hb2 x17 y17 x18 y18 x19 y19 x20 y20 x21 y21 x22 y22 x23 y23 x24 y24 x25 y25 x26 y26 x27 y27 x28 y28 x29 y29
  go_wp2
  go_ret
  exact ⟨rfl, HB2.out⟩

set_option maxHeartbeats 4000000 in
set_option maxRecDepth 100000 in
theorem sm_18 (b : Nat) (m n : Msg) (A A' L L' : Option Addr) (c c' d d' : Nat) (w : World) (hz : m.onw.length ≤ 1000000000) (hz2 : m.lst.length ≤ 1000000000) (h1 : LegsIn b w A m.onw) (h2 : LegsIn b w A' n.onw) (h3 : NumsIn b w L m.lst) (h4 : NumsIn b w L' n.lst) (e0 : (m.kind == n.kind) = true) (e1 : (m.act == n.act) = true) (e2 : (m.port.toList == n.port.toList) = true) (e3 : (m.num == n.num) = true) (e4 : lgE6 m.inn n.inn = true) (e5 : lgE6 m.out n.out = true) (e6 : decide (m.onw = n.onw) = true) (e7 : plE m.pl m.pa m.ps n.pl n.pa n.ps = true) (e8 : (m.cnt == n.cnt) = true) (e9 : (m.load == n.load) = true) (e10 : (m.sta == n.sta) = true) (e11 : (m.sq == n.sq) = true) (e12 : (m.wgt == n.wgt) = true) (e13 : (m.sur.toList == n.sur.toList) = true) (e14 : (m.giv.toList == n.giv.toList) = true) (e15 : (m.exc == n.exc) = true) (e16 : (m.node.toList == n.node.toList) = true) (e17 : decide (m.lst = n.lst) = true) :
    Calls Tryz.prog 33 #[msgV m A c L d, msgV n A' c' L' d'] w fun e w' => e = .returned (.bool true) ∧ Below w.heap.size w w' := by
  have b0 := ((Below.refl w.heap.size w).alloc (Nat.le_refl _) (msgO m A c L d)).alloc (by rw [World.size_alloc]; omega) (msgO n A' c' L' d')
  have H1 := hide (h1.keep b0)
  have H2 := hide (h2.keep b0)
  have H3 := hide (h3.keep b0)
  have H4 := hide (h4.keep b0)
  have B0 := Lib.hid b0
  have Z1 := hide hz
  have Z2 := hide hz2
  clear h1 h2 h3 h4 b0 hz hz2
  have op4 := leg_eql m.inn n.inn
  have op5 := leg_eql m.out n.out
  have op7 := plate_eql m.pl m.pa m.ps n.pl n.pa n.ps
  obtain ⟨W1, hW⟩ : ∃ W1 : World, (w.alloc (msgO m A c L d)).alloc (msgO n A' c' L' d') = W1 := ⟨_, rfl⟩
  have hA : ∀ k v, (msgL m A c L d)[k]? = some v → W1.cell? ⟨w.heap.size, k, none⟩ = some v := fun k v hk => by rw [← hW]; exact box_cell hk
  have hN : ∀ k v, (msgL n A' c' L' d')[k]? = some v → W1.cell? ⟨w.heap.size + 1, k, none⟩ = some v := fun k v hk => by rw [← hW]; exact box_cell2 hk
  have z0 := hA 0 _ rfl
  have u0 := hN 0 _ rfl
  have z1 := hA 1 _ rfl
  have u1 := hN 1 _ rfl
  have z2 := hA 2 _ rfl
  have u2 := hN 2 _ rfl
  have z3 := hA 3 _ rfl
  have u3 := hN 3 _ rfl
  have z4 := hA 4 _ rfl
  have u4 := hN 4 _ rfl
  have z5 := hA 5 _ rfl
  have u5 := hN 5 _ rfl
  have z6 := hA 6 _ rfl
  have u6 := hN 6 _ rfl
  have z7 := hA 7 _ rfl
  have u7 := hN 7 _ rfl
  have z8 := hA 8 _ rfl
  have u8 := hN 8 _ rfl
  have z9 := hA 9 _ rfl
  have u9 := hN 9 _ rfl
  have z10 := hA 10 _ rfl
  have u10 := hN 10 _ rfl
  have z11 := hA 11 _ rfl
  have u11 := hN 11 _ rfl
  have z12 := hA 12 _ rfl
  have u12 := hN 12 _ rfl
  have z13 := hA 13 _ rfl
  have u13 := hN 13 _ rfl
  have z14 := hA 14 _ rfl
  have u14 := hN 14 _ rfl
  have z15 := hA 15 _ rfl
  have u15 := hN 15 _ rfl
  have z16 := hA 16 _ rfl
  have u16 := hN 16 _ rfl
  have z17 := hA 17 _ rfl
  have u17 := hN 17 _ rfl
  have z18 := hA 18 _ rfl
  have u18 := hN 18 _ rfl
  have z19 := hA 19 _ rfl
  have u19 := hN 19 _ rfl
  have z20 := hA 20 _ rfl
  have u20 := hN 20 _ rfl
  have z21 := hA 21 _ rfl
  have u21 := hN 21 _ rfl
  have z22 := hA 22 _ rfl
  have u22 := hN 22 _ rfl
  have z23 := hA 23 _ rfl
  have u23 := hN 23 _ rfl
  have z24 := hA 24 _ rfl
  have u24 := hN 24 _ rfl
  have z25 := hA 25 _ rfl
  have u25 := hN 25 _ rfl
  have z26 := hA 26 _ rfl
  have u26 := hN 26 _ rfl
  have z27 := hA 27 _ rfl
  have u27 := hN 27 _ rfl
  have z28 := hA 28 _ rfl
  have u28 := hN 28 _ rfl
  have z29 := hA 29 _ rfl
  have u29 := hN 29 _ rfl
  rw [hW] at H1 H2 H3 H4 B0
  clear hA hN
  have E6 := hide e6
  clear e6
  have E17 := hide e17
  clear e17
  go_enter Tryz.func33, Tryz.ntmps33
  simp only [List.append_eq, List.cons_append, List.nil_append]
  go_wp2_with fail
  refine (eqlegs_any b m.onw n.onw A A' c c' _ (unhide Z1) (unhide H1) (unhide H2)).mono ?_
  rw [unhide E6]
  rintro e w1 ⟨rfl, hb1⟩
  have HK := Lib.hid hb1
  have x17 := kept hb1 z17
  have y17 := kept hb1 u17
  have x18 := kept hb1 z18
  have y18 := kept hb1 u18
  have x19 := kept hb1 z19
  have y19 := kept hb1 u19
  have x20 := kept hb1 z20
  have y20 := kept hb1 u20
  have x21 := kept hb1 z21
  have y21 := kept hb1 u21
  have x22 := kept hb1 z22
  have y22 := kept hb1 u22
  have x23 := kept hb1 z23
  have y23 := kept hb1 u23
  have x24 := kept hb1 z24
  have y24 := kept hb1 u24
  have x25 := kept hb1 z25
  have y25 := kept hb1 u25
  have x26 := kept hb1 z26
  have y26 := kept hb1 u26
  have x27 := kept hb1 z27
  have y27 := kept hb1 u27
  have x28 := kept hb1 z28
  have y28 := kept hb1 u28
  have x29 := kept hb1 z29
  have y29 := kept hb1 u29
  clear z0 u0 z1 u1 z2 u2 z3 u3 z4 u4 z5 u5 z6 u6 z7 u7 z8 u8 z9 u9 z10 u10 z11 u11 z12 u12 z13 u13 z14 u14 z15 u15 z16 u16 z17 u17 z18 u18 z19 u19 z20 u20 z21 u21 z22 u22 z23 u23 z24 u24 z25 u25 z26 u26 z27 u27 z28 u28 z29 u29
  have HB := Lib.hid (B0.out.trans (hb1.mono B0.out.size))
  clear hb1
  go_wp2_with fail
  refine (eqints_any b m.lst n.lst L L' d d' _ (unhide Z2) ((unhide H3).keep HK.out) ((unhide H4).keep HK.out)).mono ?_
  rw [unhide E17]
  rintro e w2 ⟨rfl, hb2⟩
  have HB2 := Lib.hid (onward HB.out hb2)
  clear hb2 x17 y17 x18 y18 x19 y19 x20 y20 x21 y21 x22 y22 x23 y23 x24 y24 x25 y25 x26 y26 x27 y27 x28 y28 x29 y29
  go_wp2
  go_ret
  exact ⟨rfl, HB2.out⟩

theorem same_any (b : Nat) (m n : Msg) (A A' L L' : Option Addr) (c c' d d' : Nat) (w : World) (hz : m.onw.length ≤ 1000000000) (hz2 : m.lst.length ≤ 1000000000) (h1 : LegsIn b w A m.onw) (h2 : LegsIn b w A' n.onw) (h3 : NumsIn b w L m.lst) (h4 : NumsIn b w L' n.lst) :
    Calls Tryz.prog 33 #[msgV m A c L d, msgV n A' c' L' d'] w fun e w' => e = .returned (.bool (sameM m n)) ∧ Below w.heap.size w w' := by
  rw [← smB_dec]
  unfold smB
  cases e0 : (m.kind == n.kind) with
  | false => exact sm_0 b m n A A' L L' c c' d d' w hz hz2 h1 h2 h3 h4 e0
  | true =>
  cases e1 : (m.act == n.act) with
  | false => exact sm_1 b m n A A' L L' c c' d d' w hz hz2 h1 h2 h3 h4 e0 e1
  | true =>
  cases e2 : (m.port.toList == n.port.toList) with
  | false => exact sm_2 b m n A A' L L' c c' d d' w hz hz2 h1 h2 h3 h4 e0 e1 e2
  | true =>
  cases e3 : (m.num == n.num) with
  | false => exact sm_3 b m n A A' L L' c c' d d' w hz hz2 h1 h2 h3 h4 e0 e1 e2 e3
  | true =>
  cases e4 : lgE6 m.inn n.inn with
  | false => exact sm_4 b m n A A' L L' c c' d d' w hz hz2 h1 h2 h3 h4 e0 e1 e2 e3 e4
  | true =>
  cases e5 : lgE6 m.out n.out with
  | false => exact sm_5 b m n A A' L L' c c' d d' w hz hz2 h1 h2 h3 h4 e0 e1 e2 e3 e4 e5
  | true =>
  cases e6 : decide (m.onw = n.onw) with
  | false => exact sm_6 b m n A A' L L' c c' d d' w hz hz2 h1 h2 h3 h4 e0 e1 e2 e3 e4 e5 e6
  | true =>
  cases e7 : plE m.pl m.pa m.ps n.pl n.pa n.ps with
  | false => exact sm_7 b m n A A' L L' c c' d d' w hz hz2 h1 h2 h3 h4 e0 e1 e2 e3 e4 e5 e6 e7
  | true =>
  cases e8 : (m.cnt == n.cnt) with
  | false => exact sm_8 b m n A A' L L' c c' d d' w hz hz2 h1 h2 h3 h4 e0 e1 e2 e3 e4 e5 e6 e7 e8
  | true =>
  cases e9 : (m.load == n.load) with
  | false => exact sm_9 b m n A A' L L' c c' d d' w hz hz2 h1 h2 h3 h4 e0 e1 e2 e3 e4 e5 e6 e7 e8 e9
  | true =>
  cases e10 : (m.sta == n.sta) with
  | false => exact sm_10 b m n A A' L L' c c' d d' w hz hz2 h1 h2 h3 h4 e0 e1 e2 e3 e4 e5 e6 e7 e8 e9 e10
  | true =>
  cases e11 : (m.sq == n.sq) with
  | false => exact sm_11 b m n A A' L L' c c' d d' w hz hz2 h1 h2 h3 h4 e0 e1 e2 e3 e4 e5 e6 e7 e8 e9 e10 e11
  | true =>
  cases e12 : (m.wgt == n.wgt) with
  | false => exact sm_12 b m n A A' L L' c c' d d' w hz hz2 h1 h2 h3 h4 e0 e1 e2 e3 e4 e5 e6 e7 e8 e9 e10 e11 e12
  | true =>
  cases e13 : (m.sur.toList == n.sur.toList) with
  | false => exact sm_13 b m n A A' L L' c c' d d' w hz hz2 h1 h2 h3 h4 e0 e1 e2 e3 e4 e5 e6 e7 e8 e9 e10 e11 e12 e13
  | true =>
  cases e14 : (m.giv.toList == n.giv.toList) with
  | false => exact sm_14 b m n A A' L L' c c' d d' w hz hz2 h1 h2 h3 h4 e0 e1 e2 e3 e4 e5 e6 e7 e8 e9 e10 e11 e12 e13 e14
  | true =>
  cases e15 : (m.exc == n.exc) with
  | false => exact sm_15 b m n A A' L L' c c' d d' w hz hz2 h1 h2 h3 h4 e0 e1 e2 e3 e4 e5 e6 e7 e8 e9 e10 e11 e12 e13 e14 e15
  | true =>
  cases e16 : (m.node.toList == n.node.toList) with
  | false => exact sm_16 b m n A A' L L' c c' d d' w hz hz2 h1 h2 h3 h4 e0 e1 e2 e3 e4 e5 e6 e7 e8 e9 e10 e11 e12 e13 e14 e15 e16
  | true =>
  cases e17 : decide (m.lst = n.lst) with
  | false => exact sm_17 b m n A A' L L' c c' d d' w hz hz2 h1 h2 h3 h4 e0 e1 e2 e3 e4 e5 e6 e7 e8 e9 e10 e11 e12 e13 e14 e15 e16 e17
  | true =>
  exact sm_18 b m n A A' L L' c c' d d' w hz hz2 h1 h2 h3 h4 e0 e1 e2 e3 e4 e5 e6 e7 e8 e9 e10 e11 e12 e13 e14 e15 e16 e17
end Go.Proofs.YtglgobmmmghdoaaGreatDoor
