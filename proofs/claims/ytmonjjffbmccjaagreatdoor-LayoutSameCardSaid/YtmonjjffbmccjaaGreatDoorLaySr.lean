/-
  Contract of the document's own Same of layouts.
-/
import Derived.Test.YtmonjjffbmccjaaGreatDoorLaySm
import Derived.RegionTactic
import Derived.BigRegion
import Derived.Deep.RegionHeld3
namespace Go.Proofs.YtmonjjffbmccjaaGreatDoor
open Go.RowKit

theorem below_drew {n : Nat} {w w1 : World} (h : Below n w w1) : Below n w w1.drew := ⟨h.os, h.tape, h.output, h.size, h.block⟩
theorem bool_two (b : Bool) : b = false ∨ b = true := by cases b <;> simp
/-- The first field in which two nodes differ. -/
theorem nd_first (n1 n2 : ByteArray) (k1 k2 l1 l2 z1 z2 : Int) :
    (n1.toList == n2.toList) = false ∨ ((n1.toList == n2.toList) = true ∧ (k1 != k2) = true) ∨ ((n1.toList == n2.toList) = true ∧ (k1 != k2) = false ∧ (l1 != l2) = true) ∨ ((n1.toList == n2.toList) = true ∧ (k1 != k2) = false ∧ (l1 != l2) = false ∧ (z1 != z2) = true) ∨ ((n1.toList == n2.toList) = true ∧ (k1 != k2) = false ∧ (l1 != l2) = false ∧ (z1 != z2) = false) := by
  cases (n1.toList == n2.toList) <;> cases (k1 != k2) <;> cases (l1 != l2) <;> cases (z1 != z2) <;> simp
set_option maxHeartbeats 8000000 in
theorem rlsame_any (b : Nat) (x y : Lay) (A D A' D' : Option Addr) (c d c' d' : Nat) (w : World) (h : LayIn b w x A D) (h' : LayIn b w y A' D') :
    Calls Tryz.prog 29 #[lV x A c D d, lV y A' c' D' d'] w fun e w' => e = .returned (.bool (sameL x y)) ∧ Below w.heap.size w w' := by
  have b1 := (Below.refl w.heap.size w).alloc (Nat.le_refl _) (lO x A c D d)
  have b0 := b1.alloc (by rw [World.size_alloc]; omega) (lO y A' c' D' d')
  have HX1 := hide (show (((w.alloc (lO x A c D d)).alloc (lO y A' c' D' d')).heap[w.heap.size]? = some (lO x A c D d)) from heap_later (heap_alloc_new w (lO x A c D d)) _)
  have hx2 := heap_alloc_new (w.alloc (lO x A c D d)) (lO y A' c' D' d')
  rw [World.size_alloc] at hx2
  have HX2 := hide hx2
  have H1 := hide (h.keep b0)
  have H2 := hide (h'.keep b0)
  have B0 := Lib.hid b0
  clear h h' b0 b1 hx2
  have HV := hide (show sameL x y = (decide (x.nodes = y.nodes) && decide (x.devs = y.devs)) from rfl)
  by_cases hl : x.nodes.length = y.nodes.length
  · by_cases hl2 : x.devs.length = y.devs.length
    · have z0 : ((x.nodes.length : Int) != (y.nodes.length : Int)) = false := by rw [bne_eq_false_iff_eq, hl]
      have z1 : ((x.devs.length : Int) != (y.devs.length : Int)) = false := by rw [bne_eq_false_iff_eq, hl2]
      have HL := hide hl
      have HL2 := hide hl2
      have hnn := (unhide H1).nn
      have hdd := (unhide H1).nd
      clear hl hl2
      go_enter Tryz.func29, Tryz.ntmps29
      go_wp2
      generalize ((w.alloc (lO x A c D d)).alloc (lO y A' c' D' d')) = W1 at *
      go_loopw [5] (fun i wr => ∃ k : Nat, k ≤ x.nodes.length ∧ i = .int .i64 k ∧ Hid (x.nodes.take k = y.nodes.take k) ∧ Below W1.heap.size W1 wr) (fun i _ => x.nodes.length - (intOf i).toNat)
      case atStart => exact ⟨0, Nat.zero_le _, rfl, Lib.hid rfl, Below.refl _ _⟩
      case round =>
        obtain ⟨k, hk2, rfl, hd, hb⟩ := hrel
        obtain ⟨wo, rfl⟩ : ∃ wo : World, wo = wr := ⟨_, rfl⟩
        have HB := Lib.hid hb
        clear hb
        have hx := heap_keep2 (unhide HX1) HB.out
        have hy := heap_keep2 (unhide HX2) HB.out
        have x0 : wo.cell? ⟨w.heap.size, 0, none⟩ = some (.slice A x.nodes.length c) := by rw [Lib.cell_of_heap hx]; rfl
        have x1 : wo.cell? ⟨w.heap.size, 1, none⟩ = some (.slice D x.devs.length d) := by rw [Lib.cell_of_heap hx]; rfl
        have y0 : wo.cell? ⟨w.heap.size + 1, 0, none⟩ = some (.slice A' y.nodes.length c') := by rw [Lib.cell_of_heap hy]; rfl
        have y1 : wo.cell? ⟨w.heap.size + 1, 1, none⟩ = some (.slice D' y.devs.length d') := by rw [Lib.cell_of_heap hy]; rfl
        clear hx hy
        by_cases hlt : k < x.nodes.length
        · have hlt2 : k < y.nodes.length := by have := unhide HL; omega
          obtain ⟨g, off, rfl, _, hcx⟩ := ((unhide H1).nds.keep HB.out) (by omega)
          obtain ⟨g', off', rfl, _, hcy⟩ := ((unhide H2).nds.keep HB.out) (by omega)
          obtain ⟨q0, q1, q2, q3, P1, d1, q4, _, hst⟩ := hcx k hlt
          obtain ⟨r0, r1, r2, r3, P2, d2, r4, _, hst'⟩ := hcy k hlt2
          clear hcx hcy
          have kl : (k : Int) < (x.nodes.length : Int) := by omega
          have kl2 : (k : Int) < (y.nodes.length : Int) := by omega
          have k0 : (0 : Int) ≤ (k : Int) := by omega
          have HP := hide fun h => take_eq_step (d := nd0) hlt hlt2 hd.out h
          have HN := hide fun (h : x.nodes.getD k nd0 ≠ y.nodes.getD k nd0) => ne_of_at h
          have hpz : (x.nodes.getD k nd0).exits.length ≤ 1000000000 := by have := (unhide H1).few.at hlt; omega
          have HD := hide (nd_eq (x.nodes.getD k nd0) (y.nodes.getD k nd0))
          generalize x.nodes.getD k nd0 = X at *
          generalize y.nodes.getD k nd0 = Y at *
          have HK := hide fun W (hb : Below wo.heap.size wo W) => kints_any b X.exits Y.exits P1 P2 d1 d2 W hpz (hst.keep hb) (hst'.keep hb)
          clear hst hst' hpz
          obtain ⟨n1, k1, l1, z1, e1⟩ := X
          obtain ⟨n2, k2, l2, z2, e2⟩ := Y
          simp only [] at q0 q1 q2 q3 q4 r0 r1 r2 r3 r4
          have ne1 : wo.heap.size ≠ g := World.new_ne wo _ q0
          have ne2 : wo.heap.size ≠ g' := World.new_ne wo _ r0
          have ne3 : wo.heap.size ≠ w.heap.size := World.new_ne wo _ x0
          have ne4 : wo.heap.size ≠ w.heap.size + 1 := World.new_ne wo _ y0
          have ne5 : wo.heap.size + 1 ≠ g := by have := World.block_lt_of_cell? wo _ q0; simp only [] at this; omega
          have ne6 : wo.heap.size + 1 ≠ g' := by have := World.block_lt_of_cell? wo _ r0; simp only [] at this; omega
          have ne7 : wo.heap.size + 1 ≠ w.heap.size := by have := World.block_lt_of_cell? wo _ x0; simp only [] at this; omega
          have ne8 : wo.heap.size + 1 ≠ w.heap.size + 1 := by have := World.block_lt_of_cell? wo _ y0; simp only [] at this; omega
          have hA1 := (Below.refl wo.heap.size wo).alloc (Nat.le_refl _) (.cells #[.string n1, .int .i64 k1, .int .i64 l1, .int .i64 z1, .slice P1 e1.length d1] 55)
          have hB1 := (Below.refl wo.heap.size wo).alloc (Nat.le_refl _) (.cells #[.string n2, .int .i64 k2, .int .i64 l2, .int .i64 z2, .slice P2 e2.length d2] 55)
          have HA := hide (below_drew (hA1.alloc hA1.size (.cells #[.string n2, .int .i64 k2, .int .i64 l2, .int .i64 z2, .slice P2 e2.length d2] 55)))
          have HBB := hide (below_drew (hB1.alloc hB1.size (.cells #[.string n1, .int .i64 k1, .int .i64 l1, .int .i64 z1, .slice P1 e1.length d1] 55)))
          clear hA1 hB1
          have HKA := hide (unhide HK _ (unhide HA))
          have HKB := hide (unhide HK _ (unhide HBB))
          have HF := hide (nd_first n1 n2 k1 k2 l1 l2 z1 z2)
          have HD1 := hide ((unhide HD).trans (by rw [← toList_eq]))
          have HD2 := hide (show ∀ a b : Int, (a != b) = false → (a == b) = true from fun a b h => by rw [bne_eq_false_iff_eq] at h; rw [beq_iff_eq]; exact h)
          have HD3 := hide (show ∀ a b : Int, (a != b) = true → (a == b) = false from fun a b h => by rw [bne_iff_ne] at h; rw [beq_eq_false_iff_ne]; exact h)
          have hne : ((n1.toList == n2.toList) = false) ∨ ((n1.toList == n2.toList) = true ∧ (k1 != k2) = true) ∨ ((n1.toList == n2.toList) = true ∧ (k1 != k2) = false ∧ (l1 != l2) = true) ∨ ((n1.toList == n2.toList) = true ∧ (k1 != k2) = false ∧ (l1 != l2) = false ∧ (z1 != z2) = true) → decide ((⟨n1, k1, l1, z1, e1⟩ : Nd) = ⟨n2, k2, l2, z2, e2⟩) = false := fun h => by
            rw [unhide HD1]
            rcases h with f1 | ⟨f1, f2⟩ | ⟨f1, f2, f3⟩ | ⟨f1, f2, f3, f4⟩
            · rw [f1]; rfl
            · rw [f1, unhide HD3 _ _ f2]; rfl
            · rw [f1, unhide HD2 _ _ f2, unhide HD3 _ _ f3]; rfl
            · rw [f1, unhide HD2 _ _ f2, unhide HD2 _ _ f3, unhide HD3 _ _ f4]; rfl
          have HNe := hide hne
          clear hne HK
          have HR := hide (show decide ((⟨n1, k1, l1, z1, e1⟩ : Nd) = ⟨n2, k2, l2, z2, e2⟩) = false → sameL x y = false from fun h => by
            rw [unhide HV, decide_eq_false (p := x.nodes = y.nodes) (unhide HN (of_decide_eq_false h))]; rfl)
          rcases unhide HF with f1 | ⟨f1, f2⟩ | ⟨f1, f2, f3⟩ | ⟨f1, f2, f3, f4⟩ | ⟨f1, f2, f3, f4⟩
          · have HS := hide (unhide HR (unhide HNe (.inl f1)))
            go_wp2_with fail
            go_region_held3 (fun W => W.cell? ⟨w.heap.size, 0, none⟩ = some (.slice (some ⟨g, off, none⟩) x.nodes.length c) ∧ W.cell? ⟨w.heap.size + 1, 0, none⟩ = some (.slice (some ⟨g', off', none⟩) y.nodes.length c')
                ∧ W.cell? ⟨g, off + k * 5, none⟩ = some (.string n1) ∧ W.cell? ⟨g, off + k * 5 + 1, none⟩ = some (.int .i64 k1) ∧ W.cell? ⟨g, off + k * 5 + 2, none⟩ = some (.int .i64 l1) ∧ W.cell? ⟨g, off + k * 5 + 3, none⟩ = some (.int .i64 z1) ∧ W.cell? ⟨g, off + k * 5 + 4, none⟩ = some (.slice P1 e1.length d1)
                ∧ W.cell? ⟨g', off' + k * 5, none⟩ = some (.string n2) ∧ W.cell? ⟨g', off' + k * 5 + 1, none⟩ = some (.int .i64 k2) ∧ W.cell? ⟨g', off' + k * 5 + 2, none⟩ = some (.int .i64 l2) ∧ W.cell? ⟨g', off' + k * 5 + 3, none⟩ = some (.int .i64 z2) ∧ W.cell? ⟨g', off' + k * 5 + 4, none⟩ = some (.slice P2 e2.length d2)) (go_keep) (fail)
            all_goals
              rename_i hH
              clear hH
              go_wp2
              go_ret
              exact ⟨ret_bool (by rw [unhide HS]), B0.out.trans ((onward HB.out (by first | exact unhide HA | exact unhide HBB)).mono B0.out.size)⟩
          · have HS := hide (unhide HR (unhide HNe (.inr (.inl ⟨f1, f2⟩))))
            go_wp2_with fail
            go_region_held3 (fun W => W.cell? ⟨w.heap.size, 0, none⟩ = some (.slice (some ⟨g, off, none⟩) x.nodes.length c) ∧ W.cell? ⟨w.heap.size + 1, 0, none⟩ = some (.slice (some ⟨g', off', none⟩) y.nodes.length c')
                ∧ W.cell? ⟨g, off + k * 5, none⟩ = some (.string n1) ∧ W.cell? ⟨g, off + k * 5 + 1, none⟩ = some (.int .i64 k1) ∧ W.cell? ⟨g, off + k * 5 + 2, none⟩ = some (.int .i64 l1) ∧ W.cell? ⟨g, off + k * 5 + 3, none⟩ = some (.int .i64 z1) ∧ W.cell? ⟨g, off + k * 5 + 4, none⟩ = some (.slice P1 e1.length d1)
                ∧ W.cell? ⟨g', off' + k * 5, none⟩ = some (.string n2) ∧ W.cell? ⟨g', off' + k * 5 + 1, none⟩ = some (.int .i64 k2) ∧ W.cell? ⟨g', off' + k * 5 + 2, none⟩ = some (.int .i64 l2) ∧ W.cell? ⟨g', off' + k * 5 + 3, none⟩ = some (.int .i64 z2) ∧ W.cell? ⟨g', off' + k * 5 + 4, none⟩ = some (.slice P2 e2.length d2)) (go_keep) (fail)
            all_goals
              rename_i hH
              clear hH
              go_wp2
              go_ret
              exact ⟨ret_bool (by rw [unhide HS]), B0.out.trans ((onward HB.out (by first | exact unhide HA | exact unhide HBB)).mono B0.out.size)⟩
          · have HS := hide (unhide HR (unhide HNe (.inr (.inr (.inl ⟨f1, f2, f3⟩)))))
            go_wp2_with fail
            go_region_held3 (fun W => W.cell? ⟨w.heap.size, 0, none⟩ = some (.slice (some ⟨g, off, none⟩) x.nodes.length c) ∧ W.cell? ⟨w.heap.size + 1, 0, none⟩ = some (.slice (some ⟨g', off', none⟩) y.nodes.length c')
                ∧ W.cell? ⟨g, off + k * 5, none⟩ = some (.string n1) ∧ W.cell? ⟨g, off + k * 5 + 1, none⟩ = some (.int .i64 k1) ∧ W.cell? ⟨g, off + k * 5 + 2, none⟩ = some (.int .i64 l1) ∧ W.cell? ⟨g, off + k * 5 + 3, none⟩ = some (.int .i64 z1) ∧ W.cell? ⟨g, off + k * 5 + 4, none⟩ = some (.slice P1 e1.length d1)
                ∧ W.cell? ⟨g', off' + k * 5, none⟩ = some (.string n2) ∧ W.cell? ⟨g', off' + k * 5 + 1, none⟩ = some (.int .i64 k2) ∧ W.cell? ⟨g', off' + k * 5 + 2, none⟩ = some (.int .i64 l2) ∧ W.cell? ⟨g', off' + k * 5 + 3, none⟩ = some (.int .i64 z2) ∧ W.cell? ⟨g', off' + k * 5 + 4, none⟩ = some (.slice P2 e2.length d2)) (go_keep) (fail)
            all_goals
              rename_i hH
              clear hH
              go_wp2
              go_ret
              exact ⟨ret_bool (by rw [unhide HS]), B0.out.trans ((onward HB.out (by first | exact unhide HA | exact unhide HBB)).mono B0.out.size)⟩
          · have HS := hide (unhide HR (unhide HNe (.inr (.inr (.inr ⟨f1, f2, f3, f4⟩)))))
            go_wp2_with fail
            go_region_held3 (fun W => W.cell? ⟨w.heap.size, 0, none⟩ = some (.slice (some ⟨g, off, none⟩) x.nodes.length c) ∧ W.cell? ⟨w.heap.size + 1, 0, none⟩ = some (.slice (some ⟨g', off', none⟩) y.nodes.length c')
                ∧ W.cell? ⟨g, off + k * 5, none⟩ = some (.string n1) ∧ W.cell? ⟨g, off + k * 5 + 1, none⟩ = some (.int .i64 k1) ∧ W.cell? ⟨g, off + k * 5 + 2, none⟩ = some (.int .i64 l1) ∧ W.cell? ⟨g, off + k * 5 + 3, none⟩ = some (.int .i64 z1) ∧ W.cell? ⟨g, off + k * 5 + 4, none⟩ = some (.slice P1 e1.length d1)
                ∧ W.cell? ⟨g', off' + k * 5, none⟩ = some (.string n2) ∧ W.cell? ⟨g', off' + k * 5 + 1, none⟩ = some (.int .i64 k2) ∧ W.cell? ⟨g', off' + k * 5 + 2, none⟩ = some (.int .i64 l2) ∧ W.cell? ⟨g', off' + k * 5 + 3, none⟩ = some (.int .i64 z2) ∧ W.cell? ⟨g', off' + k * 5 + 4, none⟩ = some (.slice P2 e2.length d2)) (go_keep) (fail)
            all_goals
              rename_i hH
              clear hH
              go_wp2
              go_ret
              exact ⟨ret_bool (by rw [unhide HS]), B0.out.trans ((onward HB.out (by first | exact unhide HA | exact unhide HBB)).mono B0.out.size)⟩
          · have HE := hide (show decide ((⟨n1, k1, l1, z1, e1⟩ : Nd) = ⟨n2, k2, l2, z2, e2⟩) = decide (e1 = e2) by rw [unhide HD1, f1, unhide HD2 _ _ f2, unhide HD2 _ _ f3, unhide HD2 _ _ f4]; rfl)
            clear HD1 HD2 HD3
            simp only [] at HKA HKB
            cases hee : decide (e1 = e2)
            all_goals
              rw [hee] at HKA HKB HE
              go_wp2_with fail
              go_region_held3 (fun W => W.cell? ⟨w.heap.size, 0, none⟩ = some (.slice (some ⟨g, off, none⟩) x.nodes.length c) ∧ W.cell? ⟨w.heap.size + 1, 0, none⟩ = some (.slice (some ⟨g', off', none⟩) y.nodes.length c')
                  ∧ W.cell? ⟨g, off + k * 5, none⟩ = some (.string n1) ∧ W.cell? ⟨g, off + k * 5 + 1, none⟩ = some (.int .i64 k1) ∧ W.cell? ⟨g, off + k * 5 + 2, none⟩ = some (.int .i64 l1) ∧ W.cell? ⟨g, off + k * 5 + 3, none⟩ = some (.int .i64 z1) ∧ W.cell? ⟨g, off + k * 5 + 4, none⟩ = some (.slice P1 e1.length d1)
                  ∧ W.cell? ⟨g', off' + k * 5, none⟩ = some (.string n2) ∧ W.cell? ⟨g', off' + k * 5 + 1, none⟩ = some (.int .i64 k2) ∧ W.cell? ⟨g', off' + k * 5 + 2, none⟩ = some (.int .i64 l2) ∧ W.cell? ⟨g', off' + k * 5 + 3, none⟩ = some (.int .i64 z2) ∧ W.cell? ⟨g', off' + k * 5 + 4, none⟩ = some (.slice P2 e2.length d2)) (go_keep) (fail)
              all_goals
                rename_i hH
                clear hH
                go_wp2_with fail
                first
                  | (refine (unhide HKA).mono ?_
                     rintro e w5 ⟨rfl, hb5⟩
                     have HB5 := hide (onward HB.out (onward (unhide HA) hb5)))
                  | (refine (unhide HKB).mono ?_
                     rintro e w5 ⟨rfl, hb5⟩
                     have HB5 := hide (onward HB.out (onward (unhide HBB) hb5)))
                clear hb5
                go_wp2
                first
                  | (go_ret; exact ⟨ret_bool (by rw [unhide HR (unhide HE)]), B0.out.trans ((unhide HB5).mono B0.out.size)⟩)
                  | (go_roundw
                     case rel => exact ⟨k + 1, by omega, by go_num, Lib.hid (unhide HP (of_decide_eq_true (unhide HE))), unhide HB5⟩
                     case measure => simp [intOf]; omega)
        · have HE := hide (show x.nodes = y.nodes by
            have h1 := hd.out
            have h2 := unhide HL
            rw [List.take_of_length_le (show x.nodes.length ≤ k by omega), List.take_of_length_le (show y.nodes.length ≤ k by omega)] at h1
            exact h1)
          have HV1 := hide ((unhide HV).trans (by rw [decide_eq_true (unhide HE), Bool.true_and]))
          have kl : ¬ (k : Int) < (x.nodes.length : Int) := by omega
          have hdz : (x.devs.length : Int) ≤ 1000000 := by omega
          go_wp2
          obtain ⟨W2, rfl⟩ : ∃ W : World, W = wo := ⟨_, rfl⟩
          go_loopw [8] (fun i wr => ∃ m : Nat, m ≤ x.devs.length ∧ i = .int .i64 m ∧ Hid (x.devs.take m = y.devs.take m) ∧ Below W1.heap.size W1 wr) (fun i _ => x.devs.length - (intOf i).toNat)
          case atStart => exact ⟨0, Nat.zero_le _, rfl, Lib.hid rfl, HB.out⟩
          case round =>
            obtain ⟨m, hm, rfl, hdm, hbm⟩ := hrel
            obtain ⟨wm, rfl⟩ : ∃ wo : World, wo = wr := ⟨_, rfl⟩
            have HBM := Lib.hid hbm
            clear hbm
            clear x0 x1 y0 y1
            have hx := heap_keep2 (unhide HX1) HBM.out
            have hy := heap_keep2 (unhide HX2) HBM.out
            have x1 : wm.cell? ⟨w.heap.size, 1, none⟩ = some (.slice D x.devs.length d) := by rw [Lib.cell_of_heap hx]; rfl
            have y1 : wm.cell? ⟨w.heap.size + 1, 1, none⟩ = some (.slice D' y.devs.length d') := by rw [Lib.cell_of_heap hy]; rfl
            clear hx hy
            by_cases hlt : m < x.devs.length
            · have hlt2 : m < y.devs.length := by have := unhide HL2; omega
              obtain ⟨g, off, rfl, _, hcx⟩ := ((unhide H1).dvs.keep HBM.out) (by omega)
              obtain ⟨g', off', rfl, _, hcy⟩ := ((unhide H2).dvs.keep HBM.out) (by omega)
              obtain ⟨q0, q1, q2⟩ := hcx m hlt
              obtain ⟨r0, r1, r2⟩ := hcy m hlt2
              clear hcx hcy
              have ml : (m : Int) < (x.devs.length : Int) := by omega
              have ml2 : (m : Int) < (y.devs.length : Int) := by omega
              have m0 : (0 : Int) ≤ (m : Int) := by omega
              have HP := hide fun h => take_eq_step (d := dv0) hlt hlt2 hdm.out h
              have HN := hide fun (h : x.devs.getD m dv0 ≠ y.devs.getD m dv0) => ne_of_at h
              generalize x.devs.getD m dv0 = X at *
              generalize y.devs.getD m dv0 = Y at *
              have hop := dev_neq X Y
              cases hxy : dvEq X Y with
              | true =>
                have HX := hide (dvEq_iff.1 hxy)
                go_wp2_with fail
                go_quiet (fail)
                go_wp2
                go_roundw
                case rel => exact ⟨m + 1, by omega, by go_num, Lib.hid (unhide HP (unhide HX)), draws HBM.out _⟩
                case measure => simp [intOf]; omega
              | false =>
                have HX := hide (show X ≠ Y from fun e => Bool.noConfusion (hxy.symm.trans (dvEq_iff.2 e)))
                go_wp2_with fail
                go_quiet (fail)
                go_wp2
                go_ret
                exact ⟨ret_bool (by rw [unhide HV1, decide_eq_false (unhide HN (unhide HX))]), B0.out.trans ((draws HBM.out _).mono B0.out.size)⟩
            · have HE2 := hide (show x.devs = y.devs by
                have h1 := hdm.out
                have h2 := unhide HL2
                rw [List.take_of_length_le (show x.devs.length ≤ m by omega), List.take_of_length_le (show y.devs.length ≤ m by omega)] at h1
                exact h1)
              have ml : ¬ (m : Int) < (x.devs.length : Int) := by omega
              go_wp2
              go_ret
              exact ⟨ret_bool (by rw [unhide HV1, decide_eq_true (unhide HE2)]), B0.out.trans (HBM.out.mono B0.out.size)⟩
    · have z0 : ((x.nodes.length : Int) != (y.nodes.length : Int)) = false := by rw [bne_eq_false_iff_eq, hl]
      have z1 : ((x.devs.length : Int) != (y.devs.length : Int)) = true := by rw [bne_iff_ne]; omega
      have HV1 := hide (show sameL x y = false by rw [unhide HV, decide_eq_false (p := x.devs = y.devs) (fun e => hl2 (by rw [e]))]; simp)
      clear hl hl2
      go_enter Tryz.func29, Tryz.ntmps29
      go_wp2
      go_ret
      exact ⟨ret_bool (by rw [unhide HV1]), B0.out⟩
  · have z0 : ((x.nodes.length : Int) != (y.nodes.length : Int)) = true := by rw [bne_iff_ne]; omega
    have HV1 := hide (show sameL x y = false by rw [unhide HV, decide_eq_false (p := x.nodes = y.nodes) (fun e => hl (by rw [e]))]; simp)
    clear hl
    go_enter Tryz.func29, Tryz.ntmps29
    go_wp2
    go_ret
    exact ⟨ret_bool (by rw [unhide HV1]), B0.out⟩
end Go.Proofs.YtmonjjffbmccjaaGreatDoor
