/-
  Strips (layer 9): the walk of StripFaults.
-/
import Derived.Test.YtfddpdognelhmaaStrF
import Derived.BigQuiet
namespace Go.Proofs.Ytfddpdognelhmaa
open Go.RowKit

theorem index_n {m : Nat} {s : List Int} {x : Int} {g c : Nat} {w : World} (hm : s.length = m) (hz : m ≤ 1000000) (h : RowB w g s) :
    Calls Try.prog 20 #[.slice (some ⟨g, 0, none⟩) m c, .int .i64 x] w fun e w' => e = .returned (.int .i64 (sIdx s x : Int)) ∧ w = w' := by
  subst hm
  exact sindex_any w.heap.size s x (some ⟨g, 0, none⟩) c w hz (h.nums (Nat.ne_of_lt h.lt))
theorem ints_n {m : Nat} {s s' : List Int} {g g' c c' : Nat} {w : World} (hm : s.length = m) (hm' : s'.length = m) (hz : m ≤ 1000000) (h : RowB w g s) (h' : RowB w g' s') :
    Calls Try.prog 14 #[.slice (some ⟨g, 0, none⟩) m c, .slice (some ⟨g', 0, none⟩) m c'] w fun e w' => e = .returned (.bool (decide (s = s'))) ∧ Below w.heap.size w w' := by
  subst hm
  have := kints_any w.heap.size s s' (some ⟨g, 0, none⟩) (some ⟨g', 0, none⟩) c c' w (by omega) (h.nums (Nat.ne_of_lt h.lt)) (h'.nums (Nat.ne_of_lt h'.lt))
  rwa [hm'] at this
theorem made_zeros (m : Nat) : madeCells #[Value.int .i64 0] m = ((List.replicate m (0 : Int)).map (Value.int .i64)).toArray := by
  apply Array.toList_inj.1
  rw [toList_madeCells_one, List.map_replicate]
theorem sIdx_le (s : List Int) (x : Int) : sIdx s x ≤ s.length := List.findIdx_le_length
theorem sFau_len (m k : Nat) (sl : Bool) : (sFau m k sl).length = m := by unfold sFau; rw [List.length_set, List.length_replicate]
/-- What holds of a single fault. -/
structure FauP (s0 : List Int) (m k : Nat) (sl : Bool) (a b : List Int) (la lb : Int) : Prop where
  lna : a.length = m
  lnb : b.length = m
  rest : ∀ i, i < m → i ≠ k → s0.getD i 0 ≠ 0 → sIdx a (s0.getD i 0) = sIdx b (s0.getD i 0)
  nil0 : s0.getD k 0 = 0 → a = b ∧ la = lb
  slide : s0.getD k 0 ≠ 0 → sl = true → sIdx a (s0.getD k 0) ≤ sIdx b (s0.getD k 0) ∧ sIdx b (s0.getD k 0) ≤ sIdx a (s0.getD k 0) + 1 ∧ (k < sIdx a (s0.getD k 0) ∨ sIdx b (s0.getD k 0) = sIdx a (s0.getD k 0))
  stick : s0.getD k 0 ≠ 0 → sl = false → sIdx b (s0.getD k 0) = k
theorem fauP {bits : List Bool} {m k : Nat} {sl : Bool} (hm : bits.length = m) (h9 : m < 9) (hk : k < m) :
    FauP (sWin bits 0) m k sl (sAdv (sWin bits 0) [] true).1 (sAdv (sWin bits 0) (sFau m k sl) true).1 (sAdv (sWin bits 0) [] true).2 (sAdv (sWin bits 0) (sFau m k sl) true).2 := by
  have hl : (sWin bits 0).length = m := by rw [sWin_len]; exact hm
  have h0 := List.all_eq_true.1 (sFaults_all m h9 bits (by rw [← hm]; exact sAll_mem bits)) k (List.mem_range.2 hk)
  have h1 : sFaultsB (sWin bits 0) k sl = true := by
    rw [Bool.and_eq_true] at h0
    cases sl
    · exact h0.2
    · exact h0.1
  unfold sFaultsB at h1
  rw [hl, Bool.and_eq_true] at h1
  obtain ⟨p1, p2⟩ := h1
  refine ⟨by rw [sAdv_len]; exact hl, by rw [sAdv_len]; exact hl, fun i hi hik hx => ?_, fun hx => ?_, fun hx hs => ?_, fun hx hs => ?_⟩
  · have := List.all_eq_true.1 p1 i (List.mem_range.2 hi)
    rw [decide_eq_false hik, decide_eq_false hx, Bool.false_or, Bool.false_or] at this
    exact of_decide_eq_true this
  · rw [if_pos hx, Bool.and_eq_true] at p2
    exact ⟨of_decide_eq_true p2.1, of_decide_eq_true p2.2⟩
  · subst hs
    rw [if_neg hx, if_pos rfl, Bool.and_eq_true, Bool.and_eq_true, Bool.or_eq_true] at p2
    obtain ⟨q1, q2, q3⟩ := p2
    refine ⟨of_decide_eq_true q1, of_decide_eq_true q2, ?_⟩
    rcases q3 with q3 | q3
    · exact .inl (of_decide_eq_true q3)
    · exact .inr (of_decide_eq_true q3)
  · subst hs
    rw [if_neg hx, if_neg Bool.false_ne_true] at p2
    exact of_decide_eq_true p2

set_option maxRecDepth 100000 in
set_option maxHeartbeats 8000000 in
theorem sfaultsF_any (A : Option Addr) (n c : Nat) (hc : n ≤ c) {w : World} (h : IntsIn w.heap.size w A n) (x1 : Int) :
    Calls Try.prog 7 #[.slice A n c, .int .i64 x1, .bool false] w fun e w' => e = .returned (.bool true) ∧ Below w.heap.size w w' := by
  have HW := hide (windows_any A n c w hc h)
  clear h hc
  go_enter Try.func7, Try.ntmps7
  go_wp2_with fail
  refine (unhide HW).mono ?_
  rintro e w1 ⟨bits, fs, g, g', rfl, m1, m8, _, hr, _, _, _, hb1⟩
  have HB1 := hide hb1
  have HD := hide (fun k (hk : k < bits.length) => fauP (sl := false) (rfl : bits.length = bits.length) (by omega) hk)
  have HL := hide (sWin_len bits 0)
  generalize sWin bits 0 = s0 at *
  generalize bits.length = m at *
  have hmr := modN_range x1 m (by omega)
  have HMd := hide (mod_any x1 m w1 (by omega) (by omega))
  generalize modN x1 (m : Int) = z at *
  obtain ⟨k, rfl⟩ := Int.eq_ofNat_of_zero_le hmr.1
  have hk : k < m := by omega
  have hP := unhide HD k hk
  have hmk := smake m (by omega)
  have kl : (k : Int) < (m : Int) := by omega
  have k0 : (0 : Int) ≤ (k : Int) := by omega
  have HR := hide hr
  have b2 := (Below.refl w1.heap.size w1).alloc (Nat.le_refl _) (.cells (madeCells #[.int .i64 0] m) 3)
  have hf0 := RowB.zeros w1 m
  obtain ⟨q, hq⟩ : ∃ q, w1.heap.size = q := ⟨_, rfl⟩
  rw [hq] at hf0 b2
  have hf1 := hf0.put k 1
  have c1 := hf0.cell (k := k) (by rw [List.length_replicate]; exact hk)
  have z1 := hf0.frozen k
  have b3 := b2.setCell (p := ⟨q, k, none⟩) (Nat.le_refl _) (.int .i64 1)
  have gq : g < q := by rw [← hq]; exact hr.lt
  have hs1 : RowB ((w1.alloc (.cells (madeCells #[.int .i64 0] m) 3)).setCell ⟨q, k, none⟩ (.int .i64 1)) g s0 := (b3.block g gq).trans hr
  obtain ⟨VV, hV⟩ : ∃ VV : World, (w1.alloc (.cells (madeCells #[.int .i64 0] m) 3)).setCell ⟨q, k, none⟩ (.int .i64 1) = VV := ⟨_, rfl⟩
  have hS : RowB VV g s0 := by rw [← hV]; exact hs1
  have hF : RowB VV q (sFau m k false) := by rw [← hV]; exact hf1
  have hBV : Below q w1 VV := by rw [← hV]; exact b3
  have HA := hide (adv_n (b := VV.heap.size) (c := m) (c' := 0) (op := true) (A' := none) (f := []) (unhide HL) rfl (by omega) hS (Nat.ne_of_lt hS.lt) (NumsIn.nil _ _ _))
  have HS := hide hS
  have HF := hide hF
  have HQ := hide hq
  have HP := hide hP
  have HBV := hide hBV
  clear hb1 hr HW hmr hP b2 hf0 hf1 b3 hs1 gq hS hF hBV HD
  go_wp2_with (first
    | (go_at_call 19; refine (unhide HMd).mono ?_; rintro e w2 ⟨rfl, rfl⟩))
  clear hV hq
  refine (unhide HA).mono ?_
  rintro e w3 ⟨ga, rfl, _, hra, hb3⟩
  have hf3 := (unhide HF).keep hb3
  have hs3 := (unhide HS).keep hb3
  have HB := hide (adv_n (b := w3.heap.size) (c := m) (c' := m) (op := true) (A' := some ⟨q, 0, none⟩) (f := sFau m k false) (unhide HL) (sFau_len m k _) (by omega) hs3 (Nat.ne_of_lt hs3.lt) (hf3.nums (Nat.ne_of_lt hf3.lt)))
  have HB3 := hide (onward (onward (unhide HB1) (by rw [unhide HQ]; exact unhide HBV)) hb3)
  have HRa := hide hra
  have HS3 := hide hs3
  clear hra hb3 hf3 hs3 HA HMd
  generalize (sAdv s0 [] true).1 = la at *
  generalize (sAdv s0 [] true).2 = ea at *
  go_wp2_with fail
  refine (unhide HB).mono ?_
  rintro e w4 ⟨gb, rfl, _, hrb, hb4⟩
  have HRa4 := hide ((unhide HRa).keep hb4)
  have HRb := hide hrb
  have HS4 := hide ((unhide HS3).keep hb4)
  have HB4 := hide (onward (unhide HB3) hb4)
  clear hrb hb4 HB HRa HS3
  generalize (sAdv s0 (sFau m k false) true).1 = lb at *
  generalize (sAdv s0 (sFau m k false) true).2 = eb at *
  go_wp2
  go_loopw [15] (fun iv wr => ∃ i : Nat, i ≤ m ∧ iv = .int .i64 i ∧ Hid (Below w4.heap.size w4 wr)) (fun iv _ => m - (intOf iv).toNat)
  case atStart => exact ⟨0, Nat.zero_le _, rfl, Lib.hid (Below.refl _ _)⟩
  case round =>
    obtain ⟨i, hi, rfl, hb⟩ := hrel
    obtain ⟨wo, rfl⟩ : ∃ wo : World, wo = wr := ⟨_, rfl⟩
    have HBo := hide hb.out
    have HRao := hide ((unhide HRa4).keep hb.out)
    have HRbo := hide ((unhide HRb).keep hb.out)
    have HSo := hide ((unhide HS4).keep hb.out)
    clear hb
    by_cases hlt : i < m
    · have il : (i : Int) < (m : Int) := by omega
      have i0 : (0 : Int) ≤ (i : Int) := by omega
      by_cases hik : i = k
      · have e1 : ((i : Int) != (k : Int)) = false := by rw [bne_eq_false_iff_eq]; omega
        clear hik
        go_wp2_with fail
        refine wp_region_after (by kernel_rfl) (by kernel_rfl) ?_
        repeat (go_big_quiet_step (fail))
        refine wpQuiet_nil ?_
        rintro _ ⟨t, rfl⟩
        go_wp2
        go_roundw
        case rel => exact ⟨i + 1, by omega, by go_num, Lib.hid ((unhide HBo).trans (t.is.mono (unhide HBo).size))⟩
        case measure => simp [intOf]; omega
      · have e1 : ((i : Int) != (k : Int)) = true := by rw [bne_iff_ne]; omega
        have c0 := fun t : After wo => ((unhide HSo).keep t.is).cell (k := i) (by rw [unhide HL]; exact hlt)
        have hR := (unhide HP).rest i hlt hik
        cases hx : (s0.getD i 0 != 0) with
        | false =>
          generalize s0.getD i 0 = x at *
          clear hik hR
          go_wp2_with fail
          refine wp_region_after (by kernel_rfl) (by kernel_rfl) ?_
          repeat (go_big_quiet_step (fail))
          refine wpQuiet_nil ?_
          rintro _ ⟨t, rfl⟩
          clear c0
          go_wp2
          go_roundw
          case rel => exact ⟨i + 1, by omega, by go_num, Lib.hid ((unhide HBo).trans (t.is.mono (unhide HBo).size))⟩
          case measure => simp [intOf]; omega
        | true =>
          have HXa := hide fun t : After wo => index_n (x := s0.getD i 0) (c := m) (unhide HP).lna (by omega) ((unhide HRao).keep t.is)
          have HXb := hide fun t : After wo => index_n (x := s0.getD i 0) (c := m) (unhide HP).lnb (by omega) ((unhide HRbo).keep t.is)
          rw [hR (by rwa [bne_iff_ne] at hx)] at HXa
          generalize s0.getD i 0 = x at *
          generalize sIdx lb x = y at *
          clear hik hR
          go_wp2_with fail
          refine wp_region_after (by kernel_rfl) (by kernel_rfl) ?_
          repeat (go_big_quiet_step ((first | (go_at_call 20; (first | (with_reducible exact After.same (unhide HXa _)) | (with_reducible exact After.same (unhide HXb _)))))))
          refine wpQuiet_nil ?_
          rintro _ ⟨t, rfl⟩
          clear c0
          go_wp2
          go_roundw
          case rel => exact ⟨i + 1, by omega, by go_num, Lib.hid ((unhide HBo).trans (t.is.mono (unhide HBo).size))⟩
          case measure => simp [intOf]; omega
    · have il : ¬ (i : Int) < (m : Int) := by omega
      have c0 := (unhide HSo).cell (k := k) (by rw [unhide HL]; exact hk)
      have HBw := hide (onward (unhide HB4) (unhide HBo))
      cases hx : (s0.getD k 0 == 0) with
      | true =>
        have hN := (unhide HP).nil0 (by rwa [beq_iff_eq] at hx)
        have HI := ints_n (c := m) (c' := m) (unhide HP).lna (unhide HP).lnb (by omega) (unhide HRao) (unhide HRbo)
        rw [decide_eq_true hN.1] at HI
        have HI2 := hide HI
        have hE : (ea == eb) = true := by rw [beq_iff_eq]; exact hN.2
        generalize s0.getD k 0 = x at *
        clear hN HI
        go_wp2_with (first
          | (go_at_call 14; refine (unhide HI2).mono ?_; rintro e w6 ⟨rfl, hb6⟩; have HB6 := hide (onward (unhide HBw) hb6); clear hb6)
          | (go_at_call 8; refine (saw_any _).mono ?_; rintro e w7 ⟨rfl, hb7⟩; have HB7 := hide (onward (unhide HB6) hb7); clear hb7))
        go_ret
        exact ⟨rfl, unhide HB7⟩
      | false =>
        have hT := (unhide HP).stick (by rwa [beq_eq_false_iff_ne] at hx) rfl
        have HXb := index_n (x := s0.getD k 0) (c := m) (unhide HP).lnb (by omega) (unhide HRbo)
        rw [hT] at HXb
        have HXb2 := hide HXb
        generalize s0.getD k 0 = x at *
        clear hT HXb
        go_wp2_with (first
          | (go_at_call 20; refine (unhide HXb2).mono ?_; rintro e w6 ⟨rfl, rfl⟩)
          | (go_at_call 8; refine (saw_any _).mono ?_; rintro e w7 ⟨rfl, hb7⟩; have HB7 := hide (onward (unhide HBw) hb7); clear hb7))
        go_ret
        exact ⟨rfl, unhide HB7⟩

set_option maxRecDepth 100000 in
set_option maxHeartbeats 8000000 in
theorem sfaultsT_any (A : Option Addr) (n c : Nat) (hc : n ≤ c) {w : World} (h : IntsIn w.heap.size w A n) (x1 : Int) :
    Calls Try.prog 7 #[.slice A n c, .int .i64 x1, .bool true] w fun e w' => e = .returned (.bool true) ∧ Below w.heap.size w w' := by
  have HW := hide (windows_any A n c w hc h)
  clear h hc
  go_enter Try.func7, Try.ntmps7
  go_wp2_with fail
  refine (unhide HW).mono ?_
  rintro e w1 ⟨bits, fs, g, g', rfl, m1, m8, _, hr, _, _, _, hb1⟩
  have HB1 := hide hb1
  have HD := hide (fun k (hk : k < bits.length) => fauP (sl := true) (rfl : bits.length = bits.length) (by omega) hk)
  have HL := hide (sWin_len bits 0)
  generalize sWin bits 0 = s0 at *
  generalize bits.length = m at *
  have hmr := modN_range x1 m (by omega)
  have HMd := hide (mod_any x1 m w1 (by omega) (by omega))
  generalize modN x1 (m : Int) = z at *
  obtain ⟨k, rfl⟩ := Int.eq_ofNat_of_zero_le hmr.1
  have hk : k < m := by omega
  have hP := unhide HD k hk
  have hmk := smake m (by omega)
  have kl : (k : Int) < (m : Int) := by omega
  have k0 : (0 : Int) ≤ (k : Int) := by omega
  have HR := hide hr
  have b2 := (Below.refl w1.heap.size w1).alloc (Nat.le_refl _) (.cells (madeCells #[.int .i64 0] m) 3)
  have hf0 := RowB.zeros w1 m
  obtain ⟨q, hq⟩ : ∃ q, w1.heap.size = q := ⟨_, rfl⟩
  rw [hq] at hf0 b2
  have hf1 := hf0.put k 1
  have c1 := hf0.cell (k := k) (by rw [List.length_replicate]; exact hk)
  have z1 := hf0.frozen k
  have b3 := b2.setCell (p := ⟨q, k, none⟩) (Nat.le_refl _) (.int .i64 1)
  have gq : g < q := by rw [← hq]; exact hr.lt
  have hs1 : RowB ((w1.alloc (.cells (madeCells #[.int .i64 0] m) 3)).setCell ⟨q, k, none⟩ (.int .i64 1)) g s0 := (b3.block g gq).trans hr
  obtain ⟨V1, hV1⟩ : ∃ V1 : World, (w1.alloc (.cells (madeCells #[.int .i64 0] m) 3)).setCell ⟨q, k, none⟩ (.int .i64 1) = V1 := ⟨_, rfl⟩
  rw [hV1] at hf1 b3
  have hf2 := hf1.put k 2
  rw [List.set_set] at hf2
  have c2 := hf1.cell (k := k) (by rw [List.length_set, List.length_replicate]; exact hk)
  have z2 := hf1.frozen k
  have b4 := b3.setCell (p := ⟨q, k, none⟩) (Nat.le_refl _) (.int .i64 2)
  generalize ((List.replicate m (0 : Int)).set k 1).getD k 0 = y2 at *
  obtain ⟨VV, hV⟩ : ∃ VV : World, V1.setCell ⟨q, k, none⟩ (.int .i64 2) = VV := ⟨_, rfl⟩
  have hS : RowB VV g s0 := by rw [← hV]; exact (b4.block g gq).trans hr
  have hF : RowB VV q (sFau m k true) := by rw [← hV]; exact hf2
  have hBV : Below q w1 VV := by rw [← hV]; exact b4
  have HA := hide (adv_n (b := VV.heap.size) (c := m) (c' := 0) (op := true) (A' := none) (f := []) (unhide HL) rfl (by omega) hS (Nat.ne_of_lt hS.lt) (NumsIn.nil _ _ _))
  have HS := hide hS
  have HF := hide hF
  have HQ := hide hq
  have HP := hide hP
  have HBV := hide hBV
  clear hb1 hr HW hmr hP b2 hf0 hf1 hf2 b3 b4 hs1 gq hS hF hBV HD
  go_wp2_with (first
    | (go_at_call 19; refine (unhide HMd).mono ?_; rintro e w2 ⟨rfl, rfl⟩))
  clear hV1 hV hq
  refine (unhide HA).mono ?_
  rintro e w3 ⟨ga, rfl, _, hra, hb3⟩
  have hf3 := (unhide HF).keep hb3
  have hs3 := (unhide HS).keep hb3
  have HB := hide (adv_n (b := w3.heap.size) (c := m) (c' := m) (op := true) (A' := some ⟨q, 0, none⟩) (f := sFau m k true) (unhide HL) (sFau_len m k _) (by omega) hs3 (Nat.ne_of_lt hs3.lt) (hf3.nums (Nat.ne_of_lt hf3.lt)))
  have HB3 := hide (onward (onward (unhide HB1) (by rw [unhide HQ]; exact unhide HBV)) hb3)
  have HRa := hide hra
  have HS3 := hide hs3
  clear hra hb3 hf3 hs3 HA HMd
  generalize (sAdv s0 [] true).1 = la at *
  generalize (sAdv s0 [] true).2 = ea at *
  go_wp2_with fail
  refine (unhide HB).mono ?_
  rintro e w4 ⟨gb, rfl, _, hrb, hb4⟩
  have HRa4 := hide ((unhide HRa).keep hb4)
  have HRb := hide hrb
  have HS4 := hide ((unhide HS3).keep hb4)
  have HB4 := hide (onward (unhide HB3) hb4)
  clear hrb hb4 HB HRa HS3
  generalize (sAdv s0 (sFau m k true) true).1 = lb at *
  generalize (sAdv s0 (sFau m k true) true).2 = eb at *
  go_wp2
  go_loopw [15] (fun iv wr => ∃ i : Nat, i ≤ m ∧ iv = .int .i64 i ∧ Hid (Below w4.heap.size w4 wr)) (fun iv _ => m - (intOf iv).toNat)
  case atStart => exact ⟨0, Nat.zero_le _, rfl, Lib.hid (Below.refl _ _)⟩
  case round =>
    obtain ⟨i, hi, rfl, hb⟩ := hrel
    obtain ⟨wo, rfl⟩ : ∃ wo : World, wo = wr := ⟨_, rfl⟩
    have HBo := hide hb.out
    have HRao := hide ((unhide HRa4).keep hb.out)
    have HRbo := hide ((unhide HRb).keep hb.out)
    have HSo := hide ((unhide HS4).keep hb.out)
    clear hb
    by_cases hlt : i < m
    · have il : (i : Int) < (m : Int) := by omega
      have i0 : (0 : Int) ≤ (i : Int) := by omega
      by_cases hik : i = k
      · have e1 : ((i : Int) != (k : Int)) = false := by rw [bne_eq_false_iff_eq]; omega
        clear hik
        go_wp2_with fail
        refine wp_region_after (by kernel_rfl) (by kernel_rfl) ?_
        repeat (go_big_quiet_step (fail))
        refine wpQuiet_nil ?_
        rintro _ ⟨t, rfl⟩
        go_wp2
        go_roundw
        case rel => exact ⟨i + 1, by omega, by go_num, Lib.hid ((unhide HBo).trans (t.is.mono (unhide HBo).size))⟩
        case measure => simp [intOf]; omega
      · have e1 : ((i : Int) != (k : Int)) = true := by rw [bne_iff_ne]; omega
        have c0 := fun t : After wo => ((unhide HSo).keep t.is).cell (k := i) (by rw [unhide HL]; exact hlt)
        have hR := (unhide HP).rest i hlt hik
        cases hx : (s0.getD i 0 != 0) with
        | false =>
          generalize s0.getD i 0 = x at *
          clear hik hR
          go_wp2_with fail
          refine wp_region_after (by kernel_rfl) (by kernel_rfl) ?_
          repeat (go_big_quiet_step (fail))
          refine wpQuiet_nil ?_
          rintro _ ⟨t, rfl⟩
          clear c0
          go_wp2
          go_roundw
          case rel => exact ⟨i + 1, by omega, by go_num, Lib.hid ((unhide HBo).trans (t.is.mono (unhide HBo).size))⟩
          case measure => simp [intOf]; omega
        | true =>
          have HXa := hide fun t : After wo => index_n (x := s0.getD i 0) (c := m) (unhide HP).lna (by omega) ((unhide HRao).keep t.is)
          have HXb := hide fun t : After wo => index_n (x := s0.getD i 0) (c := m) (unhide HP).lnb (by omega) ((unhide HRbo).keep t.is)
          rw [hR (by rwa [bne_iff_ne] at hx)] at HXa
          generalize s0.getD i 0 = x at *
          generalize sIdx lb x = y at *
          clear hik hR
          go_wp2_with fail
          refine wp_region_after (by kernel_rfl) (by kernel_rfl) ?_
          repeat (go_big_quiet_step ((first | (go_at_call 20; (first | (with_reducible exact After.same (unhide HXa _)) | (with_reducible exact After.same (unhide HXb _)))))))
          refine wpQuiet_nil ?_
          rintro _ ⟨t, rfl⟩
          clear c0
          go_wp2
          go_roundw
          case rel => exact ⟨i + 1, by omega, by go_num, Lib.hid ((unhide HBo).trans (t.is.mono (unhide HBo).size))⟩
          case measure => simp [intOf]; omega
    · have il : ¬ (i : Int) < (m : Int) := by omega
      have c0 := (unhide HSo).cell (k := k) (by rw [unhide HL]; exact hk)
      have HBw := hide (onward (unhide HB4) (unhide HBo))
      cases hx : (s0.getD k 0 == 0) with
      | true =>
        have hN := (unhide HP).nil0 (by rwa [beq_iff_eq] at hx)
        have HI := ints_n (c := m) (c' := m) (unhide HP).lna (unhide HP).lnb (by omega) (unhide HRao) (unhide HRbo)
        rw [decide_eq_true hN.1] at HI
        have HI2 := hide HI
        have hE : (ea == eb) = true := by rw [beq_iff_eq]; exact hN.2
        generalize s0.getD k 0 = x at *
        clear hN HI
        go_wp2_with (first
          | (go_at_call 14; refine (unhide HI2).mono ?_; rintro e w6 ⟨rfl, hb6⟩; have HB6 := hide (onward (unhide HBw) hb6); clear hb6)
          | (go_at_call 8; refine (saw_any _).mono ?_; rintro e w7 ⟨rfl, hb7⟩; have HB7 := hide (onward (unhide HB6) hb7); clear hb7))
        go_ret
        exact ⟨rfl, unhide HB7⟩
      | false =>
        obtain ⟨t1, t2, t3⟩ := (unhide HP).slide (by rwa [beq_eq_false_iff_ne] at hx) rfl
        have HXa := hide fun t : After wo => index_n (x := s0.getD k 0) (c := m) (unhide HP).lna (by omega) ((unhide HRao).keep t.is)
        have HXb := hide fun t : After wo => index_n (x := s0.getD k 0) (c := m) (unhide HP).lnb (by omega) ((unhide HRbo).keep t.is)
        have hle := sIdx_le la (s0.getD k 0)
        rw [(unhide HP).lna] at hle
        have cc := fun t : After wo => After.cell c0 t
        generalize s0.getD k 0 = x at *
        generalize sIdx la x = ya at *
        generalize sIdx lb x = yb at *
        have T1 : (ya : Int) ≤ (yb : Int) := by omega
        have T2 : (yb : Int) ≤ (ya : Int) + 1 := by omega
        have T3 : ((k : Int) < (ya : Int)) ∨ (¬ ((k : Int) < (ya : Int)) ∧ ((yb : Int) == (ya : Int)) = true) := by
          by_cases hh : k < ya
          · exact .inl (by omega)
          · exact .inr ⟨by omega, by rw [beq_iff_eq]; omega⟩
        clear t1 t2 t3
        go_wp2_with fail
        refine wp_region_after (by kernel_rfl) (by kernel_rfl) ?_
        repeat (go_big_quiet_step ((first | (go_at_call 20; (first | (with_reducible exact After.same (unhide HXa _)) | (with_reducible exact After.same (unhide HXb _)))))))
        refine wpQuiet_nil ?_
        rintro _ ⟨t, rfl⟩
        have HBt := hide (onward (unhide HBw) t.is)
        clear cc c0
        rcases T3 with T3 | ⟨T3, T4⟩
        all_goals
          go_wp2_with (go_at_call 8; refine (saw_any _).mono ?_; rintro e w7 ⟨rfl, hb7⟩; have HB7 := hide (onward (unhide HBt) hb7); clear hb7)
          go_ret
          exact ⟨rfl, unhide HB7⟩

theorem sfaults_any (A : Option Addr) (n c : Nat) (hc : n ≤ c) {w : World} (h : IntsIn w.heap.size w A n) (x1 : Int) (_ : (Lit.int .i64 x1).wf = true) (sl : Bool) :
    Calls Try.prog 7 #[.slice A n c, .int .i64 x1, .bool sl] w fun e w' => e = .returned (.bool true) ∧ Below w.heap.size w w' := by
  cases sl
  · exact sfaultsF_any A n c hc h x1
  · exact sfaultsT_any A n c hc h x1
end Go.Proofs.Ytfddpdognelhmaa
