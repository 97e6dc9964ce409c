/-
  Lanes (layer 17): LanesCertificate: its walk.
-/
import Derived.Test.YtmmhchhekmcihaaLanP
import Derived.Test.YtmmhchhekmcihaaAnyH
import Derived.Deep.CutRange
namespace Go.Proofs.Ytmmhchhekmcihaa
open Go.RowKit

theorem times_val {T : List Int} (hl : T.length ≤ 29) (h : ∀ x ∈ T, 0 ≤ x ∧ x ≤ 11) : valE T = 0 := by
  unfold valE
  rw [if_neg (by omega), if_pos (fun x hx => by have := h x hx; omega)]
theorem times_sm {T : List Int} (hl : T.length ≤ 29) (h : ∀ x ∈ T, 0 ≤ x ∧ x ≤ 11) : SmL T := ⟨by omega, small_wf (m := 11) (by omega) h⟩
theorem chk_asg {due : List Int} (hv : valE due = 0) : chkE due (nI (asgF due)) = 0 := by
  have hl := asgF_len due
  refine chk_good hv (by rw [nI_len, hl]) (fun x hx => ?_) (fun a b hab hb he => ?_)
  · obtain ⟨y, _, rfl⟩ := List.mem_map.1 hx
    exact Int.natCast_nonneg y
  · rw [nI_len, hl] at hb
    rw [nI_at (by omega), nI_at (by omega)] at he
    exact asgF_good due hab hb (by omega)
theorem asg_sm {due : List Int} (hl : due.length ≤ 29) : SmL (nI (asgF due)) := by
  refine ⟨by rw [nI_len, asgF_len]; omega, small_wf (m := 200) (by omega) (fun x hx => ?_)⟩
  obtain ⟨y, hy, rfl⟩ := List.mem_map.1 hx
  obtain ⟨i, hi, rfl⟩ := List.getElem_of_mem hy
  have h1 := asgF_low due (j := i) (by rw [asgF_len] at hi; exact hi)
  rw [at_k hi] at h1
  have h2 := asg_low (due := due) (Nat.le_refl _)
  unfold cntF at h1
  exact ⟨Int.natCast_nonneg _, by show (((asgF due)[i] : Nat) : Int) ≤ 200; omega⟩
/-- What the statement asks of the chain, place by place. -/
theorem chnF_facts (due : List Int) : (∀ i, i < (chnF due).length → (chnF due).getD i 0 < due.length) ∧ ∀ i, i + 1 < (chnF due).length → (chnF due).getD i 0 < (chnF due).getD (i + 1) 0 ∧ due.getD ((chnF due).getD (i + 1) 0) 0 < due.getD ((chnF due).getD i 0) 0 := by
  have hl := chnF_len due
  rcases Nat.eq_zero_or_pos (cntF due) with h0 | h0
  · exact ⟨fun i hi => by omega, fun i hi => by omega⟩
  · obtain ⟨_, hc⟩ := chnF_inv due h0
    exact ⟨hc.low, hc.step⟩
set_option maxHeartbeats 2000000 in
set_option maxRecDepth 100000 in
theorem cert_any (P : LanOk) (A0 : Option Addr) (n0 c0 : Nat) (w : World) (hc : n0 ≤ c0) (hA : IntsIn w.heap.size w A0 n0) :
    Calls Try.prog 4 #[.slice A0 n0 c0] w fun e w' => e = .returned (.bool true) ∧ Below w.heap.size w w' := by
  have HP := hide P
  have HT := hide (times_any A0 n0 c0 w hc hA)
  clear P hA
  go_enter Try.func4, Try.ntmps4
  go_wp2_with fail
  refine (unhide HT).mono ?_
  rintro e w1 ⟨T, A1, c1, hl, hr, rfl, hown, hb1, hsz⟩
  have hcap := own_cap hown
  have HD1 := hide (nums_own (n := T.length) (b := w.heap.size) hown (.inl (Nat.lt_succ_self _)))
  have HSm := hide (times_sm hl hr)
  have hv := times_val hl hr
  have HV := hide hv
  have HB1 := hide hb1
  have HCap := hide hcap
  have HSA := hide (asg_sm hl)
  have ha : asgR T = asgF T := if_pos hv
  have hcn : cntR T = cntF T := if_pos hv
  have hch : chnR T = chnF T := if_pos hv
  have HCh := hide (chk_asg hv)
  clear hown hb1 HT hr hcap
  go_wp2_with fail
  refine ((unhide HP).assign w.heap.size T A1 c1 w1 (unhide HSm) (unhide HCap) (unhide HD1)).mono ?_
  rw [ha, hv]
  rintro e w2 ⟨A2, c2, rfl, hr2, hb2, hc2⟩
  have HD2 := hide ((unhide HD1).keep hb2)
  have HA2 := hide (hr2 w.heap.size (.inl (by omega)))
  have HB2 := hide (onward (unhide HB1) hb2)
  have HC2 := hide hc2
  have HS2 := hide (show w.heap.size < w2.heap.size by have := hb2.size; omega)
  clear hr2 hb2 hc2 ha
  go_wp2_with fail
  refine ((unhide HP).count w.heap.size T A1 c1 w2 (unhide HSm) (unhide HCap) (unhide HD2)).mono ?_
  rw [hcn]
  rintro e w3 ⟨rfl, hb3⟩
  have HD3 := hide ((unhide HD2).keep hb3)
  have HA3 := hide ((unhide HA2).keep hb3)
  have HB3 := hide (onward (unhide HB2) hb3)
  have HS3 := hide (show w.heap.size < w3.heap.size by have h1 := unhide HS2; have h2 := hb3.size; omega)
  clear hb3 hcn HD2 HA2
  go_wp2_with fail
  refine ((unhide HP).chain w.heap.size T A1 c1 w3 (unhide HSm) (unhide HCap) (unhide HD3)).mono ?_
  rw [hch]
  rintro e w4 ⟨A4, c4, rfl, hr4, hb4, _⟩
  have HD4 := hide ((unhide HD3).keep hb4)
  have HA4 := hide ((unhide HA3).keep hb4)
  have HC4 := hide (hr4 w.heap.size (.inl (unhide HS3)))
  have HB4 := hide (onward (unhide HB3) hb4)
  clear hr4 hb4 hch HD3 HA3
  have HCk := hide ((unhide HP).check w.heap.size T (nI (asgF T)) A1 A2 c1 c2 w4 (unhide HSm) (unhide HSA) (unhide HCap) (by rw [nI_len]; exact unhide HC2) (unhide HD4) (unhide HA4))
  have hal := asgF_len T
  rw [unhide HCh, nI_len, hal] at HCk
  have hcl := chnF_len T
  have HLow := hide (fun j (hj : j < T.length) => asgF_low T hj)
  have HGood := hide (fun a b (hab : a < b) (hb : b < T.length) he => asgF_good T hab hb he)
  have HCF := hide (chnF_facts T)
  have HPos := hide (cntF_pos T)
  have HNl := hide (show cntF T ≤ T.length from asg_low (Nat.le_refl _))
  rw [hal]
  rw [hcl] at HCF ⊢
  have HAL := hide hal
  have HCL := hide hcl
  clear hal hcl hv
  generalize asgF T = L at *
  generalize chnF T = C at *
  generalize cntF T = n at *
  go_wp2_with (go_at_call 18; refine (unhide HCk).mono ?_; rintro e w5 ⟨rfl, hb5⟩; have HB5 := hide (onward (unhide HB4) hb5); have HD5 := hide ((unhide HD4).keep hb5); have HA5 := hide ((unhide HA4).keep hb5); have HC5 := hide ((unhide HC4).keep hb5); clear hb5)
  clear HD4 HA4 HC4
  go_loopw [8] (fun s8 wr => ∃ i : Nat, i ≤ T.length ∧ s8 = .int .i64 i ∧ Hid (Below w5.heap.size w5 wr)) (fun s8 _ => T.length - (intOf s8).toNat)
  case atStart => exact ⟨0, Nat.zero_le _, rfl, hide (Below.refl _ _)⟩
  case round =>
    obtain ⟨i, hi, rfl, HBi⟩ := hrel
    obtain ⟨wo, rfl⟩ : ∃ wo : World, wo = wr := ⟨_, rfl⟩
    by_cases hil : i < T.length
    · have il : (i : Int) < (T.length : Int) := by omega
      have i0 : (0 : Int) ≤ (i : Int) := by omega
      obtain ⟨g, off, rfl, c0⟩ := num_cell ((unhide HA5).keep (unhide HBi)) (i := i) (by rw [nI_len, unhide HAL]; exact hil)
      rw [nI_at (by rw [unhide HAL]; exact hil)] at c0
      have hlo := (unhide HLow) i hil
      have HGi := hide (fun a (ha : a < i) he => (unhide HGood) a i ha hil he)
      generalize hy : L.getD i 0 = y at *
      have y0 : ¬ (y : Int) < 0 := by omega
      have yn : (y : Int) < (n : Int) := by omega
      have HY := hide hy
      clear hlo hy
      go_upto_region 13 with fail
      clear c0
      go_loopw [9] (fun s9 wr => ∃ k : Nat, k ≤ i ∧ s9 = .int .i64 k ∧ Hid (Below w5.heap.size w5 wr)) (fun s9 _ => i - (intOf s9).toNat)
      case atStart => exact ⟨0, Nat.zero_le _, rfl, HBi⟩
      case round =>
        obtain ⟨k, hk, rfl, HBk⟩ := hrel
        obtain ⟨wk, rfl⟩ : ∃ wk : World, wk = wr := ⟨_, rfl⟩
        clear HBi
        by_cases hki : k < i
        · have kl : (k : Int) < (i : Int) := by omega
          have k0 : (0 : Int) ≤ (k : Int) := by omega
          have kl1 : (k : Int) < (T.length : Int) := by omega
          obtain ⟨g1, off1, e1, _, hc1⟩ := (unhide HA5).keep (unhide HBk) (by rw [nI_len, unhide HAL]; omega)
          injection e1 with e1
          injection e1 with e11 e12
          subst e11; subst e12
          have c0 := hc1 i (by rw [nI_len, unhide HAL]; exact hil)
          have c1' := hc1 k (by rw [nI_len, unhide HAL]; omega)
          rw [nI_at (by rw [unhide HAL]; exact hil), unhide HY] at c0
          rw [nI_at (by rw [unhide HAL]; omega)] at c1'
          obtain ⟨g2, off2, rfl, _, hc2⟩ := (unhide HD5).keep (unhide HBk) (by omega)
          have d0 := hc2 i hil
          have d1 := hc2 k (by omega)
          have HG := hide ((unhide HGi) k hki)
          clear hc1 hc2
          generalize L.getD k 0 = z at *
          generalize T.getD i 0 = ti at *
          generalize T.getD k 0 = tk at *
          by_cases he : z = y
          · have qe : ((z : Int) == (y : Int)) = true := by rw [beq_iff_eq]; omega
            have hd1 : ¬ ti < tk := by have := (unhide HG) he; omega
            clear he
            go_wp2_with fail
            go_quiet (fail)
            go_wp2
            go_roundw
            case rel => exact ⟨k + 1, by omega, by go_num, hide (draws (unhide HBk) _)⟩
            case measure => simp [intOf]; omega
          · have qe : ((z : Int) == (y : Int)) = false := by rw [beq_eq_false_iff_ne]; omega
            clear he
            go_wp2_with fail
            go_quiet (fail)
            go_wp2
            go_roundw
            case rel => exact ⟨k + 1, by omega, by go_num, hide (draws (unhide HBk) _)⟩
            case measure => simp [intOf]; omega
        · have kl : ¬ (k : Int) < (i : Int) := by omega
          go_wp2
          go_roundw
          case rel => exact ⟨i + 1, by omega, by go_num, HBk⟩
          case measure => simp [intOf]; omega
    · have il : ¬ (i : Int) < (T.length : Int) := by omega
      go_wp2
      go_loopw [10] (fun s10 wr => ∃ k : Nat, k ≤ n ∧ s10 = .int .i64 k ∧ Hid (Below w5.heap.size w5 wr)) (fun s10 _ => n - (intOf s10).toNat)
      case atStart => exact ⟨0, Nat.zero_le _, rfl, HBi⟩
      case round =>
        obtain ⟨k, hk, rfl, HBk⟩ := hrel
        obtain ⟨wk, rfl⟩ : ∃ wk : World, wk = wr := ⟨_, rfl⟩
        clear HBi
        by_cases hkn : k < n
        · have kl : (k : Int) < (n : Int) := by omega
          have k0 : (0 : Int) ≤ (k : Int) := by omega
          have hT := (unhide HCF).1 k hkn
          obtain ⟨g1, off1, rfl, _, hc1⟩ := (unhide HC5).keep (unhide HBk) (by rw [nI_len, unhide HCL]; omega)
          obtain ⟨g2, off2, rfl, _, hc2⟩ := (unhide HD5).keep (unhide HBk) (by omega)
          have c0 := hc1 k (by rw [nI_len, unhide HCL]; exact hkn)
          rw [nI_at (by rw [unhide HCL]; exact hkn)] at c0
          by_cases hk0 : k = 0
          · subst hk0
            clear hc1 hc2
            rw [Nat.add_zero] at c0
            generalize C.getD 0 0 = y at *
            have y0 : ¬ (y : Int) < 0 := by omega
            have yt : (y : Int) < (T.length : Int) := by omega
            have z0 : ¬ (0 : Int) < ((0 : Nat) : Int) := by omega
            have n0 : (0 : Int) < (n : Int) := by omega
            clear kl k0
            go_wp2_with fail
            refine wp_region_held (S := fun Z => Z = wk.drew) (by kernel_rfl) ?_
            refine wpAnyH_take (i := 0) (v := .slice (some ⟨g1, off1, none⟩) n c4) rfl (by kernel_rfl) (by kernel_rfl) (by kernel_rfl) (fun _ _ _ h => h) (Or.inl ⟨by rfl, by intro Z hz; subst hz; go_simp <;> omega⟩) rfl ?_
            refine wpAnyH_take (i := 1) (v := .int .i64 0) rfl (by kernel_rfl) (by kernel_rfl) (by kernel_rfl) (fun _ _ _ h => h) (Or.inl ⟨by rfl, by intro Z hz; subst hz; go_simp <;> omega⟩) rfl ?_
            refine wpAnyH_take (i := 2) (v := .pointer (some ⟨g1, off1, none⟩)) rfl (by kernel_rfl) (by kernel_rfl) (by kernel_rfl) (fun _ _ _ h => h) (Or.inl ⟨by rfl, by intro Z hz; subst hz; go_simp <;> omega⟩) rfl ?_
            refine wpAnyH_take (i := 3) (v := .int .i64 y) rfl (by kernel_rfl) (by kernel_rfl) (by kernel_rfl) (fun _ _ _ h => h) (Or.inl ⟨by rfl, by intro Z hz; subst hz; go_simp <;> omega⟩) rfl ?_
            go_simp
            refine wpAnyH_take (i := 4) (v := .bool false) rfl (by kernel_rfl) (by kernel_rfl) (by kernel_rfl) (fun _ _ _ h => h) (Or.inl ⟨by rfl, by intro Z hz; subst hz; go_simp <;> omega⟩) rfl ?_
            refine wpAnyH_take (i := 5) (v := .bool false) rfl (by kernel_rfl) (by kernel_rfl) (by kernel_rfl) (fun _ _ _ h => h) (Or.inl ⟨by rfl, by intro Z hz; subst hz; go_simp <;> omega⟩) rfl ?_
            refine wpAnyH_take (i := 6) (v := .slice (some ⟨g1, off1, none⟩) n c4) rfl (by kernel_rfl) (by kernel_rfl) (by kernel_rfl) (fun _ _ _ h => h) (Or.inl ⟨by rfl, by intro Z hz; subst hz; go_simp <;> omega⟩) rfl ?_
            refine wpAnyH_take (i := 7) (v := .int .i64 0) rfl (by kernel_rfl) (by kernel_rfl) (by kernel_rfl) (fun _ _ _ h => h) (Or.inl ⟨by rfl, by intro Z hz; subst hz; go_simp <;> omega⟩) rfl ?_
            go_simp
            refine wpAnyH_take (i := 8) (v := .pointer (some ⟨g1, off1, none⟩)) rfl (by kernel_rfl) (by kernel_rfl) (by kernel_rfl) (fun _ _ _ h => h) (Or.inl ⟨by rfl, by intro Z hz; subst hz; go_simp <;> omega⟩) rfl ?_
            refine wpAnyH_take (i := 9) (v := .int .i64 y) rfl (by kernel_rfl) (by kernel_rfl) (by kernel_rfl) (fun _ _ _ h => h) (Or.inl ⟨by rfl, by intro Z hz; subst hz; go_simp <;> omega⟩) rfl ?_
            refine wpAnyH_take (i := 10) (v := .slice (some ⟨g2, off2, none⟩) T.length c1) rfl (by kernel_rfl) (by kernel_rfl) (by kernel_rfl) (fun _ _ _ h => h) (Or.inl ⟨by rfl, by intro Z hz; subst hz; go_simp <;> omega⟩) rfl ?_
            refine wpAnyH_take (i := 11) (v := .int .i64 T.length) rfl (by kernel_rfl) (by kernel_rfl) (by kernel_rfl) (fun _ _ _ h => h) (Or.inl ⟨by rfl, by intro Z hz; subst hz; go_simp <;> omega⟩) rfl ?_
            go_simp
            refine wpAnyH_take (i := 12) (v := .bool false) rfl (by kernel_rfl) (by kernel_rfl) (by kernel_rfl) (fun _ _ _ h => h) (Or.inl ⟨by rfl, by intro Z hz; subst hz; go_simp <;> omega⟩) rfl ?_
            refine wpAnyH_take (i := 13) (v := .bool false) rfl (by kernel_rfl) (by kernel_rfl) (by kernel_rfl) (fun _ _ _ h => h) (Or.inl ⟨by rfl, by intro Z hz; subst hz; go_simp <;> omega⟩) rfl ?_
            refine wpAnyH_take (i := 14) (v := .bool false) rfl (by kernel_rfl) (by kernel_rfl) (by kernel_rfl) (fun _ _ _ h => h) (Or.inl ⟨by rfl, by intro Z hz; subst hz; go_simp <;> omega⟩) rfl ?_
            refine wpAnyH_take (i := 15) (v := .int .i64 0) rfl (by kernel_rfl) (by kernel_rfl) (by kernel_rfl) (fun _ _ _ h => h) (Or.inl ⟨by rfl, by intro Z hz; subst hz; go_simp <;> omega⟩) rfl ?_
            go_simp
            refine wpAnyH_take (i := 16) (v := .bool false) rfl (by kernel_rfl) (by kernel_rfl) (by kernel_rfl) (fun _ _ _ h => h) (Or.inl ⟨by rfl, by intro Z hz; subst hz; go_simp <;> omega⟩) rfl ?_
            refine wpAnyH_take (i := 17) (v := .bool false) rfl (by kernel_rfl) (by kernel_rfl) (by kernel_rfl) (fun _ _ _ h => h) (Or.inl ⟨by rfl, by intro Z hz; subst hz; go_simp <;> omega⟩) rfl ?_
            refine wpAnyH_take (i := 18) (v := undef) rfl (by kernel_rfl) (by kernel_rfl) (by kernel_rfl) (fun _ _ _ h => h) (Or.inr ⟨by rfl, rfl⟩) rfl ?_
            refine wpAnyH_take (i := 19) (v := undef) rfl (by kernel_rfl) (by kernel_rfl) (by kernel_rfl) (fun _ _ _ h => h) (Or.inr ⟨by rfl, rfl⟩) rfl ?_
            go_simp
            refine wpAnyH_take (i := 20) (v := undef) rfl (by kernel_rfl) (by kernel_rfl) (by kernel_rfl) (fun _ _ _ h => h) (Or.inr ⟨by rfl, rfl⟩) rfl ?_
            refine wpAnyH_take (i := 21) (v := undef) rfl (by kernel_rfl) (by kernel_rfl) (by kernel_rfl) (fun _ _ _ h => h) (Or.inr ⟨by rfl, rfl⟩) rfl ?_
            refine wpAnyH_take (i := 22) (v := undef) rfl (by kernel_rfl) (by kernel_rfl) (by kernel_rfl) (fun _ _ _ h => h) (Or.inr ⟨by rfl, rfl⟩) rfl ?_
            refine wpAnyH_take (i := 23) (v := undef) rfl (by kernel_rfl) (by kernel_rfl) (by kernel_rfl) (fun _ _ _ h => h) (Or.inr ⟨by rfl, rfl⟩) rfl ?_
            go_simp
            refine wpAnyH_take (i := 24) (v := undef) rfl (by kernel_rfl) (by kernel_rfl) (by kernel_rfl) (fun _ _ _ h => h) (Or.inr ⟨by rfl, rfl⟩) rfl ?_
            refine wpAnyH_take (i := 25) (v := undef) rfl (by kernel_rfl) (by kernel_rfl) (by kernel_rfl) (fun _ _ _ h => h) (Or.inr ⟨by rfl, rfl⟩) rfl ?_
            refine wpAnyH_take (i := 26) (v := undef) rfl (by kernel_rfl) (by kernel_rfl) (by kernel_rfl) (fun _ _ _ h => h) (Or.inr ⟨by rfl, rfl⟩) rfl ?_
            refine wpAnyH_take (i := 27) (v := undef) rfl (by kernel_rfl) (by kernel_rfl) (by kernel_rfl) (fun _ _ _ h => h) (Or.inr ⟨by rfl, rfl⟩) rfl ?_
            go_simp
            refine wpAnyH_take (i := 28) (v := undef) rfl (by kernel_rfl) (by kernel_rfl) (by kernel_rfl) (fun _ _ _ h => h) (Or.inr ⟨by rfl, rfl⟩) rfl ?_
            refine wpAnyH_take (i := 29) (v := undef) rfl (by kernel_rfl) (by kernel_rfl) (by kernel_rfl) (fun _ _ _ h => h) (Or.inr ⟨by rfl, rfl⟩) rfl ?_
            refine wpAnyH_take (i := 30) (v := undef) rfl (by kernel_rfl) (by kernel_rfl) (by kernel_rfl) (fun _ _ _ h => h) (Or.inr ⟨by rfl, rfl⟩) rfl ?_
            refine wpAnyH_take (i := 31) (v := undef) rfl (by kernel_rfl) (by kernel_rfl) (by kernel_rfl) (fun _ _ _ h => h) (Or.inr ⟨by rfl, rfl⟩) rfl ?_
            go_simp
            refine wpAnyH_take (i := 32) (v := undef) rfl (by kernel_rfl) (by kernel_rfl) (by kernel_rfl) (fun _ _ _ h => h) (Or.inr ⟨by rfl, rfl⟩) rfl ?_
            refine wpAnyH_take (i := 33) (v := undef) rfl (by kernel_rfl) (by kernel_rfl) (by kernel_rfl) (fun _ _ _ h => h) (Or.inr ⟨by rfl, rfl⟩) rfl ?_
            refine wpAnyH_take (i := 34) (v := undef) rfl (by kernel_rfl) (by kernel_rfl) (by kernel_rfl) (fun _ _ _ h => h) (Or.inr ⟨by rfl, rfl⟩) rfl ?_
            refine wpAnyH_take (i := 35) (v := undef) rfl (by kernel_rfl) (by kernel_rfl) (by kernel_rfl) (fun _ _ _ h => h) (Or.inr ⟨by rfl, rfl⟩) rfl ?_
            go_simp
            refine wpAnyH_take (i := 36) (v := undef) rfl (by kernel_rfl) (by kernel_rfl) (by kernel_rfl) (fun _ _ _ h => h) (Or.inr ⟨by rfl, rfl⟩) rfl ?_
            refine wpAnyH_take (i := 37) (v := undef) rfl (by kernel_rfl) (by kernel_rfl) (by kernel_rfl) (fun _ _ _ h => h) (Or.inr ⟨by rfl, rfl⟩) rfl ?_
            refine wpAnyH_take (i := 38) (v := undef) rfl (by kernel_rfl) (by kernel_rfl) (by kernel_rfl) (fun _ _ _ h => h) (Or.inr ⟨by rfl, rfl⟩) rfl ?_
            refine wpAnyH_take (i := 39) (v := undef) rfl (by kernel_rfl) (by kernel_rfl) (by kernel_rfl) (fun _ _ _ h => h) (Or.inr ⟨by rfl, rfl⟩) rfl ?_
            go_simp
            refine wpAnyH_take (i := 40) (v := undef) rfl (by kernel_rfl) (by kernel_rfl) (by kernel_rfl) (fun _ _ _ h => h) (Or.inr ⟨by rfl, rfl⟩) rfl ?_
            refine wpAnyH_take (i := 41) (v := undef) rfl (by kernel_rfl) (by kernel_rfl) (by kernel_rfl) (fun _ _ _ h => h) (Or.inr ⟨by rfl, rfl⟩) rfl ?_
            refine wpAnyH_take (i := 42) (v := undef) rfl (by kernel_rfl) (by kernel_rfl) (by kernel_rfl) (fun _ _ _ h => h) (Or.inr ⟨by rfl, rfl⟩) rfl ?_
            refine wpAnyH_take (i := 43) (v := undef) rfl (by kernel_rfl) (by kernel_rfl) (by kernel_rfl) (fun _ _ _ h => h) (Or.inr ⟨by rfl, rfl⟩) rfl ?_
            go_simp
            refine wpAnyH_take (i := 44) (v := undef) rfl (by kernel_rfl) (by kernel_rfl) (by kernel_rfl) (fun _ _ _ h => h) (Or.inr ⟨by rfl, rfl⟩) rfl ?_
            refine wpAnyH_take (i := 45) (v := undef) rfl (by kernel_rfl) (by kernel_rfl) (by kernel_rfl) (fun _ _ _ h => h) (Or.inr ⟨by rfl, rfl⟩) rfl ?_
            refine wpAnyH_take (i := 46) (v := .bool false) rfl (by kernel_rfl) (by kernel_rfl) (by kernel_rfl) (fun _ _ _ h => h) (Or.inl ⟨by rfl, by intro Z hz; subst hz; go_simp <;> omega⟩) rfl ?_
            refine wpAnyH_take (i := 47) (v := .bool false) rfl (by kernel_rfl) (by kernel_rfl) (by kernel_rfl) (fun _ _ _ h => h) (Or.inl ⟨by rfl, by intro Z hz; subst hz; go_simp <;> omega⟩) rfl ?_
            go_simp
            refine wpAnyH_done (by kernel_rfl) ?_ _
            go_simp
            go_wp2
            go_roundw
            case rel => exact ⟨1, by omega, by first | rfl | go_num, hide (onward (unhide HBk) (Below.refl _ _).drew)⟩
            case measure => simp [intOf] <;> omega
          · have hnl := unhide HNl
            obtain ⟨p, hp⟩ : ∃ p, p + 1 = k := ⟨k - 1, by omega⟩
            obtain ⟨s1, s2⟩ := (unhide HCF).2 p (by omega)
            have c1' := hc1 p (by rw [nI_len, unhide HCL]; omega)
            rw [nI_at (by rw [unhide HCL]; omega)] at c1'
            have hT2 := (unhide HCF).1 p (by omega)
            rw [hp] at s1 s2
            have d0 := hc2 (C.getD k 0) hT
            have d1 := hc2 (C.getD p 0) hT2
            have HPk := hide hp
            have zp : (0 : Int) < (k : Int) := by omega
            have hwp : IntKind.i64.wrap ((k : Int) - 1) = (p : Int) := by rw [IntKind.wrap_i64]; omega
            have p0 : (0 : Int) ≤ (p : Int) := by omega
            have pn : (p : Int) < (n : Int) := by omega
            clear hc1 hc2 hk0 hp
            generalize C.getD k 0 = y at *
            generalize C.getD p 0 = z at *
            generalize T.getD y 0 = ty at *
            generalize T.getD z 0 = tz at *
            have y0 : ¬ (y : Int) < 0 := by omega
            have yt : (y : Int) < (T.length : Int) := by omega
            have y0' : (0 : Int) ≤ (y : Int) := by omega
            have zt : (z : Int) < (T.length : Int) := by omega
            have z0' : (0 : Int) ≤ (z : Int) := by omega
            have yz : ¬ (y : Int) ≤ (z : Int) := by omega
            have tt : ty < tz := s2
            have y1' : y < T.length := hT
            have z1' : z < y := s1
            have k1' : 0 < k := by omega
            clear s1 s2 hT hT2
            go_wp2_with fail
            refine wp_region_held (S := fun Z => Z = wk.drew) (by kernel_rfl) ?_
            refine wpAnyH_take (i := 0) (v := .slice (some ⟨g1, off1, none⟩) n c4) rfl (by kernel_rfl) (by kernel_rfl) (by kernel_rfl) (fun _ _ _ h => h) (Or.inl ⟨by rfl, by intro Z hz; subst hz; go_simp <;> omega⟩) rfl ?_
            refine wpAnyH_take (i := 1) (v := .int .i64 k) rfl (by kernel_rfl) (by kernel_rfl) (by kernel_rfl) (fun _ _ _ h => h) (Or.inl ⟨by rfl, by intro Z hz; subst hz; go_simp <;> omega⟩) rfl ?_
            refine wpAnyH_take (i := 2) (v := .pointer (some ⟨g1, off1 + k, none⟩)) rfl (by kernel_rfl) (by kernel_rfl) (by kernel_rfl) (fun _ _ _ h => h) (Or.inl ⟨by rfl, by intro Z hz; subst hz; go_simp <;> omega⟩) rfl ?_
            refine wpAnyH_take (i := 3) (v := .int .i64 y) rfl (by kernel_rfl) (by kernel_rfl) (by kernel_rfl) (fun _ _ _ h => h) (Or.inl ⟨by rfl, by intro Z hz; subst hz; go_simp <;> omega⟩) rfl ?_
            go_simp
            refine wpAnyH_take (i := 4) (v := .bool false) rfl (by kernel_rfl) (by kernel_rfl) (by kernel_rfl) (fun _ _ _ h => h) (Or.inl ⟨by rfl, by intro Z hz; subst hz; go_simp <;> omega⟩) rfl ?_
            refine wpAnyH_take (i := 5) (v := .bool false) rfl (by kernel_rfl) (by kernel_rfl) (by kernel_rfl) (fun _ _ _ h => h) (Or.inl ⟨by rfl, by intro Z hz; subst hz; go_simp <;> omega⟩) rfl ?_
            refine wpAnyH_take (i := 6) (v := .slice (some ⟨g1, off1, none⟩) n c4) rfl (by kernel_rfl) (by kernel_rfl) (by kernel_rfl) (fun _ _ _ h => h) (Or.inl ⟨by rfl, by intro Z hz; subst hz; go_simp <;> omega⟩) rfl ?_
            refine wpAnyH_take (i := 7) (v := .int .i64 k) rfl (by kernel_rfl) (by kernel_rfl) (by kernel_rfl) (fun _ _ _ h => h) (Or.inl ⟨by rfl, by intro Z hz; subst hz; go_simp <;> omega⟩) rfl ?_
            go_simp
            refine wpAnyH_take (i := 8) (v := .pointer (some ⟨g1, off1 + k, none⟩)) rfl (by kernel_rfl) (by kernel_rfl) (by kernel_rfl) (fun _ _ _ h => h) (Or.inl ⟨by rfl, by intro Z hz; subst hz; go_simp <;> omega⟩) rfl ?_
            refine wpAnyH_take (i := 9) (v := .int .i64 y) rfl (by kernel_rfl) (by kernel_rfl) (by kernel_rfl) (fun _ _ _ h => h) (Or.inl ⟨by rfl, by intro Z hz; subst hz; go_simp <;> omega⟩) rfl ?_
            refine wpAnyH_take (i := 10) (v := .slice (some ⟨g2, off2, none⟩) T.length c1) rfl (by kernel_rfl) (by kernel_rfl) (by kernel_rfl) (fun _ _ _ h => h) (Or.inl ⟨by rfl, by intro Z hz; subst hz; go_simp <;> omega⟩) rfl ?_
            refine wpAnyH_take (i := 11) (v := .int .i64 T.length) rfl (by kernel_rfl) (by kernel_rfl) (by kernel_rfl) (fun _ _ _ h => h) (Or.inl ⟨by rfl, by intro Z hz; subst hz; go_simp <;> omega⟩) rfl ?_
            go_simp
            refine wpAnyH_take (i := 12) (v := .bool false) rfl (by kernel_rfl) (by kernel_rfl) (by kernel_rfl) (fun _ _ _ h => h) (Or.inl ⟨by rfl, by intro Z hz; subst hz; go_simp <;> omega⟩) rfl ?_
            refine wpAnyH_take (i := 13) (v := .bool false) rfl (by kernel_rfl) (by kernel_rfl) (by kernel_rfl) (fun _ _ _ h => h) (Or.inl ⟨by rfl, by intro Z hz; subst hz; go_simp <;> omega⟩) rfl ?_
            refine wpAnyH_take (i := 14) (v := .bool false) rfl (by kernel_rfl) (by kernel_rfl) (by kernel_rfl) (fun _ _ _ h => h) (Or.inl ⟨by rfl, by intro Z hz; subst hz; go_simp <;> omega⟩) rfl ?_
            refine wpAnyH_take (i := 15) (v := .int .i64 k) rfl (by kernel_rfl) (by kernel_rfl) (by kernel_rfl) (fun _ _ _ h => h) (Or.inl ⟨by rfl, by intro Z hz; subst hz; go_simp <;> omega⟩) rfl ?_
            go_simp
            refine wpAnyH_take (i := 16) (v := .bool true) rfl (by kernel_rfl) (by kernel_rfl) (by kernel_rfl) (fun _ _ _ h => h) (Or.inl ⟨by rfl, by intro Z hz; subst hz; go_simp <;> omega⟩) rfl ?_
            refine wpAnyH_take (i := 17) (v := .bool true) rfl (by kernel_rfl) (by kernel_rfl) (by kernel_rfl) (fun _ _ _ h => h) (Or.inl ⟨by rfl, by intro Z hz; subst hz; go_simp <;> omega⟩) rfl ?_
            refine wpAnyH_take (i := 18) (v := .slice (some ⟨g1, off1, none⟩) n c4) rfl (by kernel_rfl) (by kernel_rfl) (by kernel_rfl) (fun _ _ _ h => h) (Or.inl ⟨by rfl, by intro Z hz; subst hz; go_simp <;> omega⟩) rfl ?_
            refine wpAnyH_take (i := 19) (v := .int .i64 k) rfl (by kernel_rfl) (by kernel_rfl) (by kernel_rfl) (fun _ _ _ h => h) (Or.inl ⟨by rfl, by intro Z hz; subst hz; go_simp <;> omega⟩) rfl ?_
            go_simp
            refine wpAnyH_take (i := 20) (v := .pointer (some ⟨g1, off1 + k, none⟩)) rfl (by kernel_rfl) (by kernel_rfl) (by kernel_rfl) (fun _ _ _ h => h) (Or.inl ⟨by rfl, by intro Z hz; subst hz; go_simp <;> omega⟩) rfl ?_
            refine wpAnyH_take (i := 21) (v := .int .i64 y) rfl (by kernel_rfl) (by kernel_rfl) (by kernel_rfl) (fun _ _ _ h => h) (Or.inl ⟨by rfl, by intro Z hz; subst hz; go_simp <;> omega⟩) rfl ?_
            refine wpAnyH_take (i := 22) (v := .slice (some ⟨g1, off1, none⟩) n c4) rfl (by kernel_rfl) (by kernel_rfl) (by kernel_rfl) (fun _ _ _ h => h) (Or.inl ⟨by rfl, by intro Z hz; subst hz; go_simp <;> omega⟩) rfl ?_
            refine wpAnyH_take (i := 23) (v := .int .i64 k) rfl (by kernel_rfl) (by kernel_rfl) (by kernel_rfl) (fun _ _ _ h => h) (Or.inl ⟨by rfl, by intro Z hz; subst hz; go_simp <;> omega⟩) rfl ?_
            go_simp
            refine wpAnyH_take (i := 24) (v := .int .i64 p) rfl (by kernel_rfl) (by kernel_rfl) (by kernel_rfl) (fun _ _ _ h => h) (Or.inl ⟨by rfl, by intro Z hz; subst hz; go_simp <;> omega⟩) rfl ?_
            refine wpAnyH_take (i := 25) (v := .pointer (some ⟨g1, off1 + p, none⟩)) rfl (by kernel_rfl) (by kernel_rfl) (by kernel_rfl) (fun _ _ _ h => h) (Or.inl ⟨by rfl, by intro Z hz; subst hz; go_simp <;> omega⟩) rfl ?_
            refine wpAnyH_take (i := 26) (v := .int .i64 z) rfl (by kernel_rfl) (by kernel_rfl) (by kernel_rfl) (fun _ _ _ h => h) (Or.inl ⟨by rfl, by intro Z hz; subst hz; go_simp <;> omega⟩) rfl ?_
            refine wpAnyH_take (i := 27) (v := .bool false) rfl (by kernel_rfl) (by kernel_rfl) (by kernel_rfl) (fun _ _ _ h => h) (Or.inl ⟨by rfl, by intro Z hz; subst hz; go_simp <;> omega⟩) rfl ?_
            go_simp
            refine wpAnyH_take (i := 28) (v := .bool false) rfl (by kernel_rfl) (by kernel_rfl) (by kernel_rfl) (fun _ _ _ h => h) (Or.inl ⟨by rfl, by intro Z hz; subst hz; go_simp <;> omega⟩) rfl ?_
            refine wpAnyH_take (i := 29) (v := .slice (some ⟨g2, off2, none⟩) T.length c1) rfl (by kernel_rfl) (by kernel_rfl) (by kernel_rfl) (fun _ _ _ h => h) (Or.inl ⟨by rfl, by intro Z hz; subst hz; go_simp <;> omega⟩) rfl ?_
            refine wpAnyH_take (i := 30) (v := .slice (some ⟨g1, off1, none⟩) n c4) rfl (by kernel_rfl) (by kernel_rfl) (by kernel_rfl) (fun _ _ _ h => h) (Or.inl ⟨by rfl, by intro Z hz; subst hz; go_simp <;> omega⟩) rfl ?_
            refine wpAnyH_take (i := 31) (v := .int .i64 k) rfl (by kernel_rfl) (by kernel_rfl) (by kernel_rfl) (fun _ _ _ h => h) (Or.inl ⟨by rfl, by intro Z hz; subst hz; go_simp <;> omega⟩) rfl ?_
            go_simp
            refine wpAnyH_take (i := 32) (v := .pointer (some ⟨g1, off1 + k, none⟩)) rfl (by kernel_rfl) (by kernel_rfl) (by kernel_rfl) (fun _ _ _ h => h) (Or.inl ⟨by rfl, by intro Z hz; subst hz; go_simp <;> omega⟩) rfl ?_
            refine wpAnyH_take (i := 33) (v := .int .i64 y) rfl (by kernel_rfl) (by kernel_rfl) (by kernel_rfl) (fun _ _ _ h => h) (Or.inl ⟨by rfl, by intro Z hz; subst hz; go_simp <;> omega⟩) rfl ?_
            refine wpAnyH_take (i := 34) (v := .pointer (some ⟨g2, off2 + y, none⟩)) rfl (by kernel_rfl) (by kernel_rfl) (by kernel_rfl) (fun _ _ _ h => h) (Or.inl ⟨by rfl, by intro Z hz; subst hz; go_simp <;> omega⟩) rfl ?_
            refine wpAnyH_take (i := 35) (v := .int .i64 ty) rfl (by kernel_rfl) (by kernel_rfl) (by kernel_rfl) (fun _ _ _ h => h) (Or.inl ⟨by rfl, by intro Z hz; subst hz; go_simp <;> omega⟩) rfl ?_
            go_simp
            refine wpAnyH_take (i := 36) (v := .slice (some ⟨g2, off2, none⟩) T.length c1) rfl (by kernel_rfl) (by kernel_rfl) (by kernel_rfl) (fun _ _ _ h => h) (Or.inl ⟨by rfl, by intro Z hz; subst hz; go_simp <;> omega⟩) rfl ?_
            refine wpAnyH_take (i := 37) (v := .slice (some ⟨g1, off1, none⟩) n c4) rfl (by kernel_rfl) (by kernel_rfl) (by kernel_rfl) (fun _ _ _ h => h) (Or.inl ⟨by rfl, by intro Z hz; subst hz; go_simp <;> omega⟩) rfl ?_
            refine wpAnyH_take (i := 38) (v := .int .i64 k) rfl (by kernel_rfl) (by kernel_rfl) (by kernel_rfl) (fun _ _ _ h => h) (Or.inl ⟨by rfl, by intro Z hz; subst hz; go_simp <;> omega⟩) rfl ?_
            refine wpAnyH_take (i := 39) (v := .int .i64 p) rfl (by kernel_rfl) (by kernel_rfl) (by kernel_rfl) (fun _ _ _ h => h) (Or.inl ⟨by rfl, by intro Z hz; subst hz; go_simp <;> omega⟩) rfl ?_
            go_simp
            refine wpAnyH_take (i := 40) (v := .pointer (some ⟨g1, off1 + p, none⟩)) rfl (by kernel_rfl) (by kernel_rfl) (by kernel_rfl) (fun _ _ _ h => h) (Or.inl ⟨by rfl, by intro Z hz; subst hz; go_simp <;> omega⟩) rfl ?_
            refine wpAnyH_take (i := 41) (v := .int .i64 z) rfl (by kernel_rfl) (by kernel_rfl) (by kernel_rfl) (fun _ _ _ h => h) (Or.inl ⟨by rfl, by intro Z hz; subst hz; go_simp <;> omega⟩) rfl ?_
            refine wpAnyH_take (i := 42) (v := .pointer (some ⟨g2, off2 + z, none⟩)) rfl (by kernel_rfl) (by kernel_rfl) (by kernel_rfl) (fun _ _ _ h => h) (Or.inl ⟨by rfl, by intro Z hz; subst hz; go_simp <;> omega⟩) rfl ?_
            refine wpAnyH_take (i := 43) (v := .int .i64 tz) rfl (by kernel_rfl) (by kernel_rfl) (by kernel_rfl) (fun _ _ _ h => h) (Or.inl ⟨by rfl, by intro Z hz; subst hz; go_simp <;> omega⟩) rfl ?_
            go_simp
            refine wpAnyH_take (i := 44) (v := .bool false) rfl (by kernel_rfl) (by kernel_rfl) (by kernel_rfl) (fun _ _ _ h => h) (Or.inl ⟨by rfl, by intro Z hz; subst hz; go_simp <;> omega⟩) rfl ?_
            refine wpAnyH_take (i := 45) (v := .bool false) rfl (by kernel_rfl) (by kernel_rfl) (by kernel_rfl) (fun _ _ _ h => h) (Or.inl ⟨by rfl, by intro Z hz; subst hz; go_simp <;> omega⟩) rfl ?_
            refine wpAnyH_take (i := 46) (v := .bool false) rfl (by kernel_rfl) (by kernel_rfl) (by kernel_rfl) (fun _ _ _ h => h) (Or.inl ⟨by rfl, by intro Z hz; subst hz; go_simp <;> omega⟩) rfl ?_
            refine wpAnyH_take (i := 47) (v := .bool false) rfl (by kernel_rfl) (by kernel_rfl) (by kernel_rfl) (fun _ _ _ h => h) (Or.inl ⟨by rfl, by intro Z hz; subst hz; go_simp <;> omega⟩) rfl ?_
            go_simp
            refine wpAnyH_done (by kernel_rfl) ?_ _
            go_simp
            go_wp2
            go_roundw
            case rel => exact ⟨k + 1, by omega, by go_num, hide (onward (unhide HBk) (Below.refl _ _).drew)⟩
            case measure => simp [intOf]; omega
        · have kl : ¬ (k : Int) < (n : Int) := by omega
          by_cases hn : n = 0
          · have n0' : ¬ (0 : Int) < (n : Int) := by omega
            have t0 : ¬ (0 : Int) < (T.length : Int) := by have := (unhide HPos).1 hn; omega
            clear hn
            go_wp2_with (go_at_call 9; refine (awake_lan (unhide HP) _).mono ?_; rintro e wz ⟨rfl, hbz⟩; have HBZ := hide (onward (onward (unhide HB5) (unhide HBk)) hbz); clear hbz)
            go_ret
            exact ⟨rfl, unhide HBZ⟩
          · have n0' : (0 : Int) < (n : Int) := by omega
            have t0 : (0 : Int) < (T.length : Int) := by
              have h9 : ¬ T.length = 0 := fun h => hn ((unhide HPos).2 h)
              omega
            clear hn
            go_wp2_with (go_at_call 9; refine (awake_lan (unhide HP) _).mono ?_; rintro e wz ⟨rfl, hbz⟩; have HBZ := hide (onward (onward (unhide HB5) (unhide HBk)) hbz); clear hbz)
            go_ret
            exact ⟨rfl, unhide HBZ⟩
end Go.Proofs.Ytmmhchhekmcihaa
