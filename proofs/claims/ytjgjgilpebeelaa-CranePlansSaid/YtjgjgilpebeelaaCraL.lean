/-
  Crane (layer 18): the document's own Plan and Overload.
-/
import Derived.Test.YtjgjgilpebeelaaCraJ
namespace Go.Proofs.Ytjgjgilpebeelaa
open Go.RowKit

theorem chk_plan {now : Int} {jobs : List Jb} {o : List Int} (hv : valJ now jobs = 0) (ho : IsBy jobs o) : chkE now jobs o = planE now jobs := by
  by_cases hl : latI now jobs o = -1
  · rw [chk_ok hv ho.ordb hl, (plan_ok hv ho hl).1]
  · rw [chk_late hv ho.ordb hl, (plan_late hv ho hl).1]
theorem planL_ok {now : Int} {jobs : List Jb} {o : List Int} (ho : IsBy jobs o) (h : planE now jobs = 0) : planL now jobs = o := by unfold planL; rw [if_pos h, ← ho.ord]
theorem planL_no {now : Int} {jobs : List Jb} (h : planE now jobs ≠ 0) : planL now jobs = [] := if_neg h
set_option maxHeartbeats 2000000 in
set_option maxRecDepth 100000 in
theorem rplan_any (b : Nat) (now : Int) (jobs : List Jb) (A : Option Addr) (c : Nat) (w : World) (hz : jobs.length ≤ 1000) (h : JbsIn b w A jobs) :
    Calls Try.prog 12 #[.int .i64 now, .slice A jobs.length c] w (GivE w (planL now jobs) (planE now jobs)) := by
  have HVa := hide (rvalid_any b now jobs A c w (by omega) h)
  have HB0 := hide (Below.refl w.heap.size w)
  by_cases hv : valJ now jobs = 0
  case neg =>
    have HP := hide (plan_bad hv)
    obtain ⟨v, hvv⟩ : ∃ v, valJ now jobs = v := ⟨_, rfl⟩
    rw [hvv] at HVa hv HP
    have HVa := hide (unhide HVa)
    have HP := hide (unhide HP)
    have q0 : (v != 0) = true := by rw [bne_iff_ne]; exact hv
    clear hvv hv h
    go_enter Try.func12, Try.ntmps12
    go_wp2_with (go_at_call 30; refine (unhide HVa).mono ?_; rintro e w1 ⟨rfl, rfl⟩)
    go_ret2
    rw [(unhide HP).1, (unhide HP).2.1]
    exact ⟨none, 0, rfl, numsR_nil (unhide HB0)⟩
  have HV := hide hv
  rw [hv] at HVa
  have HVa := hide (unhide HVa)
  have HJ := hide h
  have HBD := hide (rbyDue_any b jobs A c w hz h)
  clear hv h
  go_enter Try.func12, Try.ntmps12
  go_wp2_with fail
  refine (unhide HVa).mono ?_
  rintro e w1 ⟨rfl, rfl⟩
  go_wp2_with fail
  refine (unhide HBD).mono ?_
  rintro e w2 ⟨o, A2, c2, rfl, ho, hown, hb2⟩
  have HO := hide ho
  have HL := hide ho.len
  have HB2 := hide hb2
  have HR2 := hide (numsR_own (w := w) hown (Nat.le_refl _) hb2)
  have HCh := hide (rchk_any w2.heap.size now jobs o A A2 c c2 w2 hz (by rw [ho.len]; exact hz) (by rw [ho.len]; exact own_cap hown) (((unhide HJ).keep hb2).other jbC_len (by omega) (Nat.le_refl _)) ((unhide HR2).1 _ (.inr (Nat.le_refl _))))
  rw [ho.len, chk_plan (unhide HV) ho] at HCh
  have HCh := hide (unhide HCh)
  clear ho hown hb2 HBD HVa
  by_cases hp : planE now jobs = 0
  · have HPL := hide (planL_ok (unhide HO) hp)
    rw [hp] at HCh
    have HCh := hide (unhide HCh)
    have HP := hide hp
    clear hp
    go_wp2_with (go_at_call 19; refine (unhide HCh).mono ?_; rintro e w3 ⟨rfl, hb3⟩; have HB3 := hide hb3; clear hb3)
    go_ret2
    rw [unhide HP, unhide HPL]
    refine ⟨A2, c2, by rw [unhide HL]; rfl, fun b hb => ?_, onward (unhide HB2) (unhide HB3), (unhide HR2).2.2⟩
    rcases hb with hb | hb
    · exact ((unhide HR2).1 b (.inl hb)).keep (unhide HB3)
    · exact (((unhide HR2).1 b (.inr (Nat.le_trans (unhide HB3).size hb)))).keep (unhide HB3)
  · have HPL := hide (planL_no hp)
    obtain ⟨v, hvv⟩ : ∃ v, planE now jobs = v := ⟨_, rfl⟩
    rw [hvv] at HCh hp
    have HCh := hide (unhide HCh)
    have HVv := hide hvv
    have q0 : (v != 0) = true := by rw [bne_iff_ne]; exact hp
    clear hvv hp
    go_wp2_with (go_at_call 19; refine (unhide HCh).mono ?_; rintro e w3 ⟨rfl, hb3⟩; have HB3 := hide hb3; clear hb3)
    go_ret2
    rw [unhide HVv, unhide HPL]
    exact ⟨none, 0, rfl, numsR_nil (onward (unhide HB2) (unhide HB3))⟩
set_option maxHeartbeats 2000000 in
set_option maxRecDepth 100000 in
theorem rover_any (b : Nat) (now : Int) (jobs : List Jb) (A : Option Addr) (c : Nat) (w : World) (hz : jobs.length ≤ 1000) (h : JbsIn b w A jobs) :
    Calls Try.prog 17 #[.int .i64 now, .slice A jobs.length c] w (GivN w (ovL now jobs)) := by
  have HVa := hide (rvalid_any b now jobs A c w (by omega) h)
  have HB0 := hide (Below.refl w.heap.size w)
  by_cases hv : valJ now jobs = 0
  case neg =>
    have HP := hide (plan_bad hv).2.2
    obtain ⟨v, hvv⟩ : ∃ v, valJ now jobs = v := ⟨_, rfl⟩
    rw [hvv] at HVa hv
    have HVa := hide (unhide HVa)
    have q0 : (v != 0) = true := by rw [bne_iff_ne]; exact hv
    clear hvv hv h
    go_enter Try.func17, Try.ntmps17
    go_wp2_with (go_at_call 30; refine (unhide HVa).mono ?_; rintro e w1 ⟨rfl, rfl⟩)
    go_ret
    rw [unhide HP]
    exact ⟨none, 0, rfl, numsR_nil (unhide HB0)⟩
  have HV := hide hv
  rw [hv] at HVa
  have HVa := hide (unhide HVa)
  have HJ := hide h
  have HBD := hide (rbyDue_any b jobs A c w hz h)
  clear hv h
  go_enter Try.func17, Try.ntmps17
  go_wp2_with fail
  refine (unhide HVa).mono ?_
  rintro e w1 ⟨rfl, rfl⟩
  go_wp2_with fail
  refine (unhide HBD).mono ?_
  rintro e w2 ⟨o, A2, c2, rfl, ho, hown, hb2⟩
  have HO := hide ho
  have HL := hide ho.len
  have HB2 := hide hb2
  have HR2 := hide (numsR_own (w := w) hown (Nat.le_refl _) hb2)
  have HN2 := hide ((unhide HR2).1 w2.heap.size (.inr (Nat.le_refl _)))
  have HJ2 := hide (((unhide HJ).keep hb2).other jbC_len (by omega) (Nat.le_refl w2.heap.size))
  have HFi := hide (rfin_ok w2.heap.size now jobs o A A2 c c2 w2 (unhide HV) ho.ordb hz (by rw [ho.len]; exact hz) (by rw [ho.len]; exact own_cap hown) (unhide HJ2) (unhide HN2))
  rw [ho.len] at HFi
  have HFi := hide (unhide HFi)
  have hcap : jobs.length ≤ c2 := own_cap hown
  clear ho hown hb2 HBD HVa
  go_wp2_with fail
  refine (unhide HFi).mono ?_
  rintro e w3 ⟨A3, c3, rfl, hn3, hb3, _⟩
  have HB3 := hide (onward (unhide HB2) hb3)
  have HN3 := hide (hn3 w3.heap.size (.inr (Nat.le_refl _)))
  have HJ3 := hide ((unhide HJ2).keep hb3)
  have HM3 := hide ((unhide HN2).keep hb3)
  have HFl := hide (show (finJ now jobs o).length = jobs.length by rw [finJ_len]; exact unhide HL)
  have HBe := hide hb3
  have H0 := hide (Below.refl w3.heap.size w3)
  clear hn3 hb3 HFi
  go_wp2_with fail
  go_loopw [7] (fun s7 wr => ∃ k : Nat, k ≤ jobs.length ∧ s7 = .int .i64 k ∧ Hid (Below w3.heap.size w3 wr) ∧ Hid (∀ j, j < k → latB now jobs o j = false)) (fun s7 _ => jobs.length - (intOf s7).toNat)
  case atStart => exact ⟨0, Nat.zero_le _, rfl, H0, hide fun j hj => absurd hj (Nat.not_lt_zero _)⟩
  case round =>
    clear H0
    obtain ⟨k, hk, rfl, HB, HP⟩ := hrel
    obtain ⟨wo, rfl⟩ : ∃ wo : World, wo = wr := ⟨_, rfl⟩
    by_cases hlt : k < jobs.length
    · have kl : (k : Int) < (jobs.length : Int) := by omega
      have k0 : (0 : Int) ≤ (k : Int) := by omega
      have hko : k < o.length := by rw [unhide HL]; exact hlt
      obtain ⟨g3, off3, rfl, _, hc3⟩ := ((unhide HN3).keep (unhide HB)) (by rw [unhide HFl]; omega)
      have r0 := hc3 k (by rw [unhide HFl]; exact hlt)
      rw [finJ_at hko] at r0
      obtain ⟨g', off', rfl, _, hc⟩ := ((unhide HM3).keep (unhide HB)) (by omega)
      have c0 := hc k hko
      have hx := (unhide HO).mem.1 (show o.getD k 0 ∈ o by rw [at_k hko]; exact List.getElem_mem _)
      obtain ⟨j, hj⟩ := Int.eq_ofNat_of_zero_le hx.1
      have hL : latB now jobs o k = decide (dueJ jobs (j : Int) < endK now jobs o (k + 1)) := by unfold latB; rw [hj]
      rw [hj] at c0 hx
      have jn : (j : Int) < (jobs.length : Int) := hx.2
      have j0 : (0 : Int) ≤ (j : Int) := hx.1
      obtain ⟨g, off, rfl, _, c1⟩ := jbs_get ((unhide HJ3).keep (unhide HB)) (j := j) (by omega)
      have HA := hide (show latB now jobs o k = true → ovL now jobs = o.take (k + 1) from fun h9 => by
        obtain ⟨m, hm, e1, e2⟩ := over_ok (now := now) (unhide HV) (unhide HO)
        rw [latI_at hko (unhide HP) h9] at e1
        obtain rfl : m = k + 1 := by omega
        exact e2)
      have HS := hide (show latB now jobs o k = false → ∀ j, j < k + 1 → latB now jobs o j = false from fun h9 j hj9 => by
        rcases Nat.lt_or_ge j k with c1 | c1
        · exact unhide HP j c1
        · obtain rfl : j = k := by omega
          exact h9)
      rw [hL] at HA HS
      have HKo := hide hko
      generalize endK now jobs o (k + 1) = E1 at r0 HA HS
      generalize dueJ jobs (j : Int) = D at c1 HA HS
      replace r0 := After.cell r0
      replace c0 := After.cell c0
      replace c1 := After.cell c1
      clear hc hc3 hx hL hj hko
      by_cases hd : D < E1
      · have HV2 := hide (unhide HA (decide_eq_true hd))
        have wk : IntKind.i64.wrap ((k : Int) + 1) = ((k + 1 : Nat) : Int) := by rw [IntKind.wrap_i64]; omega
        have s0 : (0 : Int) ≤ ((k + 1 : Nat) : Int) := by omega
        have s1 : ((k + 1 : Nat) : Int) ≤ (jobs.length : Int) := by omega
        have s2 : ((k + 1 : Nat) : Int) ≤ (c2 : Int) := by omega
        clear HA HS
        go_wp2_with fail
        refine wp_region_after (by kernel_rfl) (by kernel_rfl) ?_
        repeat (go_big_quiet_step (fail))
        refine wpQuiet_nil ?_
        rintro _ ⟨t, rfl⟩
        have HBt := hide (onward (unhide HB) t.is)
        generalize t.to = w4 at HBt ⊢
        clear r0 c0 c1 t
        obtain ⟨n1, hn1⟩ : ∃ n1, k + 1 = n1 := ⟨_, rfl⟩
        rw [hn1] at wk s0 s1 s2
        have HN1 := hide hn1
        clear hn1
        go_wp2
        go_ret
        rw [unhide HV2, unhide HN1]
        have htl : (o.take n1).length = n1 := by rw [List.length_take, unhide HL]; omega
        refine ⟨_, c2, by rw [htl]; rfl, fun b hb => ?_, onward (unhide HB3) (unhide HBt), by rw [htl]; omega⟩
        refine nums_take ?_ n1
        have hBB := onward (unhide HBe) (unhide HBt)
        rcases hb with hb | hb
        · exact ((unhide HR2).1 b (.inl hb)).keep hBB
        · exact ((unhide HR2).1 b (.inr (Nat.le_trans hBB.size hb))).keep hBB
      · have HV2 := hide (unhide HS (decide_eq_false hd))
        clear HA HS
        go_wp2_with fail
        refine wp_region_after (by kernel_rfl) (by kernel_rfl) ?_
        repeat (go_big_quiet_step (fail))
        refine wpQuiet_nil ?_
        rintro _ ⟨t, rfl⟩
        have HB4 := hide (onward (unhide HB) t.is)
        generalize t.to = w4 at HB4 ⊢
        clear r0 c0 c1 t
        go_wp2
        go_roundw
        case rel => exact ⟨k + 1, by omega, by go_num, HB4, HV2⟩
        case measure => simp [intOf]; omega
    · obtain rfl : k = jobs.length := by omega
      have kl : ¬ (jobs.length : Int) < (jobs.length : Int) := by omega
      have HV2 := hide (show ovL now jobs = [] from by
        obtain ⟨m, hm, e1, e2⟩ := over_ok (now := now) (unhide HV) (unhide HO)
        rw [latI_end (by rw [unhide HL]; exact unhide HP)] at e1
        obtain rfl : m = 0 := by omega
        rw [e2, List.take_zero])
      go_wp2
      go_ret
      rw [unhide HV2]
      exact ⟨none, 0, rfl, numsR_nil (onward (unhide HB3) (unhide HB))⟩
end Go.Proofs.Ytjgjgilpebeelaa
