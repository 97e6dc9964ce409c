/-
  Crane (layer 18): the document's own Cost, valid, isOrder, Finish, Check.
-/
import Derived.Test.YtjgjgilpebeelaaCraD
import Derived.Test.YtjgjgilpebeelaaKinA
namespace Go.Proofs.Ytjgjgilpebeelaa
open Go.RowKit

theorem rcost_any (x : Int) (w : World) : Calls Try.prog 21 #[.int .i64 x] w fun e w' => e = .returned (.int .i64 (cstI x)) ∧ w = w' := by
  by_cases h1 : x < 0
  · have HV := hide (show cstI x = -1 from if_neg (by omega))
    go_enter Try.func21, Try.ntmps21
    go_wp2
    go_ret
    exact ⟨ret_int (unhide HV).symm, rfl⟩
  · by_cases h2 : 99 < x
    · have HV := hide (show cstI x = -1 from if_neg (by omega))
      go_enter Try.func21, Try.ntmps21
      go_wp2
      go_ret
      exact ⟨ret_int (unhide HV).symm, rfl⟩
    · have HV := hide (show cstI x = 2 * x + 2 from if_pos (by omega))
      have w1 : IntKind.i64.wrap (2 * x) = 2 * x := by rw [IntKind.wrap_i64]; omega
      have w2 : IntKind.i64.wrap (2 * x + 2) = 2 * x + 2 := by rw [IntKind.wrap_i64]; omega
      go_enter Try.func21, Try.ntmps21
      go_wp2
      go_ret
      exact ⟨ret_int (unhide HV).symm, rfl⟩
theorem jb_get {b : Nat} {w : World} {A : Option Addr} {jobs : List Jb} (h : JbsIn b w A jobs) {j : Nat} (hj : j < jobs.length) :
    ∃ g off, A = some ⟨g, off, none⟩ ∧ w.cell? ⟨g, off + j * 2, none⟩ = some (.int .i64 (jobs.getD j (0, 0)).1) ∧ w.cell? ⟨g, off + j * 2 + 1, none⟩ = some (.int .i64 (jobs.getD j (0, 0)).2) := by
  obtain ⟨g, off, e, _, hc⟩ := h.at jbC_len hj ((0, 0) : Jb)
  exact ⟨g, off, e, hc 0 _ rfl, hc 1 _ rfl⟩
theorem valJ_bad {now : Int} {l : List Jb} (hl : ¬ 200 < l.length) (h : timB now = false ∨ ∃ k, k < l.length ∧ badJ (l.getD k (0, 0)) = true) : valJ now l = 1 := by
  unfold valJ
  rw [if_neg hl, if_pos]
  rcases h with h | ⟨k, hk, h⟩
  · exact .inl h
  · exact .inr (List.any_eq_true.2 ⟨_, by rw [at_k hk]; exact List.getElem_mem _, h⟩)
theorem valJ_good {now : Int} {l : List Jb} (hl : ¬ 200 < l.length) (ht : timB now = true) (h : ∀ j, j < l.length → badJ (l.getD j (0, 0)) = false) : valJ now l = 0 := by
  unfold valJ
  rw [if_neg hl, if_neg]
  rintro (h1 | h1)
  · rw [ht] at h1; cases h1
  · rw [List.any_eq_true] at h1
    obtain ⟨x, hx, hb⟩ := h1
    obtain ⟨i, hi, rfl⟩ := List.getElem_of_mem hx
    rw [← at_k (d := (0, 0)) hi, h i hi] at hb
    cases hb
set_option maxHeartbeats 2000000 in
set_option maxRecDepth 100000 in
theorem rvalid_any (b : Nat) (now : Int) (l : List Jb) (A : Option Addr) (c : Nat) (w : World) (hz : l.length ≤ 1000000) (h : JbsIn b w A l) :
    Calls Try.prog 30 #[.int .i64 now, .slice A l.length c] w fun e w' => e = .returned (.int .i64 (valJ now l)) ∧ w = w' := by
  by_cases h1 : 200 < l.length
  · have q1 : (200 : Int) < (l.length : Int) := by omega
    have HV := hide (show valJ now l = 2 from if_pos h1)
    clear h
    go_enter Try.func30, Try.ntmps30
    go_wp2
    go_ret
    exact ⟨ret_int (unhide HV).symm, rfl⟩
  have q1 : ¬ (200 : Int) < (l.length : Int) := by omega
  have HH1 := hide h1
  by_cases h2 : now < 0
  · have HV := hide (show valJ now l = 1 from valJ_bad h1 (.inl (by unfold timB; rw [decide_eq_false_iff_not]; omega)))
    clear h h1
    go_enter Try.func30, Try.ntmps30
    go_wp2
    go_ret
    exact ⟨ret_int (unhide HV).symm, rfl⟩
  by_cases h3 : 1048576 < now
  · have HV := hide (show valJ now l = 1 from valJ_bad h1 (.inl (by unfold timB; rw [decide_eq_false_iff_not]; omega)))
    clear h h1
    go_enter Try.func30, Try.ntmps30
    go_wp2
    go_ret
    exact ⟨ret_int (unhide HV).symm, rfl⟩
  have HT := hide (show timB now = true by unfold timB; rw [decide_eq_true_eq]; omega)
  have HN := hide h
  clear h h1
  go_enter Try.func30, Try.ntmps30
  go_wp2
  go_loop [5] (fun i => ∃ k : Nat, k ≤ l.length ∧ i = .int .i64 k ∧ Hid (∀ j, j < k → badJ (l.getD j (0, 0)) = false)) (fun i => l.length - (intOf i).toNat)
  case atStart => exact ⟨0, Nat.zero_le _, rfl, hide fun j hj => absurd hj (Nat.not_lt_zero _)⟩
  case round =>
    obtain ⟨k, hk, rfl, HP⟩ := hrel
    by_cases hlt : k < l.length
    · obtain ⟨g, off, rfl, c0, c1⟩ := jb_get (unhide HN) hlt
      have kl : (k : Int) < (l.length : Int) := by omega
      have k0 : (0 : Int) ≤ (k : Int) := by omega
      have HS := hide (show badJ (l.getD k (0, 0)) = false → ∀ j, j < k + 1 → badJ (l.getD j (0, 0)) = false from fun h9 j hj => by
        rcases Nat.lt_or_ge j k with c1 | c1
        · exact unhide HP j c1
        · obtain rfl : j = k := by omega
          exact h9)
      have HE := hide (show badJ (l.getD k (0, 0)) = true → valJ now l = 1 from fun h9 => valJ_bad (unhide HH1) (.inr ⟨k, hlt, h9⟩))
      generalize l.getD k (0, 0) = s at c0 c1 HE HS
      obtain ⟨p, d⟩ := s
      simp only [] at c0 c1
      have HC := hide (rcost_any p w)
      by_cases hp : 0 ≤ p ∧ p ≤ 99
      · obtain ⟨cv, hcv⟩ : ∃ cv, cstI p = cv := ⟨_, rfl⟩
        have hc0 : 0 ≤ cv := by rw [← hcv]; unfold cstI; rw [if_pos hp]; omega
        rw [hcv] at HC
        have HC := hide (unhide HC)
        have q2 : ¬ cv < 0 := by omega
        clear hcv
        by_cases hd : d < 0
        · have HV := hide (unhide HE (by unfold badJ timB; simp only [Bool.or_eq_true, Bool.not_eq_true', decide_eq_false_iff_not]; right; omega))
          clear hp
          go_wp2_with (go_at_call 21; refine (unhide HC).mono ?_; rintro e w' ⟨rfl, rfl⟩)
          go_ret
          exact ⟨ret_int (unhide HV).symm, rfl⟩
        · by_cases hd2 : 1048576 < d
          · have HV := hide (unhide HE (by unfold badJ timB; simp only [Bool.or_eq_true, Bool.not_eq_true', decide_eq_false_iff_not]; right; omega))
            clear hp
            go_wp2_with (go_at_call 21; refine (unhide HC).mono ?_; rintro e w' ⟨rfl, rfl⟩)
            go_ret
            exact ⟨ret_int (unhide HV).symm, rfl⟩
          · have HV := hide (unhide HS (by unfold badJ posB timB; simp only [Bool.or_eq_false_iff, Bool.not_eq_false', decide_eq_true_eq]; omega))
            clear hp
            go_wp2_with (go_at_call 21; refine (unhide HC).mono ?_; rintro e w' ⟨rfl, rfl⟩)
            go_round
            case rel => exact ⟨k + 1, by omega, by go_num, HV⟩
            case measure => simp [intOf]; omega
      · have HV := hide (unhide HE (by unfold badJ posB; simp only [Bool.or_eq_true, Bool.not_eq_true', decide_eq_false_iff_not]; left; exact hp))
        rw [show cstI p = -1 from if_neg hp] at HC
        have HC := hide (unhide HC)
        clear hp
        go_wp2_with (go_at_call 21; refine (unhide HC).mono ?_; rintro e w' ⟨rfl, rfl⟩)
        go_ret
        exact ⟨ret_int (unhide HV).symm, rfl⟩
    · obtain rfl : k = l.length := by omega
      have kl : ¬ (l.length : Int) < (l.length : Int) := by omega
      have HV := hide (valJ_good (unhide HH1) (unhide HT) (unhide HP))
      go_wp2
      go_ret
      exact ⟨ret_int (unhide HV).symm, rfl⟩
theorem nums_take {b : Nat} {w : World} {A : Option Addr} {l : List Int} (h : NumsIn b w A l) (k : Nat) : NumsIn b w A (l.take k) := fun hn => by
  rw [List.length_take] at hn
  obtain ⟨g, off, hA, hg, hc⟩ := h (by omega)
  refine ⟨g, off, hA, hg, fun i hi => ?_⟩
  rw [List.length_take] at hi
  rw [hc i (by omega), at_k (by omega), at_k (by rw [List.length_take]; omega), List.getElem_take]
set_option maxHeartbeats 2000000 in
set_option maxRecDepth 100000 in
theorem risOrd_any (b : Nat) (n : Nat) (B : Option Addr) (cb : Nat) (o : List Int) (A : Option Addr) (c : Nat) (w : World) (hz : o.length ≤ 1000) (hc : o.length ≤ c) (h : NumsIn b w A o) :
    Calls Try.prog 34 #[.slice B n cb, .slice A o.length c] w fun e w' => e = .returned (.bool (isOrd n o)) ∧ Below w.heap.size w w' := by
  have HN := hide h
  have HC := hide hc
  have H0 := hide (show Below w.heap.size w w ∧ (∀ x ∈ o.take 0, 0 ≤ x ∧ x < (n : Int)) ∧ (o.take 0).Nodup from ⟨Below.refl _ _, fun x hx => by simp at hx, by simp⟩)
  clear h
  go_enter Try.func34, Try.ntmps34
  go_wp2_with fail
  go_loopw [5] (fun s5 wr => ∃ k : Nat, k ≤ o.length ∧ s5 = .int .i64 k ∧ Hid (Below w.heap.size w wr ∧ (∀ x ∈ o.take k, 0 ≤ x ∧ x < (n : Int)) ∧ (o.take k).Nodup)) (fun s5 _ => o.length - (intOf s5).toNat)
  case atStart => exact ⟨0, Nat.zero_le _, rfl, H0⟩
  case round =>
    clear H0
    obtain ⟨k, hk, rfl, HI⟩ := hrel
    obtain ⟨wo, rfl⟩ : ∃ wo : World, wo = wr := ⟨_, rfl⟩
    by_cases hlt : k < o.length
    · have HNo := hide ((unhide HN).keep (unhide HI).1)
      obtain ⟨g, off, rfl, _, hcc⟩ := (unhide HNo) (by omega)
      have c0 := After.cell (hcc k hlt)
      have kl : (k : Int) < (o.length : Int) := by omega
      have k0 : (0 : Int) ≤ (k : Int) := by omega
      have kc : (k : Int) ≤ (c : Int) := by omega
      have HBad := hide (isOrd_no (n := n) hlt)
      have HIn := hide (fun (t : After wo) => kin_any b (o.take k) (o.getD k 0) (some ⟨g, off, none⟩) c t.to (by rw [List.length_take]; omega) (nums_take ((unhide HNo).keep t.is) k))
      rw [List.length_take, Nat.min_eq_left hk] at HIn
      have HIn := hide (unhide HIn)
      have HSt := hide (show (0 ≤ o.getD k 0 ∧ o.getD k 0 < (n : Int)) → o.getD k 0 ∉ o.take k → (∀ x ∈ o.take (k + 1), 0 ≤ x ∧ x < (n : Int)) ∧ (o.take (k + 1)).Nodup from fun h1 h2 => by
        refine ⟨fun x hx => ?_, ?_⟩
        · rcases (take_mem hlt).1 hx with h4 | h4
          · exact (unhide HI).2.1 x h4
          · rw [h4]; exact h1
        · rw [List.take_succ_eq_append_getElem hlt, List.nodup_append]
          refine ⟨(unhide HI).2.2, by simp, fun x hx y hy => ?_⟩
          rw [List.mem_singleton, ← at_k (d := 0) hlt] at hy
          subst hy
          exact fun e => h2 (by rw [← e]; exact hx))
      clear hcc
      obtain ⟨x, hx⟩ : ∃ x, o.getD k 0 = x := ⟨_, rfl⟩
      rw [hx] at c0 HBad HIn HSt
      have HIn := hide (unhide HIn)
      clear hx
      by_cases h0 : x < 0
      · have q1 : decide (x < 0) = true := decide_eq_true h0
        have HV := hide (unhide HBad (.inl (by omega)))
        go_wp2_with fail
        refine wp_region_after (by kernel_rfl) (by kernel_rfl) ?_
        repeat (go_big_quiet_step (fail))
        refine wpQuiet_nil ?_
        rintro _ ⟨t, rfl⟩
        go_wp2
        go_ret
        exact ⟨ret_bool (unhide HV).symm, onward (unhide HI).1 t.is⟩
      · have q1 : decide (x < 0) = false := decide_eq_false h0
        by_cases h1 : (n : Int) ≤ x
        · have q2 : decide ((n : Int) ≤ x) = true := decide_eq_true h1
          have HV := hide (unhide HBad (.inl (by omega)))
          go_wp2_with fail
          refine wp_region_after (by kernel_rfl) (by kernel_rfl) ?_
          repeat (go_big_quiet_step (fail))
          refine wpQuiet_nil ?_
          rintro _ ⟨t, rfl⟩
          go_wp2
          go_ret
          exact ⟨ret_bool (unhide HV).symm, onward (unhide HI).1 t.is⟩
        · have q2 : decide ((n : Int) ≤ x) = false := decide_eq_false h1
          by_cases hm : x ∈ o.take k
          · rw [decide_eq_true hm] at HIn
            have HIn := hide (unhide HIn)
            have HV := hide (unhide HBad (.inr hm))
            clear hm
            go_wp2_with fail
            refine wp_region_after (by kernel_rfl) (by kernel_rfl) ?_
            repeat (go_big_quiet_step (fail))
            go_big_quiet_step (exact After.same ((unhide HIn _).mono fun e w' h => ⟨h.1, h.2⟩))
            repeat (go_big_quiet_step (fail))
            refine wpQuiet_nil ?_
            rintro _ ⟨t, rfl⟩
            go_wp2
            go_ret
            exact ⟨ret_bool (unhide HV).symm, onward (unhide HI).1 t.is⟩
          · rw [decide_eq_false hm] at HIn
            have HIn := hide (unhide HIn)
            have HV := hide (unhide HSt ⟨by omega, by omega⟩ hm)
            clear hm
            go_wp2_with fail
            refine wp_region_after (by kernel_rfl) (by kernel_rfl) ?_
            repeat (go_big_quiet_step (fail))
            go_big_quiet_step (exact After.same ((unhide HIn _).mono fun e w' h => ⟨h.1, h.2⟩))
            repeat (go_big_quiet_step (fail))
            refine wpQuiet_nil ?_
            rintro _ ⟨t, rfl⟩
            have HB2 := hide (onward (unhide HI).1 t.is)
            generalize t.to = w2 at HB2 ⊢
            go_wp2
            go_roundw
            case rel => exact ⟨k + 1, by omega, by go_num, hide ⟨unhide HB2, unhide HV⟩⟩
            case measure => simp [intOf]; omega
    · obtain rfl : k = o.length := by omega
      have kl : ¬ (o.length : Int) < (o.length : Int) := by omega
      have h2 := (unhide HI).2
      rw [List.take_length] at h2
      have HV := hide (show isOrd n o = ((o.length : Int) == (n : Int)) from by
        unfold isOrd
        by_cases e : o.length = n
        · rw [decide_eq_true ⟨e, h2.1, h2.2⟩, eq_comm, beq_iff_eq, e]
        · rw [decide_eq_false (fun h => e h.1), eq_comm, beq_eq_false_iff_ne]; omega)
      clear h2
      go_wp2
      go_ret
      exact ⟨ret_bool (unhide HV).symm, (unhide HI).1⟩
end Go.Proofs.Ytjgjgilpebeelaa
