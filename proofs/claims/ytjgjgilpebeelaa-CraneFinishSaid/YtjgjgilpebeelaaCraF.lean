/-
  Crane (layer 18): CraneFinish: its walk.
-/
import Derived.Test.YtjgjgilpebeelaaCraE
namespace Go.Proofs.Ytjgjgilpebeelaa
open Go.RowKit

/-- The costs of the first k jobs, in their own order. -/
def totK (jobs : List Jb) : Nat → Int
  | 0 => 0
  | k + 1 => totK jobs k + cstJ jobs (k : Int)
theorem totK_sum (jobs : List Jb) : ∀ k : Nat, k ≤ jobs.length → totK jobs k = sumC (cstJ jobs) ((upI jobs.length).take k)
  | 0, _ => by simp [totK, sumC]
  | k + 1, h => by
    rw [List.take_succ_eq_append_getElem (by rw [upI_len]; omega), sumC_snoc, totK, totK_sum jobs k (by omega), ← at_k (d := 0) (by rw [upI_len]; omega), upI_at (by omega)]
theorem fin_total {now : Int} {jobs : List Jb} {o : List Int} (h : o.Perm (upI jobs.length)) : endK now jobs o o.length = now + totK jobs jobs.length := by
  have hl : o.length = jobs.length := by rw [h.length_eq, upI_len]
  rw [endK_sum _ (Nat.le_refl _), List.take_length, totK_sum jobs _ (Nat.le_refl _), sumC_perm h, List.take_of_length_le (by rw [upI_len]; exact Nat.le_refl _)]
theorem totK_low {now : Int} {jobs : List Jb} (hv : ValJ now jobs) : ∀ k : Nat, 0 ≤ totK jobs k ∧ totK jobs k ≤ 200 * (k : Int)
  | 0 => by simp [totK]
  | k + 1 => by have := hv.cst (k : Int); have := totK_low hv k; unfold totK; omega
set_option maxHeartbeats 2000000 in
set_option maxRecDepth 100000 in
theorem finish_law (A0 : Option Addr) (n0 c0 : Nat) (w : World) (hc : n0 ≤ c0) (hA : IntsIn w.heap.size w A0 n0) (A9 : Option Addr) (n9 c9 : Nat) (hc9 : n9 ≤ c9) (hA9 : IntsIn w.heap.size w A9 n9) :
    Calls Try.prog 7 #[.slice A0 n0 c0, .slice A9 n9 c9] w fun e w' => e = .returned (.bool true) ∧ Below w.heap.size w w' := by
  have HSo := hide (some_any 8 (by omega) A0 n0 c0 w hc hA)
  have HA9 := hide hA9
  have HAw := hide (fun W => awake_any W)
  clear hA hA9
  go_enter Try.func7, Try.ntmps7
  go_wp2_with fail
  refine (unhide HSo).mono ?_
  rintro e w1 ⟨now, jobs, A1, c1, rfl, hsm, hown, hb1, hlt1⟩
  have HV := hide (hsm.val (by omega))
  have HJ1 := hide (jbs_own (b := w.heap.size) hown (.inl (Nat.lt_succ_self _)))
  have HB1 := hide hb1
  have hl8 : jobs.length ≤ 8 := hsm.len
  have HPe := hide (perm_any jobs.length (by omega) A9 n9 c9 w1 hc9 (ints_later (unhide HA9) hb1))
  clear hsm hown hb1 HSo hlt1
  go_wp2_with fail
  refine (unhide HPe).mono ?_
  rintro e w2 ⟨o, A2, c2, rfl, hpm, hown, hb2, _⟩
  have HPm := hide hpm
  have hol : o.length = jobs.length := by rw [hpm.length_eq, upI_len]
  have HB2 := hide (onward (unhide HB1) hb2)
  have HJ2 := hide ((unhide HJ1).keep hb2)
  have HN2 := hide (nums_own (n := jobs.length) (b := w.heap.size) hown (.inl (by have := (unhide HB1).size; omega)))
  have HFi := hide (fin_any w.heap.size now jobs o A1 A2 c1 c2 w2 (by omega) (by omega) (unhide HJ2) (unhide HN2))
  have hF : finL now jobs o = finJ now jobs o := if_pos ⟨valJ_iff.2 (unhide HV), perm_ord hpm⟩
  rw [hF, hol] at HFi
  have HFi := hide (unhide HFi)
  have HOl := hide hol
  clear hpm hown hb2 hol hF HPe HJ1 HB1
  go_wp2_with fail
  refine (unhide HFi).mono ?_
  rintro e w3 ⟨A3, c3, rfl, hn3, hb3, _⟩
  have HB3 := hide (onward (unhide HB2) hb3)
  have HJ3 := hide ((unhide HJ2).keep hb3)
  have HN3 := hide ((unhide HN2).keep hb3)
  have HF3 := hide (hn3 w3.heap.size (.inr (Nat.le_refl _)))
  have hfl : (finJ now jobs o).length = jobs.length := by rw [finJ_len]; exact unhide HOl
  have q0 : ((jobs.length : Int) != (jobs.length : Int)) = false := by rw [bne_eq_false_iff_eq]
  rw [hfl]
  have HFl := hide hfl
  clear hn3 hb3 HB2 HJ2 HN2 HFi hfl
  go_wp2_with fail
  go_loop [9, 10] (fun s9 s10 => ∃ k : Nat, k ≤ jobs.length ∧ s10 = .int .i64 k ∧ s9 = .int .i64 (endK now jobs o k)) (fun _ s10 => jobs.length - (intOf s10).toNat)
  case atStart => exact ⟨0, Nat.zero_le _, rfl, rfl⟩
  case round =>
    obtain ⟨k, hk, rfl, rfl⟩ := hrel
    by_cases hlt : k < jobs.length
    · have kl : (k : Int) < (jobs.length : Int) := by omega
      have k0 : (0 : Int) ≤ (k : Int) := by omega
      have hko : k < o.length := by rw [unhide HOl]; exact hlt
      obtain ⟨g', off', rfl, _, hc⟩ := (unhide HN3) (by omega)
      have c0' := hc k hko
      obtain ⟨g3, off3, rfl, _, hc3⟩ := (unhide HF3) (by rw [unhide HFl]; omega)
      have c3' := hc3 k (by rw [unhide HFl]; exact hlt)
      rw [finJ_at hko] at c3'
      have hx := upI_mem.1 ((unhide HPm).mem_iff.1 (show o.getD k 0 ∈ o by rw [at_k hko]; exact List.getElem_mem _))
      obtain ⟨j, hj⟩ := Int.eq_ofNat_of_zero_le hx.1
      have hE : endK now jobs o (k + 1) = endK now jobs o k + cstI (posJ jobs (j : Int)) := by rw [← hj]; rfl
      have hlo := endK_low (unhide HV) o k
      have hlo1 := endK_low (unhide HV) o (k + 1)
      rw [hj] at c0' hx
      have jn : (j : Int) < (jobs.length : Int) := hx.2
      have j0 : (0 : Int) ≤ (j : Int) := hx.1
      obtain ⟨g, off, rfl, c1', _⟩ := jbs_get (unhide HJ3) (j := j) (by omega)
      have HC := hide (fun W => cost_any (posJ jobs (j : Int)) W)
      generalize cstI (posJ jobs (j : Int)) = q at HC hE
      generalize posJ jobs (j : Int) = p at c1' HC
      have wq : IntKind.i64.wrap (endK now jobs o k + q) = endK now jobs o (k + 1) := by rw [IntKind.wrap_i64]; omega
      clear hc hc3 hx hE hlo hlo1 hj hko
      obtain ⟨E1, hE1⟩ : ∃ E1, endK now jobs o (k + 1) = E1 := ⟨_, rfl⟩
      rw [hE1] at wq c3'
      have HE1 := hide hE1
      have q1 : (E1 != E1) = false := by rw [bne_eq_false_iff_eq]
      clear hE1
      go_wp2_with (go_at_call 20; refine (unhide HC _).mono ?_; rintro e w' ⟨rfl, rfl⟩)
      go_round
      case rel => exact ⟨k + 1, by omega, by go_num, by rw [unhide HE1]⟩
      case measure => simp [intOf]; omega
    · obtain rfl : k = jobs.length := by omega
      have kl : ¬ (jobs.length : Int) < (jobs.length : Int) := by omega
      go_wp2_with fail
      go_loop [11, 12] (fun s11 s12 => ∃ k : Nat, k ≤ jobs.length ∧ s12 = .int .i64 k ∧ s11 = .int .i64 (now + totK jobs k)) (fun _ s12 => jobs.length - (intOf s12).toNat)
      case atStart => exact ⟨0, Nat.zero_le _, rfl, by simp [totK]⟩
      case round =>
        obtain ⟨k, hk, rfl, rfl⟩ := hrel
        by_cases hlt : k < jobs.length
        · have kl : (k : Int) < (jobs.length : Int) := by omega
          have k0 : (0 : Int) ≤ (k : Int) := by omega
          obtain ⟨g, off, rfl, c1', _⟩ := jbs_get (unhide HJ3) (j := k) hlt
          have hp := (unhide HV).pos (k : Int)
          have hE : totK jobs (k + 1) = totK jobs k + (2 * posJ jobs (k : Int) + 2) := by
            show totK jobs k + cstJ jobs (k : Int) = _
            unfold cstJ cstI
            rw [if_pos hp]
          have hnow := (unhide HV).now
          have hlo := totK_low (unhide HV) k
          generalize posJ jobs (k : Int) = p at c1' hp hE
          have w1 : IntKind.i64.wrap (2 * p) = 2 * p := by rw [IntKind.wrap_i64]; omega
          have w2 : IntKind.i64.wrap (2 * p + 2) = 2 * p + 2 := by rw [IntKind.wrap_i64]; omega
          obtain ⟨E1, hE1⟩ : ∃ E1, now + totK jobs (k + 1) = E1 := ⟨_, rfl⟩
          have w3 : IntKind.i64.wrap (now + totK jobs k + (2 * p + 2)) = E1 := by rw [IntKind.wrap_i64]; omega
          have HE1 := hide hE1
          clear hE1 hE hlo hnow hp
          go_wp2
          go_round
          case rel => exact ⟨k + 1, by omega, by go_num, by rw [unhide HE1]⟩
          case measure => simp [intOf]; omega
        · obtain rfl : k = jobs.length := by omega
          have kl : ¬ (jobs.length : Int) < (jobs.length : Int) := by omega
          have HT := hide (show endK now jobs o jobs.length = now + totK jobs jobs.length by have := fin_total (now := now) (unhide HPm); rwa [unhide HOl] at this)
          rw [unhide HT]
          generalize now + totK jobs jobs.length = E1
          have q1 : (E1 == E1) = true := by rw [beq_iff_eq]
          go_wp2_with (go_at_call 8; refine (unhide HAw _).mono ?_; rintro e w5 ⟨rfl, hb5⟩; have HB5 := hide (onward (unhide HB3) hb5); clear hb5)
          go_ret
          exact ⟨rfl, unhide HB5⟩
end Go.Proofs.Ytjgjgilpebeelaa
