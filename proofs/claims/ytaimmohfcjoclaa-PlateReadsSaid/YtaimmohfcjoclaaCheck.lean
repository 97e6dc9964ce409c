/-
  Contracts of Check (both).
-/
import Derived.Test.YtaimmohfcjoclaaFormat
namespace Go.Proofs.Ytaimmohfcjoclaa
open Go.RowKit

set_option maxHeartbeats 400000 in
theorem rcheck_any (l a s : Int) (w : World) :
    Calls Try.prog 24 #[.agg #[.int .i64 l, .int .i64 a, .int .i64 s]] w fun e w' => e = .returned (.int .i64 (chk l a s)) ∧ Below w.heap.size w w' := by
  cases hv : vld l a s with
  | false =>
    go_enter Try.func24, Try.ntmps24
    go_wp2_with (go_at_call 20; refine (rvalid_any l a s _).mono ?_; rintro e w1 ⟨rfl, hb1⟩)
    go_ret
    exact ⟨ret_int (by unfold chk; rw [hv]; rfl), boxed hb1⟩
  | true =>
    obtain ⟨hn1, hn2⟩ := num_bd hv
    go_enter Try.func24, Try.ntmps24
    go_wp2_with (first | (go_at_call 20; refine (rvalid_any l a s _).mono ?_; rintro e w1 ⟨rfl, hb1⟩; obtain ⟨hc0, hc1, hc2⟩ := box_cells hb1) | (go_at_call 63; refine (number_any l a s _ hv).mono ?_; rintro e w2 ⟨rfl, hb2⟩))
    go_ret
    exact ⟨ret_int (by unfold chk; rw [hv]; rfl), onward (boxed hb1) hb2⟩

set_option maxHeartbeats 400000 in
theorem check_any (l a s : Int) (w : World) :
    Calls Try.prog 23 #[.agg #[.int .i64 l, .int .i64 a, .int .i64 s]] w fun e w' => e = .returned (.int .i64 (chk l a s)) ∧ Below w.heap.size w w' := by
  cases hv : vld l a s with
  | false =>
    have ht := txt_no hv
    go_enter Try.func23, Try.ntmps23
    go_wp2_with (go_at_call 21; refine (format_any l a s _).mono ?_; rintro e w1 ⟨rfl, hb1⟩; rw [ht])
    go_ret
    exact ⟨ret_int (by unfold chk; rw [hv]; rfl), boxed hb1⟩
  | true =>
    have hne := Lib.hid (txt_ne hv)
    have hsz := Lib.hid (txt_size hv)
    have hdg := Lib.hid (txt_dig hv)
    have hval := Lib.hid (txt_val hv)
    have hchk : Hid (chk l a s = num l a s % 7) := Lib.hid (by unfold chk; rw [hv]; rfl)
    clear hv
    go_enter Try.func23, Try.ntmps23
    go_wp2_with (go_at_call 21; refine (format_any l a s _).mono ?_; rintro e w1 ⟨rfl, hb1⟩; generalize txt l a s = T at *; have hne' := hne.out)
    clear hne'
    go_loop [4, 10] (fun r i => ∃ k : Nat, k ≤ 10 ∧ i = .int .i64 k ∧ r = .int .i64 (valN (T.data.toList.take k) % 7)) (fun _ i => 10 - (intOf i).toNat)
    case atStart => exact ⟨0, Nat.zero_le _, rfl, rfl⟩
    case round =>
      obtain ⟨k, hk, rfl, rfl⟩ := hrel
      have hs1 := Lib.hid hsz.out
      by_cases hlt : k < 10
      · have hlt2 : k < T.size := by rw [hsz.out]; exact hlt
        have hc := allDig_at hdg.out hlt2
        go_wp2
        go_round
        case rel => exact ⟨k + 1, by omega, by go_num, by rw [valN_step T k hlt2]; go_num⟩
        case measure => simp [intOf]; omega
      · obtain rfl : k = 10 := by omega
        go_wp2
        go_ret
        exact ⟨ret_int (by rw [valN_all T 10 (by rw [hsz.out]; omega), hval.out, hchk.out]), boxed hb1⟩
end Go.Proofs.Ytaimmohfcjoclaa
