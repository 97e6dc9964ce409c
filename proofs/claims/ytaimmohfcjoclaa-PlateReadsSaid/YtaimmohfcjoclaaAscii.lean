/-
  Contracts of package ascii: Letter, Digit, Letters, Value; the document's Letter, Digit.
-/
import Derived.Test.YtaimmohfcjoclaaLeaf
import Derived.Test.YtaimmohfcjoclaaMathD
import Derived.ProofKit
namespace Go.Proofs.Ytaimmohfcjoclaa
open Go.RowKit

theorem letter_any (c : Int) (w : World) :
    Calls Try.prog 83 #[.int .u8 c] w fun e w' => e = .returned (.bool (isLe c)) ∧ w = w' := by
  go_enter Try.func83, Try.ntmps83
  go_wp2
  all_goals (go_ret; refine ⟨ret_bool (Bool.eq_iff_iff.2 (Iff.trans ?_ isLe_iff.symm)), rfl⟩; first | (simp; omega) | (simp only [Bool.false_eq_true]; omega))

theorem digit_any (c : Int) (w : World) :
    Calls Try.prog 80 #[.int .u8 c] w fun e w' => e = .returned (.bool (isD c)) ∧ w = w' := by
  go_enter Try.func80, Try.ntmps80
  go_wp2
  all_goals (go_ret; refine ⟨ret_bool (Bool.eq_iff_iff.2 (Iff.trans ?_ isD_iff.symm)), rfl⟩; first | (simp; omega) | (simp only [Bool.false_eq_true]; omega))

theorem rletter_any (c : Int) (w : World) :
    Calls Try.prog 77 #[.int .u8 c] w fun e w' => e = .returned (.bool (isLe c)) ∧ w = w' := by
  go_enter Try.func77, Try.ntmps77
  go_wp2
  all_goals (go_ret; refine ⟨ret_bool (Bool.eq_iff_iff.2 (Iff.trans ?_ isLe_iff.symm)), rfl⟩; first | (simp; omega) | (simp only [Bool.false_eq_true]; omega))

theorem rdigit_any (c : Int) (w : World) :
    Calls Try.prog 84 #[.int .u8 c] w fun e w' => e = .returned (.bool (isD c)) ∧ w = w' := by
  go_enter Try.func84, Try.ntmps84
  go_wp2
  all_goals (go_ret; refine ⟨ret_bool (Bool.eq_iff_iff.2 (Iff.trans ?_ isD_iff.symm)), rfl⟩; first | (simp; omega) | (simp only [Bool.false_eq_true]; omega))

set_option maxHeartbeats 400000 in
theorem letters_any (s : ByteArray) (n : Int) (w : World) (h1 : n ≤ 1000) :
    Calls Try.prog 76 #[.string s, .int .i64 n] w fun e w' => e = .returned (.bool (letN s n)) ∧ w = w' := by
  by_cases hn : (s.size : Int) = n
  · have hb : ((s.size : Int) != n) = false := by rw [bne_eq_false_iff_eq]; exact hn
    rw [letN_of hn]
    have hs : s.size ≤ 1000 := by omega
    clear hn h1
    go_enter Try.func76, Try.ntmps76
    go_wp2
    go_loop [12] (fun i => ∃ k : Nat, k ≤ s.size ∧ i = .int .i64 k ∧ Hid (allLet (s.data.toList.take k) = true)) (fun i => s.size - (intOf i).toNat)
    case atStart => exact ⟨0, Nat.zero_le _, rfl, Lib.hid rfl⟩
    case round =>
      obtain ⟨k, hk, rfl, hd⟩ := hrel
      by_cases hlt : k < s.size
      · cases hl : isLe (s[k].toNat : Int) with
        | true =>
          go_wp2_with (go_at_call 83; refine (letter_any _ _).mono ?_; rintro e w1 ⟨rfl, rfl⟩)
          go_round
          case rel => exact ⟨k + 1, by omega, by go_num, Lib.hid (allLet_step hlt hd.out hl)⟩
          case measure => simp [intOf]; omega
        | false =>
          go_wp2_with (go_at_call 83; refine (letter_any _ _).mono ?_; rintro e w1 ⟨rfl, rfl⟩)
          go_ret
          exact ⟨ret_bool (allLet_no hlt hl).symm, rfl⟩
      · go_wp2
        go_ret
        exact ⟨ret_bool (allLet_all s k (by omega) hd.out).symm, rfl⟩
  · have hb : ((s.size : Int) != n) = true := by rw [bne_iff_ne]; exact hn
    rw [letN_no1 hn]
    go_enter Try.func76, Try.ntmps76
    go_wp2
    go_ret
    exact ⟨rfl, rfl⟩

/-- What a call of Value comes to. -/
def Valued (s : ByteArray) (w : World) (e : Ending) (w' : World) : Prop := e = .returned (.tuple #[.int .i64 (numV s), .bool (numB s)]) ∧ w = w'
theorem Valued.no {s : ByteArray} {w : World} (h : numB s = false) : Valued s w (.returned (.tuple #[.int .i64 0, .bool false])) w := ⟨by rw [h, numV_no h], rfl⟩

set_option maxHeartbeats 1000000 in
theorem value_any (s : ByteArray) (w : World) :
    Calls Try.prog 58 #[.string s] w (Valued s w) := by
  by_cases hz : 1 ≤ s.size ∧ s.size ≤ 9
  · have h0 : s.toList.isEmpty = false := not_empty hz.1
    have h9 : ¬ (9 : Int) < (s.size : Int) := by omega
    have i9 := hz.2
    go_enter Try.func58, Try.ntmps58
    go_wp2
    go_loop [4, 15] (fun n i => ∃ k : Nat, k ≤ s.size ∧ i = .int .i64 k ∧ n = .int .i64 (valN (s.data.toList.take k)) ∧ Hid (allDig (s.data.toList.take k) = true)) (fun _ i => s.size - (intOf i).toNat)
    case atStart => exact ⟨0, Nat.zero_le _, rfl, rfl, Lib.hid rfl⟩
    case round =>
      obtain ⟨k, hk, rfl, rfl, hd⟩ := hrel
      have hb := valN_pre9 s i9 k hk hd.out
      by_cases hlt : k < s.size
      · cases hl : isD (s[k].toNat : Int) with
        | true =>
          have hc := isD_iff.1 hl
          go_wp2_with (go_at_call 80; refine (digit_any _ _).mono ?_; rintro e w1 ⟨rfl, rfl⟩)
          go_round
          case rel => exact ⟨k + 1, by omega, by go_num, by rw [valN_step s k hlt], Lib.hid (allDig_step hlt hd.out hc.1 hc.2)⟩
          case measure => simp [intOf]; omega
        | false =>
          go_wp2_with (go_at_call 80; refine (digit_any _ _).mono ?_; rintro e w1 ⟨rfl, rfl⟩)
          go_returns
          refine Valued.no (numB_no2 (allDig_no hlt ?_))
          unfold isD at hl
          have := decide_eq_false_iff_not.1 hl
          omega
      · go_wp2
        go_returns
        have ha := allDig_all s k (by omega) hd.out
        have hn : numB s = true := by rw [numB_of hz]; exact ha
        refine ⟨?_, rfl⟩
        rw [hn, numV_yes hn, ← valN_all s k (by omega)]
        rfl
  · have hn := numB_no1 hz
    by_cases h0 : s.size = 0
    · have he : s.toList.isEmpty = true := by
        rw [ByteArray.toList_eq]
        have : s.data.toList.length = s.size := by simp
        rw [h0] at this
        rw [List.length_eq_zero_iff.1 this]; rfl
      clear hz
      go_enter Try.func58, Try.ntmps58
      go_wp2
      go_returns
      exact Valued.no hn
    · have he : s.toList.isEmpty = false := not_empty (by omega)
      have h9 : (9 : Int) < (s.size : Int) := by omega
      clear hz
      go_enter Try.func58, Try.ntmps58
      go_wp2
      go_returns
      exact Valued.no hn
end Go.Proofs.Ytaimmohfcjoclaa
