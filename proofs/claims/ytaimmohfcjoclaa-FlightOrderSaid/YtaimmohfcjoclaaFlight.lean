/-
  Contracts of flight: validCarrier, validSuffix, Valid, ValidPort, validClass; and the document's own.
-/
import Derived.Test.YtaimmohfcjoclaaAscii
import Derived.Test.YtaimmohfcjoclaaMathF
import Derived.Test.YtaimmohfcjoclaaAfter
namespace Go.Proofs.Ytaimmohfcjoclaa
open Go.RowKit

theorem carB_of {s : ByteArray} (hz : s.size = 2) {l0 d0 l1 d1 : Bool} (e0 : isLe (s[0].toNat : Int) = l0) (f0 : isD (s[0].toNat : Int) = d0) (e1 : isLe (s[1].toNat : Int) = l1) (f1 : isD (s[1].toNat : Int) = d1) :
    carB s = ((l0 || d0) && (l1 || d1) && (l0 || l1)) := by
  unfold carB
  rw [← bat_at s 0 (by omega), ← bat_at s 1 (by omega), e0, f0, e1, f1]
  simp [hz]
theorem carB_no {s : ByteArray} (hz : s.size ≠ 2) : carB s = false := by unfold carB; simp [hz]

set_option maxHeartbeats 1000000 in
theorem carrier_any (s : ByteArray) (w : World) :
    Calls Try.prog 68 #[.string s] w fun e w' => e = .returned (.bool (carB s)) ∧ w = w' := by
  by_cases hz : s.size = 2
  · have p0 : 0 < s.size := by omega
    have p1 : 1 < s.size := by omega
    have hb : ((s.size : Int) != 2) = false := by rw [bne_eq_false_iff_eq]; omega
    cases l0 : isLe (s[0].toNat : Int) <;> cases d0 : isD (s[0].toNat : Int) <;> cases l1 : isLe (s[1].toNat : Int) <;> cases d1 : isD (s[1].toNat : Int)
    all_goals
      rw [carB_of hz l0 d0 l1 d1]
      go_enter Try.func68, Try.ntmps68
      go_wp2_with (first | (go_at_call 83; refine (letter_any _ _).mono ?_; rintro e w1 ⟨rfl, rfl⟩) | (go_at_call 80; refine (digit_any _ _).mono ?_; rintro e w1 ⟨rfl, rfl⟩))
      go_ret
      exact ⟨rfl, rfl⟩
  · have hb : ((s.size : Int) != 2) = true := by rw [bne_iff_ne]; omega
    rw [carB_no hz]
    go_enter Try.func68, Try.ntmps68
    go_wp2
    go_ret
    exact ⟨rfl, rfl⟩

set_option maxHeartbeats 1000000 in
theorem rcarrier_any (s : ByteArray) (w : World) :
    Calls Try.prog 70 #[.string s] w fun e w' => e = .returned (.bool (carB s)) ∧ ∃ m, w' = w.drewN m := by
  by_cases hz : s.size = 2
  · have p0 : 0 < s.size := by omega
    have p1 : 1 < s.size := by omega
    have hb : ((s.size : Int) != 2) = false := by rw [bne_eq_false_iff_eq]; omega
    cases l0 : isLe (s[0].toNat : Int) <;> cases d0 : isD (s[0].toNat : Int) <;> cases l1 : isLe (s[1].toNat : Int) <;> cases d1 : isD (s[1].toNat : Int)
    all_goals
      rw [carB_of hz l0 d0 l1 d1]
      go_enter Try.func70, Try.ntmps70
      go_wp2_with fail
      go_quiet (first | (go_at_call 77; refine Calls.quiet_of_same ((rletter_any _ _).mono fun e w' h => ⟨h.1, h.2.symm⟩)))
      go_wp2_with (first | (go_at_call 77; refine (rletter_any _ _).mono ?_; rintro e w1 ⟨rfl, rfl⟩) | (go_at_call 84; refine (rdigit_any _ _).mono ?_; rintro e w1 ⟨rfl, rfl⟩))
      go_ret
      exact ⟨rfl, _, rfl⟩
  · have hb : ((s.size : Int) != 2) = true := by rw [bne_iff_ne]; omega
    rw [carB_no hz]
    go_enter Try.func70, Try.ntmps70
    go_wp2
    go_ret
    exact ⟨rfl, 0, rfl⟩

set_option maxHeartbeats 400000 in
theorem suffix_any (s : ByteArray) (w : World) :
    Calls Try.prog 69 #[.string s] w fun e w' => e = .returned (.bool (sufB s)) ∧ w = w' := by
  unfold sufB
  cases h1 : s.toList.isEmpty <;> cases h2 : letN s 1
  all_goals
    go_enter Try.func69, Try.ntmps69
    go_wp2_with (go_at_call 76; refine (letters_any _ _ _ (by omega)).mono ?_; rintro e w1 ⟨rfl, rfl⟩)
    go_ret
    exact ⟨rfl, rfl⟩

theorem letN_one {s : ByteArray} (hz : s.size = 1) {l0 : Bool} (e0 : isLe (s[0].toNat : Int) = l0) : letN s 1 = l0 := by
  rw [letN_of (by omega)]
  have h := take_snoc s 0 (by omega)
  rw [List.take_of_length_le (by simp; omega)] at h
  rw [h]
  unfold allLet
  simp [isLet, e0]
set_option maxHeartbeats 400000 in
theorem rsuffix_any (s : ByteArray) (w : World) :
    Calls Try.prog 71 #[.string s] w fun e w' => e = .returned (.bool (sufB s)) ∧ w = w' := by
  unfold sufB
  by_cases hz : s.size = 1
  · have p0 : 0 < s.size := by omega
    have h1 : s.toList.isEmpty = false := not_empty (by omega)
    have h2 : ((s.size : Int) == 1) = true := by rw [beq_iff_eq]; omega
    cases l0 : isLe (s[0].toNat : Int)
    all_goals
      rw [letN_one hz l0, h1]
      go_enter Try.func71, Try.ntmps71
      go_wp2_with (go_at_call 77; refine (rletter_any _ _).mono ?_; rintro e w1 ⟨rfl, rfl⟩)
      go_ret
      exact ⟨rfl, rfl⟩
  · have h2 : ((s.size : Int) == 1) = false := by rw [beq_eq_false_iff_ne]; omega
    rw [letN_no1 (show (s.size : Int) ≠ 1 by omega)]
    cases h1 : s.toList.isEmpty
    all_goals
      go_enter Try.func71, Try.ntmps71
      go_wp2
      go_ret
      exact ⟨rfl, rfl⟩

set_option maxHeartbeats 1000000 in
theorem fvalid_any (c : ByteArray) (n : Int) (s : ByteArray) (d : Int) (w : World) :
    Calls Try.prog 44 #[.agg #[.string c, .int .i64 n, .string s, .int .i64 d]] w fun e w' => e = .returned (.bool (fvl c n s d)) ∧ Below w.heap.size w w' := by
  cases hc : carB c <;> cases hs : sufB s
  all_goals
    go_enter Try.func44, Try.ntmps44
    go_wp2_with (first | (go_at_call 68; refine (carrier_any _ _).mono ?_; rintro e w1 ⟨rfl, rfl⟩) | (go_at_call 69; refine (suffix_any _ _).mono ?_; rintro e w1 ⟨rfl, rfl⟩))
  all_goals
    go_ret
    refine ⟨ret_bool (Bool.eq_iff_iff.2 (Iff.trans ?_ fvl_iff.symm)), (Below.refl _ _).alloc (Nat.le_refl _) _⟩
    rw [hc, hs]
    first | (simp; omega) | simp | (simp only [Bool.false_eq_true]; omega)

set_option maxHeartbeats 1000000 in
theorem rfvalid_any (c : ByteArray) (n : Int) (s : ByteArray) (d : Int) (w : World) :
    Calls Try.prog 45 #[.agg #[.string c, .int .i64 n, .string s, .int .i64 d]] w fun e w' => e = .returned (.bool (fvl c n s d)) ∧ Below w.heap.size w w' := by
  cases hc : carB c <;> cases hs : sufB s
  all_goals
    go_enter Try.func45, Try.ntmps45
    go_wp2_with (first | (go_at_call 70; refine (rcarrier_any _ _).mono ?_; rintro e w1 ⟨rfl, m1, rfl⟩) | (go_at_call 71; refine (rsuffix_any _ _).mono ?_; rintro e w1 ⟨rfl, rfl⟩))
  all_goals
    go_ret
    refine ⟨ret_bool (Bool.eq_iff_iff.2 (Iff.trans ?_ fvl_iff.symm)), draws ((Below.refl _ _).alloc (Nat.le_refl _) _) _⟩
    rw [hc, hs]
    first | (simp; omega) | simp | (simp only [Bool.false_eq_true]; omega)
end Go.Proofs.Ytaimmohfcjoclaa
