/-
  Contracts of messages: ValidName, ascending, formed, ranged.
-/
import Derived.Test.YtfddpdognelhmaaGreatDoorMsgC
namespace Go.Proofs.YtfddpdognelhmaaGreatDoor
open Go.RowKit

theorem name_no0 {s : ByteArray} (h : s.size = 0) : nameB s = false := by unfold nameB; simp [h]
theorem name_no12 {s : ByteArray} (h : ¬ s.size ≤ 12) : nameB s = false := by unfold nameB; simp [h]
theorem name_noL {s : ByteArray} (h0 : 0 < s.size) (h : isLe (s[0].toNat : Int) = false) : nameB s = false := by unfold nameB; rw [← bat_at s 0 h0, h]; simp
def allLD (s : ByteArray) : Bool := s.data.toList.all ldU
theorem name_of {s : ByteArray} (h0 : 0 < s.size) (h12 : s.size ≤ 12) (h : isLe (s[0].toNat : Int) = true) : nameB s = allLD s := by
  unfold nameB allLD; rw [← bat_at s 0 h0, h, decide_eq_true (by omega)]; simp

set_option maxHeartbeats 2000000 in
theorem name_any (s : ByteArray) (w : World) :
    Calls Tryz.prog 76 #[.string s] w fun e w' => e = .returned (.bool (nameB s)) ∧ w = w' := by
  by_cases h0 : s.size = 0
  · have e0 : s.toList.isEmpty = true := size_empty h0
    have e1 : s.toList = [] := by simpa using e0
    rw [name_no0 h0]
    go_enter Tryz.func76, Tryz.ntmps76
    go_wp2
    go_ret
    exact ⟨rfl, rfl⟩
  · have e0 : s.toList.isEmpty = false := not_empty (by omega)
    by_cases h12 : s.size ≤ 12
    · have i12 : ¬ (12 : Int) < (s.size : Int) := by omega
      have p0 : 0 < s.size := by omega
      cases hl : isLe (s[0].toNat : Int) with
      | false =>
        rw [name_noL p0 hl]
        go_enter Tryz.func76, Tryz.ntmps76
        go_wp2_with (go_at_call 90; refine (letter_any _ _).mono ?_; rintro e w1 ⟨rfl, rfl⟩)
        go_ret
        exact ⟨rfl, rfl⟩
      | true =>
        rw [name_of p0 h12 hl]
        go_enter Tryz.func76, Tryz.ntmps76
        go_wp2_with (go_at_call 90; refine (letter_any _ _).mono ?_; rintro e w1 ⟨rfl, rfl⟩)
        clear i12
        go_loop [3, 19] (fun _ i => ∃ k : Nat, k ≤ s.size ∧ i = .int .i64 k ∧ Hid ((s.data.toList.take k).all ldU = true)) (fun _ i => s.size - (intOf i).toNat)
        case atStart => exact ⟨0, Nat.zero_le _, rfl, Lib.hid rfl⟩
        case round =>
          obtain ⟨k, hk, rfl, hd⟩ := hrel
          clear hl
          by_cases hlt : k < s.size
          · have HP := hide fun (h : ldU s[k] = true) => all_step (p := ldU) (d := 0) (k := k) (by rw [size_list]; exact hlt) hd.out (by rw [byte_at hlt]; exact h)
            have HQ := hide fun (h : ldU s[k] = false) => all_no (p := ldU) (d := 0) (k := k) (by rw [size_list]; exact hlt) (by rw [byte_at hlt]; exact h)
            cases h1 : isLe (s[k].toNat : Int) <;> cases h2 : isD (s[k].toNat : Int)
            · have HV := hide (show ldU s[k] = false by unfold ldU; rw [h1, h2]; rfl)
              go_wp2_with (first | (go_at_call 90; refine (letter_any _ _).mono ?_; rw [h1]; rintro e w1 ⟨rfl, rfl⟩) | (go_at_call 91; refine (digit_any _ _).mono ?_; rw [h2]; rintro e w1 ⟨rfl, rfl⟩))
              go_ret
              exact ⟨ret_bool (unhide HQ (unhide HV)).symm, rfl⟩
            all_goals
              have HV := hide (show ldU s[k] = true by unfold ldU; rw [h1, h2]; rfl)
              go_wp2_with (first | (go_at_call 90; refine (letter_any _ _).mono ?_; rw [h1]; rintro e w1 ⟨rfl, rfl⟩) | (go_at_call 91; refine (digit_any _ _).mono ?_; rw [h2]; rintro e w1 ⟨rfl, rfl⟩))
              go_round
              case rel => exact ⟨k + 1, by omega, by go_num, Lib.hid (unhide HP (unhide HV))⟩
              case measure => simp [intOf]; omega
          · go_wp2
            go_ret
            exact ⟨ret_bool (show true = allLD s from (all_all (l := s.data.toList) (k := k) (by simp; omega) hd.out).symm), rfl⟩
    · have i12 : (12 : Int) < (s.size : Int) := by omega
      rw [name_no12 h12]
      go_enter Tryz.func76, Tryz.ntmps76
      go_wp2
      go_ret
      exact ⟨rfl, rfl⟩

theorem asc_iff : ∀ l : List Int, ascB l = true ↔ ∀ i, i + 1 < l.length → l.getD i 0 < l.getD (i + 1) 0
  | [] => by simp [ascB]
  | [_] => by simp [ascB]
  | x :: y :: l => by
    have ih := asc_iff (y :: l)
    simp only [ascB, Bool.and_eq_true, decide_eq_true_eq]
    rw [ih]
    constructor
    · rintro ⟨h0, h⟩ i hi
      cases i with
      | zero => exact h0
      | succ i => exact h i (by simpa using hi)
    · intro h
      exact ⟨h 0 (by simp), fun i hi => h (i + 1) (by simpa using hi)⟩

end Go.Proofs.YtfddpdognelhmaaGreatDoor
