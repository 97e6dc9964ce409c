/-
  Contracts of ports, classes and legs (both).
-/
import Derived.Test.YtaimmohfcjoclaaDesigR
namespace Go.Proofs.Ytaimmohfcjoclaa
open Go.RowKit

/-- A port; a class; a leg. -/
def portB (s : ByteArray) : Bool := letN s 3
def clsB (s : ByteArray) : Bool := (s.toList == [70]) || ((s.toList == [67]) || (s.toList == [89]))
def legB (c : ByteArray) (n : Int) (s : ByteArray) (d : Int) (p k : ByteArray) : Bool := fvl c n s d && (portB p && clsB k)

theorem port_any (s : ByteArray) (w : World) :
    Calls Try.prog 54 #[.string s] w fun e w' => e = .returned (.bool (portB s)) ∧ w = w' := by
  go_enter Try.func54, Try.ntmps54
  go_wp2_with (go_at_call 76; refine (letters_any _ _ _ (by omega)).mono ?_; rintro e w1 ⟨rfl, rfl⟩)
  go_ret
  exact ⟨rfl, rfl⟩

theorem letN_three {s : ByteArray} (hz : s.size = 3) {l0 l1 l2 : Bool} (e0 : isLe (s[0].toNat : Int) = l0) (e1 : isLe (s[1].toNat : Int) = l1) (e2 : isLe (s[2].toNat : Int) = l2) : letN s 3 = (l0 && (l1 && l2)) := by
  rw [letN_of (by omega)]
  have h := take_snoc s 2 (by omega)
  rw [List.take_of_length_le (by simp; omega), take_snoc s 1 (by omega), take_snoc s 0 (by omega)] at h
  rw [h]
  unfold allLet
  simp [isLet, e0, e1, e2]
set_option maxHeartbeats 400000 in
theorem rport_any (s : ByteArray) (w : World) :
    Calls Try.prog 55 #[.string s] w fun e w' => e = .returned (.bool (portB s)) ∧ w = w' := by
  unfold portB
  by_cases hz : s.size = 3
  · have p0 : 0 < s.size := by omega
    have p1 : 1 < s.size := by omega
    have p2 : 2 < s.size := by omega
    have h2 : ((s.size : Int) == 3) = true := by rw [beq_iff_eq]; omega
    cases l0 : isLe (s[0].toNat : Int) <;> cases l1 : isLe (s[1].toNat : Int) <;> cases l2 : isLe (s[2].toNat : Int)
    all_goals
      rw [letN_three hz l0 l1 l2]
      go_enter Try.func55, Try.ntmps55
      go_wp2_with (go_at_call 77; refine (rletter_any _ _).mono ?_; rintro e w1 ⟨rfl, rfl⟩)
      go_ret
      exact ⟨rfl, rfl⟩
  · have h2 : ((s.size : Int) == 3) = false := by rw [beq_eq_false_iff_ne]; omega
    rw [letN_no1 (show (s.size : Int) ≠ 3 by omega)]
    go_enter Try.func55, Try.ntmps55
    go_wp2
    go_ret
    exact ⟨rfl, rfl⟩

theorem class_any (s : ByteArray) (w : World) :
    Calls Try.prog 78 #[.string s] w fun e w' => e = .returned (.bool (clsB s)) ∧ w = w' := by
  unfold clsB
  cases e0 : (s.toList == [70]) <;> cases e1 : (s.toList == [67]) <;> cases e2 : (s.toList == [89])
  all_goals
    go_enter Try.func78, Try.ntmps78
    go_wp2
    go_ret
    exact ⟨rfl, rfl⟩
theorem rclass_any (s : ByteArray) (w : World) :
    Calls Try.prog 79 #[.string s] w fun e w' => e = .returned (.bool (clsB s)) ∧ w = w' := by
  unfold clsB
  cases e0 : (s.toList == [70]) <;> cases e1 : (s.toList == [67]) <;> cases e2 : (s.toList == [89])
  all_goals
    go_enter Try.func79, Try.ntmps79
    go_wp2
    go_ret
    exact ⟨rfl, rfl⟩

/-- The cells of a boxed leg. -/
theorem leg_cells {w w1 : World} {c s p k : ByteArray} {n d : Int} {t : TypeId} (hb : Below (w.alloc (.cells #[.string c, .int .i64 n, .string s, .int .i64 d, .string p, .string k] t)).heap.size (w.alloc (.cells #[.string c, .int .i64 n, .string s, .int .i64 d, .string p, .string k] t)) w1) :
    w1.cell? ⟨w.heap.size, 4, none⟩ = some (.string p) ∧ w1.cell? ⟨w.heap.size, 5, none⟩ = some (.string k) := by
  refine ⟨?_, ?_⟩ <;> exact kept hb (by simp [go_sem])

set_option maxHeartbeats 1000000 in
theorem leg_any (c : ByteArray) (n : Int) (s : ByteArray) (d : Int) (p k : ByteArray) (w : World) :
    Calls Try.prog 56 #[.agg #[.string c, .int .i64 n, .string s, .int .i64 d, .string p, .string k]] w fun e w' => e = .returned (.bool (legB c n s d p k)) ∧ Below w.heap.size w w' := by
  unfold legB
  cases h0 : fvl c n s d <;> cases h1 : portB p <;> cases h2 : clsB k
  all_goals
    go_enter Try.func56, Try.ntmps56
    go_wp2_with (first
      | (go_at_call 44; refine (fvalid_any c n s d _).mono ?_; rintro e w1 ⟨rfl, hb1⟩; obtain ⟨c4, c5⟩ := leg_cells hb1; have HB := Lib.hid (boxed hb1); clear hb1)
      | (go_at_call 54; refine (port_any _ _).mono ?_; rintro e w2 ⟨rfl, rfl⟩)
      | (go_at_call 78; refine (class_any _ _).mono ?_; rintro e w2 ⟨rfl, rfl⟩))
    go_ret
    exact ⟨rfl, HB.out⟩

set_option maxHeartbeats 1000000 in
theorem rleg_any (c : ByteArray) (n : Int) (s : ByteArray) (d : Int) (p k : ByteArray) (w : World) :
    Calls Try.prog 57 #[.agg #[.string c, .int .i64 n, .string s, .int .i64 d, .string p, .string k]] w fun e w' => e = .returned (.bool (legB c n s d p k)) ∧ Below w.heap.size w w' := by
  unfold legB
  cases h0 : fvl c n s d <;> cases h1 : portB p <;> cases h2 : clsB k
  all_goals
    go_enter Try.func57, Try.ntmps57
    go_wp2_with (first
      | (go_at_call 45; refine (rfvalid_any c n s d _).mono ?_; rintro e w1 ⟨rfl, hb1⟩; obtain ⟨c4, c5⟩ := leg_cells hb1; have HB := Lib.hid (boxed hb1); clear hb1)
      | (go_at_call 55; refine (rport_any _ _).mono ?_; rintro e w2 ⟨rfl, rfl⟩)
      | (go_at_call 79; refine (rclass_any _ _).mono ?_; rintro e w2 ⟨rfl, rfl⟩))
    go_ret
    exact ⟨rfl, HB.out⟩
end Go.Proofs.Ytaimmohfcjoclaa
