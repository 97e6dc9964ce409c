/-
  Contracts of the smallest functions: Valid (both), sign, cmp.Compare, Compare (both), Mod, Number.
-/
import Derived.Test.YtaimmohfcjoclaaRows
import Derived.Test.YtaimmohfcjoclaaMath
import Derived.WalkKit
import Derived.WalkSpells
import Derived.WalkLawsBesides
import Derived.Handy
import Derived.Lib.Hide
namespace Go.Proofs.Ytaimmohfcjoclaa
open Go.RowKit

theorem ret_bool {a b : Bool} (h : a = b) : Ending.returned (.bool a) = .returned (.bool b) := by rw [h]
theorem ret_int {k : IntKind} {a b : Int} (h : a = b) : Ending.returned (.int k a) = .returned (.int k b) := by rw [h]
theorem ret_str {a b : ByteArray} (h : a = b) : Ending.returned (.string a) = .returned (.string b) := by rw [h]

set_option maxHeartbeats 400000 in
theorem valid_any (l a s : Int) (w : World) :
    Calls Try.prog 19 #[.agg #[.int .i64 l, .int .i64 a, .int .i64 s]] w fun e w' => e = .returned (.bool (vld l a s)) ∧ Below w.heap.size w w' := by
  go_enter Try.func19, Try.ntmps19
  go_wp2
  all_goals (go_ret; refine ⟨ret_bool (Bool.eq_iff_iff.2 (Iff.trans ?_ vld_iff.symm)), (Below.refl _ _).alloc (Nat.le_refl _) _⟩; first | (simp; omega) | (simp only [Bool.false_eq_true]; omega))

set_option maxHeartbeats 400000 in
theorem rvalid_any (l a s : Int) (w : World) :
    Calls Try.prog 20 #[.agg #[.int .i64 l, .int .i64 a, .int .i64 s]] w fun e w' => e = .returned (.bool (vld l a s)) ∧ Below w.heap.size w w' := by
  go_enter Try.func20, Try.ntmps20
  go_wp2
  all_goals (go_ret; refine ⟨ret_bool (Bool.eq_iff_iff.2 (Iff.trans ?_ vld_iff.symm)), (Below.refl _ _).alloc (Nat.le_refl _) _⟩; first | (simp; omega) | (simp only [Bool.false_eq_true]; omega))

set_option maxHeartbeats 400000 in
theorem sign_any (a b : Int) (w : World) :
    Calls Try.prog 65 #[.int .i64 a, .int .i64 b] w fun e w' => e = .returned (.int .i64 (sgn a b)) ∧ w = w' := by
  go_enter Try.func65, Try.ntmps65
  go_wp2
  all_goals (go_ret; refine ⟨?_, rfl⟩; unfold sgn; simp; try omega)

set_option maxHeartbeats 400000 in
theorem ccmp_any (a b : Int) (w : World) :
    Calls Try.prog 64 #[.int .i64 a, .int .i64 b] w fun e w' => e = .returned (.int .i64 (sgn a b)) ∧ w = w' := by
  go_enter Try.func64, Try.ntmps64
  go_wp2
  all_goals (go_ret; refine ⟨?_, rfl⟩; unfold sgn; simp; try omega)

/-- A box of a plate. -/
def box3 (l a s : Int) : Obj := .cells #[.int .i64 l, .int .i64 a, .int .i64 s] 23

set_option maxHeartbeats 1000000 in
theorem compare_any (l a s l' a' s' : Int) (w : World) :
    Calls Try.prog 25 #[.agg #[.int .i64 l, .int .i64 a, .int .i64 s], .agg #[.int .i64 l', .int .i64 a', .int .i64 s']] w fun e w' => e = .returned (.int .i64 (cmp3 l a s l' a' s')) ∧ Below w.heap.size w w' := by
  unfold cmp3
  by_cases h1 : (sgn l l' != 0) = true <;> by_cases h2 : (sgn a a' != 0) = true
  all_goals
    simp only [bne_iff_ne, ne_eq, Decidable.not_not] at h1 h2
    go_enter Try.func25, Try.ntmps25
    go_wp2_with (go_at_call 64; refine (ccmp_any _ _ _).mono ?_; rintro e w' ⟨rfl, rfl⟩)
    go_ret
    refine ⟨?_, ((Below.refl _ _).alloc (Nat.le_refl _) _).alloc (by simp) _⟩
    simp [*]

set_option maxHeartbeats 1000000 in
theorem rcompare_any (l a s l' a' s' : Int) (w : World) :
    Calls Try.prog 26 #[.agg #[.int .i64 l, .int .i64 a, .int .i64 s], .agg #[.int .i64 l', .int .i64 a', .int .i64 s']] w fun e w' => e = .returned (.int .i64 (cmp3 l a s l' a' s')) ∧ Below w.heap.size w w' := by
  unfold cmp3
  by_cases h1 : (sgn l l' != 0) = true <;> by_cases h2 : (sgn a a' != 0) = true
  all_goals
    simp only [bne_iff_ne, ne_eq, Decidable.not_not] at h1 h2
    go_enter Try.func26, Try.ntmps26
    go_wp2_with (go_at_call 65; refine (sign_any _ _ _).mono ?_; rintro e w' ⟨rfl, rfl⟩)
    go_ret
    refine ⟨?_, ((Below.refl _ _).alloc (Nat.le_refl _) _).alloc (by simp) _⟩
    simp [*]

set_option maxHeartbeats 400000 in
theorem mod_any (x n : Int) (w : World) (h : 1 ≤ n) (h2 : n ≤ 1000000000) :
    Calls Try.prog 27 #[.int .i64 x, .int .i64 n] w fun e w' => e = .returned (.int .i64 (modN x n)) ∧ w = w' := by
  have h3 : x.tmod n < n := Int.tmod_lt_of_pos x (by omega)
  have h4 : -n < x.tmod n := by
    have := Int.tmod_lt_of_pos (-x) (by omega : 0 < n)
    rw [Int.neg_tmod] at this
    omega
  go_enter Try.func27, Try.ntmps27
  go_wp2
  all_goals (go_ret; refine ⟨ret_int ?_, rfl⟩; unfold modN; rw [if_neg (by omega)])
  all_goals (split <;> first | rfl | omega)

set_option maxHeartbeats 400000 in
theorem number_any (l a s : Int) (w : World) (h : vld l a s = true) :
    Calls Try.prog 63 #[.agg #[.int .i64 l, .int .i64 a, .int .i64 s]] w fun e w' => e = .returned (.int .i64 (num l a s)) ∧ Below w.heap.size w w' := by
  obtain ⟨h1, h2, h3, h4, h5, h6⟩ := vld_iff.1 h
  clear h
  go_enter Try.func63, Try.ntmps63
  go_wp2
  go_ret
  refine ⟨ret_int ?_, (Below.refl _ _).alloc (Nat.le_refl _) _⟩
  rfl
end Go.Proofs.Ytaimmohfcjoclaa
