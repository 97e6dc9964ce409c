/-
  Contract of awake: the first example of the chapter holds.
-/
import Derived.Test.YtaimmohfcjoclaaParseR
import Derived.Test.YtaimmohfcjoclaaCheck
namespace Go.Proofs.Ytaimmohfcjoclaa
open Go.RowKit

theorem ex_bytes : pL ⟨#[48, 50, 50, 48, 49, 50, 51, 52, 53, 54]⟩ = 0 ∧ pA ⟨#[48, 50, 50, 48, 49, 50, 51, 52, 53, 54]⟩ = 220 ∧ pS ⟨#[48, 50, 50, 48, 49, 50, 51, 52, 53, 54]⟩ = 123456 ∧ pE ⟨#[48, 50, 50, 48, 49, 50, 51, 52, 53, 54]⟩ = 0 := by
  decide +kernel
theorem ex_txt : txt 0 220 123456 = ⟨#[48, 50, 50, 48, 49, 50, 51, 52, 53, 54]⟩ := by
  apply ByteArray.ext
  decide +kernel

theorem parse_ex (w : World) : Calls Try.prog 17 #[.string ⟨#[48, 50, 50, 48, 49, 50, 51, 52, 53, 54]⟩] w fun e w' => e = .returned (.tuple #[.agg #[.int .i64 0, .int .i64 220, .int .i64 123456], .int .i64 0]) ∧ Below w.heap.size w w' :=
  (parse_any _ w (by unfold maxLen; show 10 ≤ 2 ^ 63 - 1; omega)).mono fun e w' h => by
    obtain ⟨h1, h2, h3, h4⟩ := ex_bytes
    obtain ⟨he, hb⟩ := h
    rw [h1, h2, h3, h4] at he
    exact ⟨he, hb⟩
theorem format_ex (w : World) : Calls Try.prog 21 #[.agg #[.int .i64 0, .int .i64 220, .int .i64 123456]] w fun e w' => e = .returned (.string ⟨#[48, 50, 50, 48, 49, 50, 51, 52, 53, 54]⟩) ∧ Below w.heap.size w w' := by
  have h := format_any 0 220 123456 w
  rw [ex_txt] at h
  exact h

set_option maxHeartbeats 400000 in
theorem awake_any (w : World) : Calls Try.prog 16 #[] w fun e w' => e = .returned (.bool true) ∧ Below w.heap.size w w' := by
  go_enter Try.func16, Try.ntmps16
  go_wp2_with (first | (go_at_call 17; refine (parse_ex _).mono ?_; rintro e w1 ⟨rfl, hb1⟩) | (go_at_call 21; refine (format_ex _).mono ?_; rintro e w2 ⟨rfl, hb2⟩))
  go_ret
  exact ⟨rfl, hb1.trans ((boxed hb2).mono hb1.size)⟩
end Go.Proofs.Ytaimmohfcjoclaa
