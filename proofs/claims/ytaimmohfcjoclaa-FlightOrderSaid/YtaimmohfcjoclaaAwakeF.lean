/-
  Contract of awake of chapter 2: the first example of the chapter holds.
-/
import Derived.Test.YtaimmohfcjoclaaParseFR
import Derived.Test.YtaimmohfcjoclaaDesigR
import Derived.Test.YtaimmohfcjoclaaLeg
namespace Go.Proofs.Ytaimmohfcjoclaa
open Go.RowKit

def exS : ByteArray := ⟨#[83, 75, 48, 49, 50, 51, 65, 47, 48, 55]⟩
theorem exf_bytes : fC exS = ⟨#[83, 75]⟩ ∧ fN exS = 123 ∧ fS exS = ⟨#[65]⟩ ∧ fD exS = 7 ∧ fE exS = 0 := by
  decide +kernel
theorem exf_txt : ftxt ⟨#[83, 75]⟩ 123 ⟨#[65]⟩ 7 = exS := by
  apply ByteArray.ext
  decide +kernel
theorem exf_port : portB ⟨#[67, 80, 72]⟩ = true := by decide +kernel

theorem fparse_ex (w : World) : Calls Try.prog 42 #[.string ⟨#[83, 75, 48, 49, 50, 51, 65, 47, 48, 55]⟩] w fun e w' => e = .returned (.tuple #[.agg #[.string ⟨#[83, 75]⟩, .int .i64 123, .string ⟨#[65]⟩, .int .i64 7], .int .i64 0]) ∧ Below w.heap.size w w' :=
  (fparse_any exS w (by unfold maxLen; show 10 ≤ 2 ^ 63 - 1; omega)).mono fun e w' h => by
    obtain ⟨h1, h2, h3, h4, h5⟩ := exf_bytes
    obtain ⟨he, hb⟩ := h
    rw [h1, h2, h3, h4, h5] at he
    exact ⟨he, hb⟩
theorem fformat_ex (w : World) : Calls Try.prog 48 #[.agg #[.string ⟨#[83, 75]⟩, .int .i64 123, .string ⟨#[65]⟩, .int .i64 7]] w fun e w' => e = .returned (.string ⟨#[83, 75, 48, 49, 50, 51, 65, 47, 48, 55]⟩) ∧ Below w.heap.size w w' := by
  have h := fformat_any ⟨#[83, 75]⟩ 123 ⟨#[65]⟩ 7 w
  rw [exf_txt] at h
  exact h
theorem port_ex (w : World) : Calls Try.prog 54 #[.string ⟨#[67, 80, 72]⟩] w fun e w' => e = .returned (.bool true) ∧ w = w' := by
  have h := port_any ⟨#[67, 80, 72]⟩ w
  rw [exf_port] at h
  exact h

set_option maxHeartbeats 400000 in
theorem fawake_any (w : World) : Calls Try.prog 41 #[] w fun e w' => e = .returned (.bool true) ∧ Below w.heap.size w w' := by
  go_enter Try.func41, Try.ntmps41
  go_wp2_with (first | (go_at_call 42; refine (fparse_ex _).mono ?_; rintro e w1 ⟨rfl, hb1⟩) | (go_at_call 48; refine (fformat_ex _).mono ?_; rintro e w2 ⟨rfl, hb2⟩) | (go_at_call 54; refine (port_ex _).mono ?_; rintro e w3 ⟨rfl, rfl⟩))
  go_ret
  exact ⟨rfl, hb1.trans ((boxed hb2).mono hb1.size)⟩
end Go.Proofs.Ytaimmohfcjoclaa
