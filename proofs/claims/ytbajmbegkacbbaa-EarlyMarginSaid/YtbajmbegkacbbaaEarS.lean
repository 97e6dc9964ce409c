/-
  Early (layer 19): the law EarlyMargin: its walk.
-/
import Derived.Test.YtbajmbegkacbbaaEarR
namespace Go.Proofs.Ytbajmbegkacbbaa
open Go.RowKit

theorem hld_small {a b c d : Int} (ha : 0 ≤ a ∧ a ≤ 1000) (hb : 0 ≤ b ∧ b ≤ 1000) (hc : 0 ≤ c ∧ c ≤ 1000) (hd : 0 ≤ d ∧ d ≤ 1000) : hldB a b c d = decide (a + c + d < b) := by
  unfold hldB timS
  rw [decide_eq_true (show 0 ≤ a ∧ a ≤ 1048576 by omega), decide_eq_true (show 0 ≤ b ∧ b ≤ 1048576 by omega), decide_eq_true (show 0 ≤ c ∧ c ≤ 1048576 by omega), decide_eq_true (show 0 ≤ d ∧ d ≤ 1048576 by omega)]
  rfl
set_option maxHeartbeats 2000000 in
set_option maxRecDepth 100000 in
theorem margin_any (x0 : Int) (_ : (Lit.int .i64 x0).wf = true) (x1 : Int) (_ : (Lit.int .i64 x1).wf = true) (x2 : Int) (_ : (Lit.int .i64 x2).wf = true) (x3 : Int) (_ : (Lit.int .i64 x3).wf = true) (w : World) : Calls Try.prog 5 #[.int .i64 x0, .int .i64 x1, .int .i64 x2, .int .i64 x3] w fun e w' => e = .returned (.bool true) ∧ Below w.heap.size w w' := by
  have ra := modN_range x0 100 (by omega)
  have rb := modN_range x1 200 (by omega)
  have rc := modN_range x2 50 (by omega)
  have rd := modN_range x3 50 (by omega)
  go_enter Try.func5, Try.ntmps5
  go_upto_region 2 with (go_at_call 8; refine (mod_any _ _ _ (by omega) (by omega)).mono ?_; rintro e w1 ⟨rfl, rfl⟩)
  generalize modN x0 100 = a at *
  generalize modN x1 200 = b at *
  generalize modN x2 50 = c at *
  generalize modN x3 50 = d at *
  have w1 : IntKind.i64.wrap (a + c) = a + c := by rw [IntKind.wrap_i64]; omega
  have w2 : IntKind.i64.wrap (b - d) = b - d := by rw [IntKind.wrap_i64]; omega
  have w3 : IntKind.i64.wrap (a + 1) = a + 1 := by rw [IntKind.wrap_i64]; omega
  have w4 : IntKind.i64.wrap (b + 1) = b + 1 := by rw [IntKind.wrap_i64]; omega
  have h0 := hld_small (a := a) (b := b) (c := c) (d := d) (by omega) (by omega) (by omega) (by omega)
  have h1 := hld_small (a := a + 1) (b := b) (c := c) (d := d) (by omega) (by omega) (by omega) (by omega)
  have h2 := hld_small (a := a) (b := b + 1) (c := c) (d := d) (by omega) (by omega) (by omega) (by omega)
  have HA := hide (fun (W : World) => hold_any a b c d W)
  by_cases hq : a + c + d < b
  · rw [decide_eq_true hq] at h0
    rw [decide_eq_true (show a + c + d < b + 1 by omega)] at h2
    have HC := hide (fun (W : World) => hold_any a (b + 1) c d W)
    rw [h0] at HA
    rw [h2] at HC
    have q1 : a + c < b - d := by omega
    clear h0 h1 h2 ra rb rc rd hq
    go_wp2_with (first
      | (go_at_call 9; refine (unhide HA _).mono ?_; rintro e w5 ⟨rfl, rfl⟩; clear HA)
      | (go_at_call 9; refine (unhide HC _).mono ?_; rintro e w5 ⟨rfl, rfl⟩; clear HC)
      | (go_at_call 6; refine (awake_any _).mono ?_; rintro e w6 ⟨rfl, hb6⟩))
    go_ret
    exact ⟨rfl, hb6⟩
  · rw [decide_eq_false hq] at h0
    rw [decide_eq_false (show ¬ a + 1 + c + d < b by omega)] at h1
    have HC := hide (fun (W : World) => hold_any (a + 1) b c d W)
    rw [h0] at HA
    rw [h1] at HC
    have q1 : ¬ a + c < b - d := by omega
    clear h0 h1 h2 ra rb rc rd hq
    go_wp2_with (first
      | (go_at_call 9; refine (unhide HA _).mono ?_; rintro e w5 ⟨rfl, rfl⟩; clear HA)
      | (go_at_call 9; refine (unhide HC _).mono ?_; rintro e w5 ⟨rfl, rfl⟩; clear HC)
      | (go_at_call 6; refine (awake_any _).mono ?_; rintro e w6 ⟨rfl, hb6⟩))
    go_ret
    exact ⟨ret_bool (by rw [decide_eq_false (show ¬ a + c < b - d by omega)]; rfl), hb6⟩
end Go.Proofs.Ytbajmbegkacbbaa
