/-
  Contract of the document's own Parse.
-/
import Derived.Test.YtaimmohfcjoclaaParse
namespace Go.Proofs.Ytaimmohfcjoclaa
open Go.RowKit

set_option maxHeartbeats 1000000 in
theorem rparse_syntax (s : ByteArray) (w : World) (hs : s.size ≤ maxLen) (h : pForm s = false) :
    Calls Try.prog 18 #[.string s] w (Parsed s w) := by
  have H := Lib.hid (p_no h)
  by_cases hz : s.size = 10
  · have hd : allDig s.data.toList = false := by
      cases hd : allDig s.data.toList with
      | false => rfl
      | true => rw [pForm_yes hz hd] at h; cases h
    have h1 : ((s.size : Int) != 10) = false := by rw [bne_eq_false_iff_eq]; omega
    clear h hz
    go_enter Try.func18, Try.ntmps18
    go_wp2_with (go_at_call 59; refine (all_any s _ hs).mono ?_; rintro e w1 ⟨rfl, rfl⟩)
    go_returns
    exact Parsed.mk H.out ((Below.refl _ _).alloc (Nat.le_refl _) _)
  · have h1 : ((s.size : Int) != 10) = true := by rw [bne_iff_ne]; omega
    clear h hz
    go_enter Try.func18, Try.ntmps18
    go_wp2
    go_returns
    exact Parsed.mk H.out ((Below.refl _ _).alloc (Nat.le_refl _) _)

set_option maxHeartbeats 1000000 in
theorem rparse_form (s : ByteArray) (w : World) (hs : s.size ≤ maxLen) (h : pForm s = true) :
    Calls Try.prog 18 #[.string s] w (Parsed s w) := by
  obtain ⟨hz, hd⟩ := ext_facts h
  have h1 : ((s.size : Int) != 10) = false := by rw [bne_eq_false_iff_eq]; omega
  have i1 : (1 : Int) ≤ (s.size : Int) := by omega
  have i4 : (4 : Int) ≤ (s.size : Int) := by omega
  have hA : ∀ W, Calls Try.prog 60 #[.string (s.extract 0 1)] W fun e w' => e = .returned (.int .i64 (pL0 s)) ∧ W = w' := fun W => rvalue_any _ W (by rw [size_ext]; omega) (allDig_ext s 0 1 hd)
  have hB : ∀ W, Calls Try.prog 60 #[.string (s.extract 1 4)] W fun e w' => e = .returned (.int .i64 (pA0 s)) ∧ W = w' := fun W => rvalue_any _ W (by rw [size_ext]; omega) (allDig_ext s 1 4 hd)
  have hC : ∀ W, Calls Try.prog 60 #[.string (s.extract 4 s.size)] W fun e w' => e = .returned (.int .i64 (pS0 s)) ∧ W = w' := fun W => rvalue_any _ W (by rw [size_ext]; omega) (allDig_ext s 4 s.size hd)
  have HA := hide hA
  have HB := hide hB
  have HC := hide hC
  clear hA hB hC
  cases hv : vld (pL0 s) (pA0 s) (pS0 s) with
  | false =>
    have H := Lib.hid (p_range h hv)
    have HZ := Lib.hid hz
    clear h hz
    go_enter Try.func18, Try.ntmps18
    go_wp2_with (go_at_call 59; refine (all_any s _ hs).mono ?_; rintro e w1 ⟨rfl, rfl⟩)
    go_region_held3 (fun _ => True) (trivial)
      (first | (go_at_call 60; (first | ((with_reducible refine (unhide HA _).mono ?_); rintro e w1 ⟨rfl, rfl⟩) | ((with_reducible refine (unhide HB _).mono ?_); rintro e w1 ⟨rfl, rfl⟩) | ((with_reducible refine (unhide HC _).mono ?_); rintro e w1 ⟨rfl, rfl⟩))))
    all_goals
      go_wp2_with (go_at_call 20; refine (rvalid_any _ _ _ _).mono ?_; rintro e w1 ⟨rfl, hb1⟩; obtain ⟨c0, c1, c2, d0, d1, d2, f0, f1, f2, hb, hz⟩ := two_cells hb1; have HB1 := Lib.hid hb; clear hb hb1)
      refine bodyPost_ret (v := .tuple #[.agg #[.int .i64 0, .int .i64 0, .int .i64 0], .int .i64 1]) (by simp [results, Try.results18, go_sem, c0, c1, c2]) rfl ?_
      exact Parsed.mk H.out (((HB1.out.setCell (Nat.le_refl _) _).setCell (Nat.le_refl _) _).setCell (Nat.le_refl _) _)
  | true =>
    have H := Lib.hid (p_yes h hv)
    have HZ := Lib.hid hz
    clear h hz
    go_enter Try.func18, Try.ntmps18
    go_wp2_with (go_at_call 59; refine (all_any s _ hs).mono ?_; rintro e w1 ⟨rfl, rfl⟩)
    go_region_held3 (fun _ => True) (trivial)
      (first | (go_at_call 60; (first | ((with_reducible refine (unhide HA _).mono ?_); rintro e w1 ⟨rfl, rfl⟩) | ((with_reducible refine (unhide HB _).mono ?_); rintro e w1 ⟨rfl, rfl⟩) | ((with_reducible refine (unhide HC _).mono ?_); rintro e w1 ⟨rfl, rfl⟩))))
    all_goals
      go_wp2_with (go_at_call 20; refine (rvalid_any _ _ _ _).mono ?_; rintro e w1 ⟨rfl, hb1⟩; obtain ⟨c0, c1, c2, d0, d1, d2, f0, f1, f2, hb, hz⟩ := two_cells hb1; have HB1 := Lib.hid hb; clear hb hb1)
      refine bodyPost_ret (v := .tuple #[.agg #[.int .i64 (pL0 s), .int .i64 (pA0 s), .int .i64 (pS0 s)], .int .i64 0]) (by simp [results, Try.results18, go_sem, c0, c1, c2]) rfl ?_
      exact Parsed.mk H.out (((HB1.out.setCell (Nat.le_refl _) _).setCell (Nat.le_refl _) _).setCell (Nat.le_refl _) _)

theorem rparse_any (s : ByteArray) (w : World) (hs : s.size ≤ maxLen) : Calls Try.prog 18 #[.string s] w (Parsed s w) := by
  cases h : pForm s with
  | false => exact rparse_syntax s w hs h
  | true => exact rparse_form s w hs h
end Go.Proofs.Ytaimmohfcjoclaa
