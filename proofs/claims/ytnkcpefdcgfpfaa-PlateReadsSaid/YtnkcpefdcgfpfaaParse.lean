/-
  Contracts of Parse (both): the plate with a text, and the error.
-/
import Derived.Test.YtnkcpefdcgfpfaaStr
import Derived.Test.YtnkcpefdcgfpfaaMathB
import Derived.Test.YtnkcpefdcgfpfaaAfter
namespace Go.Proofs.Ytnkcpefdcgfpfaa
open Go.RowKit

/-- What a call of Parse has come to. -/
def Parsed (s : ByteArray) (w : World) (e : Ending) (w' : World) : Prop :=
  e = .returned (.tuple #[.agg #[.int .i64 (pL s), .int .i64 (pA s), .int .i64 (pS s)], .int .i64 (pE s)]) ∧ Below w.heap.size w w'
theorem Parsed.mk {s : ByteArray} {w w' : World} {l a c e : Int} (h : pL s = l ∧ pA s = a ∧ pS s = c ∧ pE s = e) (hb : Below w.heap.size w w') :
    Parsed s w (.returned (.tuple #[.agg #[.int .i64 l, .int .i64 a, .int .i64 c], .int .i64 e])) w' := by
  obtain ⟨rfl, rfl, rfl, rfl⟩ := h
  exact ⟨rfl, hb⟩

set_option maxHeartbeats 1000000 in
theorem parse_syntax (s : ByteArray) (w : World) (hs : s.size ≤ maxLen) (h : pForm s = false) :
    Calls Try.prog 11 #[.string s] w (Parsed s w) := by
  have H := Lib.hid (p_no h)
  by_cases hz : s.size = 10
  · have hd : allDig s.data.toList = false := by
      cases hd : allDig s.data.toList with
      | false => rfl
      | true => rw [pForm_yes hz hd] at h; cases h
    have h1 : ((s.size : Int) != 10) = false := by rw [bne_eq_false_iff_eq]; omega
    clear h hz
    go_enter Try.func11, Try.ntmps11
    go_wp2_with (go_at_call 35; refine (only_any s _ hs).mono ?_; rintro e w1 ⟨rfl, rfl⟩)
    go_returns
    exact Parsed.mk H.out ((Below.refl _ _).alloc (Nat.le_refl _) _)
  · have h1 : ((s.size : Int) != 10) = true := by rw [bne_iff_ne]; omega
    clear h hz
    go_enter Try.func11, Try.ntmps11
    go_wp2
    go_returns
    exact Parsed.mk H.out ((Below.refl _ _).alloc (Nat.le_refl _) _)

/-- The cells of two boxes, one behind the other, in a later world. -/
theorem two_cells {w w1 : World} {x0 x1 x2 y0 y1 y2 : Int} {t u : TypeId}
    (hb : Below (((w.alloc (.cells #[.int .i64 x0, .int .i64 x1, .int .i64 x2] t)).alloc (.cells #[.int .i64 y0, .int .i64 y1, .int .i64 y2] u)).drew).heap.size (((w.alloc (.cells #[.int .i64 x0, .int .i64 x1, .int .i64 x2] t)).alloc (.cells #[.int .i64 y0, .int .i64 y1, .int .i64 y2] u)).drew) w1) :
    w1.cell? ⟨w.heap.size, 0, none⟩ = some (.int .i64 x0) ∧ w1.cell? ⟨w.heap.size, 1, none⟩ = some (.int .i64 x1) ∧ w1.cell? ⟨w.heap.size, 2, none⟩ = some (.int .i64 x2) ∧
    w1.cell? ⟨w.heap.size + 1, 0, none⟩ = some (.int .i64 y0) ∧ w1.cell? ⟨w.heap.size + 1, 1, none⟩ = some (.int .i64 y1) ∧ w1.cell? ⟨w.heap.size + 1, 2, none⟩ = some (.int .i64 y2) ∧
    w1.frozen? ⟨w.heap.size, 0, none⟩ = false ∧ w1.frozen? ⟨w.heap.size, 1, none⟩ = false ∧ w1.frozen? ⟨w.heap.size, 2, none⟩ = false ∧
    Below w.heap.size w w1 ∧ w.heap.size + 1 < w1.heap.size := by
  have hs := hb.size
  refine ⟨?_, ?_, ?_, ?_, ?_, ?_, ?_, ?_, ?_, ?_, ?_⟩
  any_goals exact kept hb (by simp [go_sem])
  any_goals exact frz hb (by simp only [World.size_alloc, World.size_drew]; omega) (by simp [go_sem])
  · exact ((((Below.refl _ _).alloc (Nat.le_refl _) _).alloc (by simp) _).drew).trans (hb.mono (by simp; omega))
  · simp at hs; omega
theorem ext_facts {s : ByteArray} (h : pForm s = true) : s.size = 10 ∧ allDig s.data.toList = true := by
  unfold pForm at h
  simpa using h

set_option maxHeartbeats 1000000 in
theorem parse_form (s : ByteArray) (w : World) (hs : s.size ≤ maxLen) (h : pForm s = true) :
    Calls Try.prog 11 #[.string s] w (Parsed s w) := by
  obtain ⟨hz, hd⟩ := ext_facts h
  have h1 : ((s.size : Int) != 10) = false := by rw [bne_eq_false_iff_eq]; omega
  have i1 : (1 : Int) ≤ (s.size : Int) := by omega
  have i4 : (4 : Int) ≤ (s.size : Int) := by omega
  have hA : ∀ W, Calls Try.prog 36 #[.string (s.extract 0 1)] W fun e w' => e = .returned (.int .i64 (pL0 s)) ∧ W = w' := fun W => value_any _ W (by rw [size_ext]; omega) (allDig_ext s 0 1 hd)
  have hB : ∀ W, Calls Try.prog 36 #[.string (s.extract 1 4)] W fun e w' => e = .returned (.int .i64 (pA0 s)) ∧ W = w' := fun W => value_any _ W (by rw [size_ext]; omega) (allDig_ext s 1 4 hd)
  have hC : ∀ W, Calls Try.prog 36 #[.string (s.extract 4 s.size)] W fun e w' => e = .returned (.int .i64 (pS0 s)) ∧ W = w' := fun W => value_any _ W (by rw [size_ext]; omega) (allDig_ext s 4 s.size hd)
  have HA := hide hA
  have HB := hide hB
  have HC := hide hC
  clear hA hB hC
  cases hv : vld (pL0 s) (pA0 s) (pS0 s) with
  | false =>
    have H := Lib.hid (p_range h hv)
    have HZ := Lib.hid hz
    clear h hz
    go_enter Try.func11, Try.ntmps11
    go_wp2_with (go_at_call 35; refine (only_any s _ hs).mono ?_; rintro e w1 ⟨rfl, rfl⟩)
    go_region_held3 (fun _ => True) (trivial)
      (first | (go_at_call 36; (first | ((with_reducible refine (unhide HA _).mono ?_); rintro e w1 ⟨rfl, rfl⟩) | ((with_reducible refine (unhide HB _).mono ?_); rintro e w1 ⟨rfl, rfl⟩) | ((with_reducible refine (unhide HC _).mono ?_); rintro e w1 ⟨rfl, rfl⟩))))
    all_goals
      go_wp2_with (go_at_call 13; refine (valid_any _ _ _ _).mono ?_; rintro e w1 ⟨rfl, hb1⟩; obtain ⟨c0, c1, c2, d0, d1, d2, f0, f1, f2, hb, hz⟩ := two_cells hb1; have HB1 := Lib.hid hb; clear hb hb1)
      refine bodyPost_ret (v := .tuple #[.agg #[.int .i64 0, .int .i64 0, .int .i64 0], .int .i64 1]) (by simp [results, Try.results11, go_sem, c0, c1, c2]) rfl ?_
      exact Parsed.mk H.out (((HB1.out.setCell (Nat.le_refl _) _).setCell (Nat.le_refl _) _).setCell (Nat.le_refl _) _)
  | true =>
    have H := Lib.hid (p_yes h hv)
    have HZ := Lib.hid hz
    clear h hz
    go_enter Try.func11, Try.ntmps11
    go_wp2_with (go_at_call 35; refine (only_any s _ hs).mono ?_; rintro e w1 ⟨rfl, rfl⟩)
    go_region_held3 (fun _ => True) (trivial)
      (first | (go_at_call 36; (first | ((with_reducible refine (unhide HA _).mono ?_); rintro e w1 ⟨rfl, rfl⟩) | ((with_reducible refine (unhide HB _).mono ?_); rintro e w1 ⟨rfl, rfl⟩) | ((with_reducible refine (unhide HC _).mono ?_); rintro e w1 ⟨rfl, rfl⟩))))
    all_goals
      go_wp2_with (go_at_call 13; refine (valid_any _ _ _ _).mono ?_; rintro e w1 ⟨rfl, hb1⟩; obtain ⟨c0, c1, c2, d0, d1, d2, f0, f1, f2, hb, hz⟩ := two_cells hb1; have HB1 := Lib.hid hb; clear hb hb1)
      refine bodyPost_ret (v := .tuple #[.agg #[.int .i64 (pL0 s), .int .i64 (pA0 s), .int .i64 (pS0 s)], .int .i64 0]) (by simp [results, Try.results11, go_sem, c0, c1, c2]) rfl ?_
      exact Parsed.mk H.out (((HB1.out.setCell (Nat.le_refl _) _).setCell (Nat.le_refl _) _).setCell (Nat.le_refl _) _)

theorem parse_any (s : ByteArray) (w : World) (hs : s.size ≤ maxLen) : Calls Try.prog 11 #[.string s] w (Parsed s w) := by
  cases h : pForm s with
  | false => exact parse_syntax s w hs h
  | true => exact parse_form s w hs h
end Go.Proofs.Ytnkcpefdcgfpfaa
