/-
  PlatePatterns: the walk.
-/
import Derived.Test.YtaimmohfcjoclaaCandR
import Derived.Test.YtaimmohfcjoclaaDistR
namespace Go.Proofs.Ytaimmohfcjoclaa
open Go.RowKit

/-- What is kept from call to call: all that was there, and the six cells of two boxes. -/
theorem six_keep {w0 w w' : World} {b b' : Nat} {x0 x1 x2 y0 y1 y2 : Value}
    (h : Below w0.heap.size w0 w ∧ w.cell? ⟨b, 0, none⟩ = some x0 ∧ w.cell? ⟨b, 1, none⟩ = some x1 ∧ w.cell? ⟨b, 2, none⟩ = some x2 ∧ w.cell? ⟨b', 0, none⟩ = some y0 ∧ w.cell? ⟨b', 1, none⟩ = some y1 ∧ w.cell? ⟨b', 2, none⟩ = some y2)
    (hb : Below w.heap.size w w') :
    Below w0.heap.size w0 w' ∧ w'.cell? ⟨b, 0, none⟩ = some x0 ∧ w'.cell? ⟨b, 1, none⟩ = some x1 ∧ w'.cell? ⟨b, 2, none⟩ = some x2 ∧ w'.cell? ⟨b', 0, none⟩ = some y0 ∧ w'.cell? ⟨b', 1, none⟩ = some y1 ∧ w'.cell? ⟨b', 2, none⟩ = some y2 := by
  obtain ⟨h0, h1, h2, h3, h4, h5, h6⟩ := h
  exact ⟨onward h0 hb, kept hb h1, kept hb h2, kept hb h3, kept hb h4, kept hb h5, kept hb h6⟩

set_option maxHeartbeats 2000000 in
theorem patterns_short (p : ByteArray) (l a s l' a' s' : Int) (A : Option Addr) (n c : Nat) (f : Nat → Int × Int × Int) (w : World) (hp : (p.size : Int) ≤ 30) (hn : (n : Int) ≤ 50) (hA : Plates w A n f) :
    Calls Try.prog 8 #[.string p, .agg #[.int .i64 l, .int .i64 a, .int .i64 s], .agg #[.int .i64 l', .int .i64 a', .int .i64 s'], .slice A n c] w fun e w' => e = .returned (.bool true) ∧ Below w.heap.size w w' := by
  have T := Two.start w l a s l' a' s' 23 23
  obtain ⟨bel, ⟨c1, c2, c3⟩, ⟨d1, d2, d3⟩⟩ := T
  have HA := Lib.hid hA
  clear hA
  have g1 : decide ((30 : Int) < (p.size : Int)) = false := by simp; omega
  have g2 : decide ((50 : Int) < (n : Int)) = false := by simp; omega
  have hn2 : n ≤ 2000 := by omega
  go_enter Try.func8, Try.ntmps8
  go_wp2_with fail
  generalize (w.alloc (.cells #[.int .i64 l, .int .i64 a, .int .i64 s] 23)).alloc (.cells #[.int .i64 l', .int .i64 a', .int .i64 s'] 23) = W at *
  have bel' : Below w.heap.size w W.drew := bel.drew
  go_region_held3 (fun x => Below w.heap.size w x ∧ x.cell? ⟨w.heap.size, 0, none⟩ = some (.int .i64 l) ∧ x.cell? ⟨w.heap.size, 1, none⟩ = some (.int .i64 a) ∧ x.cell? ⟨w.heap.size, 2, none⟩ = some (.int .i64 s) ∧ x.cell? ⟨w.heap.size + 1, 0, none⟩ = some (.int .i64 l') ∧ x.cell? ⟨w.heap.size + 1, 1, none⟩ = some (.int .i64 a') ∧ x.cell? ⟨w.heap.size + 1, 2, none⟩ = some (.int .i64 s'))
    (first | exact ⟨bel', c1, c2, c3, d1, d2, d3⟩ | exact six_keep (by assumption) (by assumption))
    (first
      | (go_at_call 30; refine (matches_any p l a s _).mono ?_; rintro e w1 ⟨rfl, hb1⟩)
      | (go_at_call 31; refine (rmatches_any p l a s _).mono ?_; rintro e w2 ⟨rfl, hb2⟩)
      | (go_at_call 33; refine (candidates_any p A n c f _ hn2 (HA.out.keep (And.left (by assumption)))).mono ?_; rintro e w3 ⟨v3, rfl, ho3, hb3⟩)
      | (go_at_call 34; refine (rcandidates_any p A n c f _ hn2 (HA.out.keep (And.left (by assumption)))).mono ?_; rintro e w4 ⟨v4, rfl, ho4, hb4⟩)
      | (go_at_call 32; refine (ints_any _ _ _ _ _ _ (by have := candL_length p f n; omega) (owns_below ho3 hb4) ho4).mono ?_; rintro e w5 ⟨rfl, hb5⟩)
      | (go_at_call 35; refine (distance_any l a s l' a' s' _).mono ?_; rintro e w6 ⟨rfl, hb6⟩)
      | (go_at_call 36; refine (rdistance_any l a s l' a' s' _).mono ?_; rintro e w7 ⟨rfl, hb7⟩)
      | (go_at_call 16; refine (awake_any _).mono ?_; rintro e w8 ⟨rfl, hb8⟩))
  rename_i hH
  have HB := Lib.hid hH.1
  clear hH
  go_wp2
  go_ret
  exact ⟨rfl, HB.out⟩

set_option maxHeartbeats 1000000 in
theorem patterns_long (p : ByteArray) (l a s l' a' s' : Int) (A : Option Addr) (n c : Nat) (w : World) (h : (30 : Int) < (p.size : Int) ∨ (p.size : Int) ≤ 30 ∧ (50 : Int) < (n : Int)) :
    Calls Try.prog 8 #[.string p, .agg #[.int .i64 l, .int .i64 a, .int .i64 s], .agg #[.int .i64 l', .int .i64 a', .int .i64 s'], .slice A n c] w fun e w' => e = .returned (.bool true) ∧ Below w.heap.size w w' := by
  have bel := (Two.start w l a s l' a' s' 23 23).bel
  have HB := Lib.hid bel
  clear bel
  rcases h with h | ⟨h, h2⟩
  all_goals
    go_enter Try.func8, Try.ntmps8
    go_wp2_with (first | (go_at_call 16; refine (awake_any _).mono ?_; rintro e w8 ⟨rfl, hb8⟩))
    go_ret
    exact ⟨rfl, onward HB.out hb8⟩

theorem patterns_law (p : ByteArray) (_hp : p.size ≤ maxLen) (l a s : Int) (_wl : (Lit.int .i64 l).wf = true) (_wa : (Lit.int .i64 a).wf = true) (_ws : (Lit.int .i64 s).wf = true)
    (l' a' s' : Int) (_wl' : (Lit.int .i64 l').wf = true) (_wa' : (Lit.int .i64 a').wf = true) (_ws' : (Lit.int .i64 s').wf = true) (A : Option Addr) (n c : Nat) (f : Nat → Int × Int × Int) (w : World) (hA : Plates w A n f) :
    Calls Try.prog 8 #[.string p, .agg #[.int .i64 l, .int .i64 a, .int .i64 s], .agg #[.int .i64 l', .int .i64 a', .int .i64 s'], .slice A n c] w fun e w' => e = .returned (.bool true) ∧ Below w.heap.size w w' := by
  by_cases h1 : (30 : Int) < (p.size : Int)
  · exact patterns_long p l a s l' a' s' A n c w (.inl h1)
  · by_cases h2 : (50 : Int) < (n : Int)
    · exact patterns_long p l a s l' a' s' A n c w (.inr ⟨by omega, h2⟩)
    · exact patterns_short p l a s l' a' s' A n c f w (by omega) (by omega) hA
end Go.Proofs.Ytaimmohfcjoclaa
