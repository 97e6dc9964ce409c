/-
  PlateTexts: the walk.
-/
import Derived.Test.YtaimmohfcjoclaaAwake
namespace Go.Proofs.Ytaimmohfcjoclaa
open Go.RowKit

set_option maxHeartbeats 400000 in
theorem texts_long (s : ByteArray) (l a c : Int) (w : World) (h : (100 : Int) < (s.size : Int)) :
    Calls Try.prog 3 #[.string s, .agg #[.int .i64 l, .int .i64 a, .int .i64 c]] w fun e w' => e = .returned (.bool true) ∧ Below w.heap.size w w' := by
  go_enter Try.func3, Try.ntmps3
  go_wp2_with (first | (go_at_call 16; refine (awake_any _).mono ?_; rintro e w1 ⟨rfl, hb1⟩))
  go_ret
  exact ⟨rfl, boxed hb1⟩

set_option maxHeartbeats 1000000 in
theorem texts_short (s : ByteArray) (l a c : Int) (w : World) (hs : s.size ≤ maxLen) (h : (s.size : Int) ≤ 100) :
    Calls Try.prog 3 #[.string s, .agg #[.int .i64 l, .int .i64 a, .int .i64 c]] w fun e w' => e = .returned (.bool true) ∧ Below w.heap.size w w' := by
  go_enter Try.func3, Try.ntmps3
  go_wp2_with (first | (go_at_call 17; refine (parse_any _ _ hs).mono ?_; rintro e w1 ⟨rfl, hb1⟩) | (go_at_call 18; refine (rparse_any _ _ hs).mono ?_; rintro e w2 ⟨rfl, hb2⟩))
  have HB := Lib.hid (below_new (onward (below_new (boxed hb1) (.cells #[.int .i64 (pL s), .int .i64 (pA s), .int .i64 (pS s)] 23)) hb2) (.cells #[.int .i64 (pL s), .int .i64 (pA s), .int .i64 (pS s)] 23))
  have t1 := ((((Three.new w l a c 23).keep hb1).alloc (.cells #[.int .i64 (pL s), .int .i64 (pA s), .int .i64 (pS s)] 23)).keep hb2).alloc (.cells #[.int .i64 (pL s), .int .i64 (pA s), .int .i64 (pS s)] 23)
  have t2 := ((Three.new w1 (pL s) (pA s) (pS s) 23).keep hb2).alloc (.cells #[.int .i64 (pL s), .int .i64 (pA s), .int .i64 (pS s)] 23)
  have t3 := Three.new w2 (pL s) (pA s) (pS s) 23
  clear hb1 hb2
  generalize w2.alloc (.cells #[.int .i64 (pL s), .int .i64 (pA s), .int .i64 (pS s)] 23) = W at *
  obtain ⟨c1, c2, c3⟩ := t1
  obtain ⟨d1, d2, d3⟩ := t2
  obtain ⟨e1, e2, e3⟩ := t3
  replace c1 := After.cell c1
  replace c2 := After.cell c2
  replace c3 := After.cell c3
  replace d1 := After.cell d1
  replace d2 := After.cell d2
  replace d3 := After.cell d3
  replace e1 := After.cell e1
  replace e2 := After.cell e2
  replace e3 := After.cell e3
  refine wp_region_after (by kernel_rfl) (by kernel_rfl) ?_
  repeat (go_big_quiet_step ((first
    | (go_at_call 19; exact After.call (valid_any _ _ _ _))
    | (go_at_call 20; exact After.call (rvalid_any _ _ _ _))
    | (go_at_call 21; exact After.call (format_any _ _ _ _))
    | (go_at_call 22; exact After.call (rformat_any _ _ _ _))
    | (go_at_call 23; exact After.call (check_any _ _ _ _))
    | (go_at_call 24; exact After.call (rcheck_any _ _ _ _))
    | (go_at_call 16; exact After.call (awake_any _)))))
  refine wpQuiet_nil ?_
  rintro _ ⟨t, rfl⟩
  clear c1 c2 c3 d1 d2 d3 e1 e2 e3
  go_wp2
  go_ret
  exact ⟨rfl, onward HB.out t.is⟩

theorem texts_any (s : ByteArray) (l a c : Int) (w : World) (hs : s.size ≤ maxLen) :
    Calls Try.prog 3 #[.string s, .agg #[.int .i64 l, .int .i64 a, .int .i64 c]] w fun e w' => e = .returned (.bool true) ∧ Below w.heap.size w w' := by
  by_cases h : (100 : Int) < (s.size : Int)
  · exact texts_long s l a c w h
  · exact texts_short s l a c w hs (by omega)

theorem texts_law (s : ByteArray) (hs : s.size ≤ maxLen) (l a c : Int) (_wl : (Lit.int .i64 l).wf = true) (_wa : (Lit.int .i64 a).wf = true) (_ws : (Lit.int .i64 c).wf = true) (w : World) :
    Calls Try.prog 3 #[.string s, .agg #[.int .i64 l, .int .i64 a, .int .i64 c]] w fun e w' => e = .returned (.bool true) ∧ Below w.heap.size w w' := texts_any s l a c w hs
end Go.Proofs.Ytaimmohfcjoclaa
