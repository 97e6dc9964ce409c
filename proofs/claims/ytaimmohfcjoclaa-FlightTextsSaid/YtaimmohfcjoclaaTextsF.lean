/-
  FlightTexts: the walk.
-/
import Derived.Test.YtaimmohfcjoclaaAwakeF
namespace Go.Proofs.Ytaimmohfcjoclaa
open Go.RowKit

set_option maxHeartbeats 400000 in
theorem ftexts_long (s c : ByteArray) (n : Int) (x : ByteArray) (d : Int) (w : World) (h : (100 : Int) < (s.size : Int)) :
    Calls Try.prog 10 #[.string s, .agg #[.string c, .int .i64 n, .string x, .int .i64 d]] w fun e w' => e = .returned (.bool true) ∧ Below w.heap.size w w' := by
  go_enter Try.func10, Try.ntmps10
  go_wp2_with (first | (go_at_call 41; refine (fawake_any _).mono ?_; rintro e w1 ⟨rfl, hb1⟩))
  go_ret
  exact ⟨rfl, boxed hb1⟩

set_option maxHeartbeats 1000000 in
theorem ftexts_short (s c : ByteArray) (n : Int) (x : ByteArray) (d : Int) (w : World) (hs : s.size ≤ maxLen) (h : (s.size : Int) ≤ 100) :
    Calls Try.prog 10 #[.string s, .agg #[.string c, .int .i64 n, .string x, .int .i64 d]] w fun e w' => e = .returned (.bool true) ∧ Below w.heap.size w w' := by
  go_enter Try.func10, Try.ntmps10
  go_wp2_with (first | (go_at_call 42; refine (fparse_any _ _ hs).mono ?_; rintro e w1 ⟨rfl, hb1⟩) | (go_at_call 43; refine (rfparse_any _ _).mono ?_; rintro e w2 ⟨rfl, hb2⟩))
  have HB := Lib.hid (below_new (onward (below_new (boxed hb1) (.cells #[.string (fC s), .int .i64 (fN s), .string (fS s), .int .i64 (fD s)] 53)) hb2) (.cells #[.string (fC s), .int .i64 (fN s), .string (fS s), .int .i64 (fD s)] 53))
  have t1 := ((((Four.new w c n x d 53).keep hb1).alloc (.cells #[.string (fC s), .int .i64 (fN s), .string (fS s), .int .i64 (fD s)] 53)).keep hb2).alloc (.cells #[.string (fC s), .int .i64 (fN s), .string (fS s), .int .i64 (fD s)] 53)
  have t2 := ((Four.new w1 (fC s) (fN s) (fS s) (fD s) 53).keep hb2).alloc (.cells #[.string (fC s), .int .i64 (fN s), .string (fS s), .int .i64 (fD s)] 53)
  have t3 := Four.new w2 (fC s) (fN s) (fS s) (fD s) 53
  clear hb1 hb2
  generalize w2.alloc (.cells #[.string (fC s), .int .i64 (fN s), .string (fS s), .int .i64 (fD s)] 53) = W at *
  obtain ⟨c1, c2, c3, c4⟩ := t1
  obtain ⟨d1, d2, d3, d4⟩ := t2
  obtain ⟨e1, e2, e3, e4⟩ := t3
  replace c1 := After.cell c1
  replace c2 := After.cell c2
  replace c3 := After.cell c3
  replace c4 := After.cell c4
  replace d1 := After.cell d1
  replace d2 := After.cell d2
  replace d3 := After.cell d3
  replace d4 := After.cell d4
  replace e1 := After.cell e1
  replace e2 := After.cell e2
  replace e3 := After.cell e3
  replace e4 := After.cell e4
  refine wp_region_after (by kernel_rfl) (by kernel_rfl) ?_
  repeat (go_big_quiet_step ((first
    | (go_at_call 44; exact After.call (fvalid_any _ _ _ _ _))
    | (go_at_call 45; exact After.call (rfvalid_any _ _ _ _ _))
    | (go_at_call 46; exact After.call (fdes_any _ _ _ _ _))
    | (go_at_call 47; exact After.call (rfdes_any _ _ _ _ _))
    | (go_at_call 48; exact After.call (fformat_any _ _ _ _ _))
    | (go_at_call 49; exact After.call (rfformat_any _ _ _ _ _))
    | (go_at_call 41; exact After.call (fawake_any _)))))
  refine wpQuiet_nil ?_
  rintro _ ⟨t, rfl⟩
  clear c1 c2 c3 c4 d1 d2 d3 d4 e1 e2 e3 e4
  go_wp2
  go_ret
  exact ⟨rfl, onward HB.out t.is⟩

theorem ftexts_law (s : ByteArray) (hs : s.size ≤ maxLen) (c : ByteArray) (n : Int) (x : ByteArray) (d : Int) (_hc : c.size ≤ maxLen) (_hn : (Lit.int .i64 n).wf = true) (_hx : x.size ≤ maxLen) (_hd : (Lit.int .i64 d).wf = true) (w : World) :
    Calls Try.prog 10 #[.string s, .agg #[.string c, .int .i64 n, .string x, .int .i64 d]] w fun e w' => e = .returned (.bool true) ∧ Below w.heap.size w w' := by
  by_cases h : (100 : Int) < (s.size : Int)
  · exact ftexts_long s c n x d w h
  · exact ftexts_short s c n x d w hs (by omega)
end Go.Proofs.Ytaimmohfcjoclaa
