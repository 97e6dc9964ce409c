/-
  FlightBack: the walk.
-/
import Derived.Test.YtaimmohfcjoclaaAwakeF
import Derived.Test.YtaimmohfcjoclaaMathH
import Derived.Test.YtaimmohfcjoclaaReadsA
namespace Go.Proofs.Ytaimmohfcjoclaa
open Go.RowKit

theorem fparse_text {c s : ByteArray} {n d : Int} (h : fvl c n s d = true) (w : World) : Calls Try.prog 42 #[.string (ftxt c n s d)] w fun e w' => e = .returned (.tuple #[.agg #[.string c, .int .i64 n, .string s, .int .i64 d], .int .i64 0]) ∧ Below w.heap.size w w' := by
  obtain ⟨h1, h2, h3, h4, h5, h6⟩ := fback h
  refine (fparse_any _ w (by unfold maxLen; omega)).mono fun e w' h' => ?_
  obtain ⟨he, hb⟩ := h'
  rw [h1, h2, h3, h4, h5] at he
  exact ⟨he, hb⟩
theorem fformat_text {x : ByteArray} (h : fE x = 0) (w : World) : Calls Try.prog 48 #[.agg #[.string (fC x), .int .i64 (fN x), .string (fS x), .int .i64 (fD x)]] w fun e w' => e = .returned (.string x) ∧ Below w.heap.size w w' := by
  have := fformat_any (fC x) (fN x) (fS x) (fD x) w
  rw [ftxt_back h] at this
  exact this

set_option maxHeartbeats 1000000 in
theorem fback_any (A : Option Addr) (len cap : Nat) (x : ByteArray) (w : World) (hcap : len ≤ cap) (hA : IntsIn w.heap.size w A len) (hx : x.size ≤ maxLen) :
    Calls Try.prog 12 #[.slice A len cap, .string x] w fun e w' => e = .returned (.bool true) ∧ Below w.heap.size w w' := by
  go_enter Try.func12, Try.ntmps12
  go_wp2_with fail
  refine (new_any A len cap w hcap hA).mono ?_
  rintro e w1 ⟨rfl, hs1, hb1⟩
  go_wp2_with fail
  refine (anyflight_any _ _ _ hs1).mono ?_
  rintro e w2 ⟨c, n, s, d, rfl, hF, hs2, hg2⟩
  have hv := few_valid hF
  have B2 := Lib.hid (below_new (below_reads hb1 hg2 (Nat.le_refl _) hb1.size) (.cells #[.string c, .int .i64 n, .string s, .int .i64 d] 53))
  have F := Four.new w2 c n s d 53
  clear hs1 hb1 hs2 hg2 hF
  go_wp2_with fail
  refine (fformat_any _ _ _ _ _).mono ?_
  rintro e w3 ⟨rfl, hb3⟩
  have F3 := F.keep hb3
  have B3 := Lib.hid (onward B2.out hb3)
  clear F B2 hb3
  go_wp2_with fail
  refine (fparse_text hv _).mono ?_
  rintro e w4 ⟨rfl, hb4⟩
  have F4 := F3.keep hb4
  have B4 := Lib.hid (below_new (onward B3.out hb4) (.cells #[.string c, .int .i64 n, .string s, .int .i64 d] 53))
  have F5 := F4.alloc (.cells #[.string c, .int .i64 n, .string s, .int .i64 d] 53)
  obtain ⟨c0, c1, c2, c3⟩ := F4
  obtain ⟨d0, d1, d2, d3⟩ := F5
  clear F3 hb4 B3
  go_wp2_with fail
  refine (fvalid_any _ _ _ _ _).mono ?_
  rintro e w5 ⟨rfl, hb5⟩
  have B5 := Lib.hid (onward B4.out hb5)
  clear c0 c1 c2 c3 d0 d1 d2 d3 hb5 B4
  by_cases he : fE x = 0
  · have h0 : (fE x != 0) = false := by rw [he]; rfl
    have HE := Lib.hid he
    clear he
    go_wp2_with fail
    refine (fparse_any x _ hx).mono ?_
    rintro e w6 ⟨rfl, hb6⟩
    have B6 := Lib.hid (below_new (onward B5.out hb6) (.cells #[.string (fC x), .int .i64 (fN x), .string (fS x), .int .i64 (fD x)] 53))
    clear hb6
    go_wp2_with fail
    refine (fformat_text HE.out _).mono ?_
    rintro e w7 ⟨rfl, hb7⟩
    have B7 := Lib.hid (onward B6.out hb7)
    clear hb7
    go_wp2_with fail
    refine (fawake_any _).mono ?_
    rintro e w8 ⟨rfl, hb8⟩
    go_wp2
    go_ret
    exact ⟨rfl, onward B7.out hb8⟩
  · have h0 : (fE x != 0) = true := by rw [bne_iff_ne]; exact he
    go_wp2_with fail
    refine (fparse_any x _ hx).mono ?_
    rintro e w6 ⟨rfl, hb6⟩
    have B6 := Lib.hid (below_new (onward B5.out hb6) (.cells #[.string (fC x), .int .i64 (fN x), .string (fS x), .int .i64 (fD x)] 53))
    clear hb6
    go_wp2_with fail
    refine (fawake_any _).mono ?_
    rintro e w8 ⟨rfl, hb8⟩
    go_wp2
    go_ret
    exact ⟨rfl, onward B6.out hb8⟩

theorem fback_law (A : Option Addr) (len cap : Nat) (hcap : len ≤ cap) {w : World} (hA : IntsIn w.heap.size w A len) (x : ByteArray) (hx : x.size ≤ maxLen) :
    Calls Try.prog 12 #[.slice A len cap, .string x] w fun e w' => e = .returned (.bool true) ∧ Below w.heap.size w w' := fback_any A len cap x w hcap hA hx
end Go.Proofs.Ytaimmohfcjoclaa
