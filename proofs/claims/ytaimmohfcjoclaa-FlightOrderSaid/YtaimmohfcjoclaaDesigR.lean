/-
  Contracts of the document's own Designator and Format.
-/
import Derived.Test.YtaimmohfcjoclaaDesig
namespace Go.Proofs.Ytaimmohfcjoclaa
open Go.RowKit

theorem digits4 (n : Int) (w : World) (hn : 0 ≤ n) (hn2 : n ≤ 9999) {D : ByteArray} (hD : Hid (strOfNums (dgs n 4) = D)) :
    Calls Try.prog 62 #[.int .i64 n, .int .i64 4] w fun e w' => e = .returned (.string D) ∧ Below w.heap.size w w' := by
  have h := digits_any n 4 w hn (by omega) (by omega) (by omega)
  rw [hD.out] at h
  exact h
theorem digits2 (n : Int) (w : World) (hn : 0 ≤ n) (hn2 : n ≤ 99) {D : ByteArray} (hD : Hid (strOfNums (dgs n 2) = D)) :
    Calls Try.prog 62 #[.int .i64 n, .int .i64 2] w fun e w' => e = .returned (.string D) ∧ Below w.heap.size w w' := by
  have h := digits_any n 2 w hn (by omega) (by omega) (by omega)
  rw [hD.out] at h
  exact h

set_option maxHeartbeats 1000000 in
theorem rfdes_any (c : ByteArray) (n : Int) (s : ByteArray) (d : Int) (w : World) :
    Calls Try.prog 47 #[.agg #[.string c, .int .i64 n, .string s, .int .i64 d]] w fun e w' => e = .returned (.string (fdes c n s d)) ∧ Below w.heap.size w w' := by
  cases hv : fvl c n s d with
  | false =>
    go_enter Try.func47, Try.ntmps47
    go_wp2_with (go_at_call 45; refine (rfvalid_any c n s d _).mono ?_; rintro e w1 ⟨rfl, hb1⟩)
    go_ret
    exact ⟨ret_str (fdes_no hv).symm, boxed hb1⟩
  | true =>
    obtain ⟨h1, ⟨h2, h3⟩, h4, h5, h6⟩ := fvl_iff.1 hv
    obtain ⟨z1, z2⟩ := fvl_sizes hv
    have h0 : 0 ≤ n := by omega
    rw [fdes_yes hv]
    have zD : (strOfNums (dgs n 4)).size = 4 := by rw [strOfNums_size, dgs_length]
    generalize hD : strOfNums (dgs n 4) = D at *
    have HDE := Lib.hid hD
    clear hD
    go_enter Try.func47, Try.ntmps47
    go_wp2_with (first | (go_at_call 45; refine (rfvalid_any c n s d _).mono ?_; rintro e w1 ⟨rfl, hb1⟩; have F := (Four.new w c n s d _).keep hb1))
    have HB := Lib.hid (boxed hb1)
    clear hb1
    obtain ⟨k0, k1, k2, k3⟩ := F
    have m0 := After.cell k0
    have m1 := After.cell k1
    have m2 := After.cell k2
    have m3 := After.cell k3
    refine wp_region_after (by kernel_rfl) (by kernel_rfl) ?_
    repeat (go_big_quiet_step ((first | (go_at_call 62; exact After.call (digits4 n _ h0 h3 HDE)))))
    refine wpQuiet_nil ?_
    rintro _ ⟨t, rfl⟩
    go_wp2
    go_ret
    exact ⟨rfl, onward HB.out t.is⟩

set_option maxHeartbeats 1000000 in
theorem rfformat_any (c : ByteArray) (n : Int) (s : ByteArray) (d : Int) (w : World) :
    Calls Try.prog 49 #[.agg #[.string c, .int .i64 n, .string s, .int .i64 d]] w fun e w' => e = .returned (.string (ftxt c n s d)) ∧ Below w.heap.size w w' := by
  cases hv : fvl c n s d with
  | false =>
    go_enter Try.func49, Try.ntmps49
    go_wp2_with (go_at_call 45; refine (rfvalid_any c n s d _).mono ?_; rintro e w1 ⟨rfl, hb1⟩)
    go_ret
    exact ⟨ret_str (ftxt_no hv).symm, boxed hb1⟩
  | true =>
    obtain ⟨h1, ⟨h2, h3⟩, h4, h5, h6⟩ := fvl_iff.1 hv
    obtain ⟨z1, z2⟩ := fdes_size hv
    rw [ftxt_yes hv]
    have zD : (strOfNums (dgs d 2)).size = 2 := by rw [strOfNums_size, dgs_length]
    generalize hD : strOfNums (dgs d 2) = D at *
    have HDE := Lib.hid hD
    clear hD
    have hde := fun W => rfdes_any c n s d W
    generalize fdes c n s d = X at *
    have HD := hide hde
    clear hde
    go_enter Try.func49, Try.ntmps49
    go_wp2_with (first | (go_at_call 45; refine (rfvalid_any c n s d _).mono ?_; rintro e w1 ⟨rfl, hb1⟩; have F := (Four.new w c n s d _).keep hb1))
    have HB := Lib.hid (boxed hb1)
    clear hb1
    obtain ⟨k0, k1, k2, k3⟩ := F
    have m0 := After.cell k0
    have m1 := After.cell k1
    have m2 := After.cell k2
    have m3 := After.cell k3
    refine wp_region_after (by kernel_rfl) (by kernel_rfl) ?_
    repeat (go_big_quiet_step ((first | (go_at_call 47; exact After.call (unhide HD _)) | (go_at_call 62; exact After.call (digits2 d _ h5 h6 HDE)))))
    refine wpQuiet_nil ?_
    rintro _ ⟨t, rfl⟩
    go_wp2
    go_ret
    exact ⟨rfl, onward HB.out t.is⟩
end Go.Proofs.Ytaimmohfcjoclaa
