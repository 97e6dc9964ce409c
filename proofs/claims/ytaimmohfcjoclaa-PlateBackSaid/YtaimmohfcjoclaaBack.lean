/-
  PlateBack: the walk.
-/
import Derived.Test.YtaimmohfcjoclaaAwake
import Derived.Test.YtaimmohfcjoclaaMathP
import Derived.Test.YtaimmohfcjoclaaTail
namespace Go.Proofs.Ytaimmohfcjoclaa
open Go.RowKit

theorem parse_text {l a s : Int} (h : vld l a s = true) (w : World) : Calls Try.prog 17 #[.string (txt l a s)] w fun e w' => e = .returned (.tuple #[.agg #[.int .i64 l, .int .i64 a, .int .i64 s], .int .i64 0]) ∧ Below w.heap.size w w' :=
  (parse_any _ w (by rw [txt_size h]; unfold maxLen; omega)).mono fun e w' h' => by
    obtain ⟨h1, h2, h3, h4⟩ := parse_back h
    obtain ⟨he, hb⟩ := h'
    rw [h1, h2, h3, h4] at he
    exact ⟨he, hb⟩
theorem format_text {s : ByteArray} (h : pE s = 0) (w : World) : Calls Try.prog 21 #[.agg #[.int .i64 (pL s), .int .i64 (pA s), .int .i64 (pS s)]] w fun e w' => e = .returned (.string s) ∧ Below w.heap.size w w' := by
  have := format_any (pL s) (pA s) (pS s) w
  rw [txt_back h] at this
  exact this

/-- The frozen cells of a new box. -/
theorem box_free (w : World) (l a s : Int) (t : TypeId) (i : Nat) : (w.alloc (.cells #[.int .i64 l, .int .i64 a, .int .i64 s] t)).frozen? ⟨w.heap.size, i, none⟩ = false := by
  simp [go_sem]
theorem Three.stored {w : World} {b : Nat} {l a s : Int} (h : Three w b l a s) (l' a' s' : Int) : Three (((w.setCell ⟨b, 0, none⟩ (.int .i64 l')).setCell ⟨b, 1, none⟩ (.int .i64 a')).setCell ⟨b, 2, none⟩ (.int .i64 s')) b l' a' s' := by
  obtain ⟨h1, h2, h3⟩ := h
  refine ⟨?_, ?_, ?_⟩ <;> simp [go_sem, h1, h2, h3]
theorem After.free {W : World} {a : Addr} (ha : a.block < W.heap.size) (h : W.frozen? a = false) (t : After W) : t.to.frozen? a = false := frz t.is ha h

set_option maxHeartbeats 1000000 in
theorem back_any (l a s : Int) (x : ByteArray) (w : World) (hx : x.size ≤ maxLen) :
    Calls Try.prog 5 #[.agg #[.int .i64 l, .int .i64 a, .int .i64 s], .string x] w fun e w' => e = .returned (.bool true) ∧ Below w.heap.size w w' := by
  obtain ⟨m1, m2⟩ := modN_range l 10 (by omega)
  obtain ⟨m3, m4⟩ := modN_range a 999 (by omega)
  obtain ⟨m5, m6⟩ := modN_range s 1000000 (by omega)
  have hv : vld (modN l 10) (1 + modN a 999) (modN s 1000000) = true := vld_iff.2 (by omega)
  have T := Three.new w l a s 23
  have hW : w.heap.size < (w.alloc (.cells #[.int .i64 l, .int .i64 a, .int .i64 s] 23)).heap.size := by rw [World.size_alloc]; omega
  have f0 := After.free hW (box_free w l a s 23 0)
  have f1 := After.free hW (box_free w l a s 23 1)
  have f2 := After.free hW (box_free w l a s 23 2)
  have c0 := After.cell T.1
  have c1 := After.cell T.2.1
  have c2 := After.cell T.2.2
  clear T hW
  go_enter Try.func5, Try.ntmps5
  go_wp2_with fail
  refine wp_region_after_tail 11 (by kernel_rfl) (by kernel_rfl) ?_
  simp only [List.take_succ_cons, List.take_zero, List.drop_succ_cons, List.drop_zero]
  repeat (go_big_quiet_step ((first | (go_at_call 27; exact After.same (mod_any _ _ _ (by omega) (by omega))))))
  refine wpQuiet_nil ?_
  rintro _ ⟨t, rfl⟩
  have bel := boxed t.is
  have U := Three.stored (show Three t.to w.heap.size l a s from ⟨c0 t, c1 t, c2 t⟩) (modN l 10) (1 + modN a 999) (modN s 1000000)
  have BU := ((bel.setCell (p := ⟨w.heap.size, 0, none⟩) (Nat.le_refl _) (.int .i64 (modN l 10))).setCell (p := ⟨w.heap.size, 1, none⟩) (Nat.le_refl _) (.int .i64 (1 + modN a 999))).setCell (p := ⟨w.heap.size, 2, none⟩) (Nat.le_refl _) (.int .i64 (modN s 1000000))
  have HB := Lib.hid BU
  clear bel BU
  go_wp2_with fail
  refine (format_any _ _ _ _).mono ?_
  rintro e w1 ⟨rfl, hb1⟩
  have U1 := U.keep hb1
  have HB1 := Lib.hid (onward HB.out hb1)
  clear U HB hb1 c0 c1 c2 f0 f1 f2
  go_wp2_with fail
  refine (parse_text hv _).mono ?_
  rintro e w2 ⟨rfl, hb2⟩
  have U2 := U1.keep hb2
  have HB2 := Lib.hid (below_new (onward HB1.out hb2) (.cells #[.int .i64 (modN l 10), .int .i64 (1 + modN a 999), .int .i64 (modN s 1000000)] 23))
  have U3 := U2.alloc (.cells #[.int .i64 (modN l 10), .int .i64 (1 + modN a 999), .int .i64 (modN s 1000000)] 23)
  obtain ⟨c0, c1, c2⟩ := U2
  obtain ⟨d0, d1, d2⟩ := U3
  clear U1 hb2 HB1
  go_wp2_with fail
  refine (valid_any _ _ _ _).mono ?_
  rintro e w3 ⟨rfl, hb3⟩
  have HB3 := Lib.hid (onward HB2.out hb3)
  clear c0 c1 c2 d0 d1 d2 hb3 HB2
  by_cases he : pE x = 0
  · have h0 : (pE x != 0) = false := by rw [he]; rfl
    have HE := Lib.hid he
    clear he
    go_wp2_with fail
    refine (parse_any x _ hx).mono ?_
    rintro e w4 ⟨rfl, hb4⟩
    have HB4 := Lib.hid (below_new (onward HB3.out hb4) (.cells #[.int .i64 (pL x), .int .i64 (pA x), .int .i64 (pS x)] 23))
    clear hb4
    go_wp2_with fail
    refine (format_text HE.out _).mono ?_
    rintro e w5 ⟨rfl, hb5⟩
    have HB5 := Lib.hid (onward HB4.out hb5)
    clear hb5
    go_wp2_with fail
    refine (awake_any _).mono ?_
    rintro e w6 ⟨rfl, hb6⟩
    go_wp2
    go_ret
    exact ⟨rfl, onward HB5.out hb6⟩
  · have h0 : (pE x != 0) = true := by rw [bne_iff_ne]; exact he
    go_wp2_with fail
    refine (parse_any x _ hx).mono ?_
    rintro e w4 ⟨rfl, hb4⟩
    have HB4 := Lib.hid (below_new (onward HB3.out hb4) (.cells #[.int .i64 (pL x), .int .i64 (pA x), .int .i64 (pS x)] 23))
    clear hb4
    go_wp2_with fail
    refine (awake_any _).mono ?_
    rintro e w6 ⟨rfl, hb6⟩
    go_wp2
    go_ret
    exact ⟨rfl, onward HB4.out hb6⟩

theorem back_law (l a s : Int) (_wl : (Lit.int .i64 l).wf = true) (_wa : (Lit.int .i64 a).wf = true) (_ws : (Lit.int .i64 s).wf = true) (x : ByteArray) (hx : x.size ≤ maxLen) (w : World) :
    Calls Try.prog 5 #[.agg #[.int .i64 l, .int .i64 a, .int .i64 s], .string x] w fun e w' => e = .returned (.bool true) ∧ Below w.heap.size w w' := back_any l a s x w hx
end Go.Proofs.Ytaimmohfcjoclaa
