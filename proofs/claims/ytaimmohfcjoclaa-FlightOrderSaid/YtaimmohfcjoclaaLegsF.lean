/-
  FlightLegs: the walk.
-/
import Derived.Test.YtaimmohfcjoclaaBackF
import Derived.Test.YtaimmohfcjoclaaFewL
namespace Go.Proofs.Ytaimmohfcjoclaa
open Go.RowKit

/-- The six cells of a boxed leg. -/
structure Six (w : World) (b : Nat) (c : ByteArray) (n : Int) (s : ByteArray) (d : Int) (p k : ByteArray) : Prop where
  c0 : w.cell? ⟨b, 0, none⟩ = some (.string c)
  c1 : w.cell? ⟨b, 1, none⟩ = some (.int .i64 n)
  c2 : w.cell? ⟨b, 2, none⟩ = some (.string s)
  c3 : w.cell? ⟨b, 3, none⟩ = some (.int .i64 d)
  c4 : w.cell? ⟨b, 4, none⟩ = some (.string p)
  c5 : w.cell? ⟨b, 5, none⟩ = some (.string k)
section
variable {w w1 : World} {b : Nat} {c s p k : ByteArray} {n d : Int}
theorem Six.keep (h : Six w b c n s d p k) (hb : Below w.heap.size w w1) : Six w1 b c n s d p k := ⟨kept hb h.c0, kept hb h.c1, kept hb h.c2, kept hb h.c3, kept hb h.c4, kept hb h.c5⟩
theorem Six.new (w : World) (c : ByteArray) (n : Int) (s : ByteArray) (d : Int) (p k : ByteArray) (t : TypeId) : Six (w.alloc (.cells #[.string c, .int .i64 n, .string s, .int .i64 d, .string p, .string k] t)) w.heap.size c n s d p k := by
  refine ⟨?_, ?_, ?_, ?_, ?_, ?_⟩ <;> simp [go_sem]
theorem Six.alloc (h : Six w b c n s d p k) (o : Obj) : Six (w.alloc o) b c n s d p k := h.keep ((Below.refl _ _).alloc (Nat.le_refl _) o)
theorem Six.grown {B : Nat} (h : Six w b c n s d p k) (hg : w.grownBy w1 (some B)) (hne : some b ≠ some B) : Six w1 b c n s d p k := ⟨hg.cell h.c0 hne, hg.cell h.c1 hne, hg.cell h.c2 hne, hg.cell h.c3 hne, hg.cell h.c4 hne, hg.cell h.c5 hne⟩
theorem Six.other (h : Six w b c n s d p k) {g i : Nat} (hne : b ≠ g) (v : Value) : Six (w.setCell ⟨g, i, none⟩ v) b c n s d p k := by
  obtain ⟨h0, h1, h2, h3, h4, h5⟩ := h
  refine ⟨?_, ?_, ?_, ?_, ?_, ?_⟩ <;> (rw [World.cell?_setCell_other _ _ _ _ (fun e => hne (congrArg Addr.block e).symm)]; assumption)
theorem Six.put0 (h : Six w b c n s d p k) (x : ByteArray) : Six (w.setCell ⟨b, 0, none⟩ (.string x)) b x n s d p k := by
  obtain ⟨h0, h1, h2, h3, h4, h5⟩ := h
  refine ⟨?_, ?_, ?_, ?_, ?_, ?_⟩ <;> simp [go_sem, *]
theorem Six.put1 (h : Six w b c n s d p k) (x : Int) : Six (w.setCell ⟨b, 1, none⟩ (.int .i64 x)) b c x s d p k := by
  obtain ⟨h0, h1, h2, h3, h4, h5⟩ := h
  refine ⟨?_, ?_, ?_, ?_, ?_, ?_⟩ <;> simp [go_sem, *]
theorem Six.put2 (h : Six w b c n s d p k) (x : ByteArray) : Six (w.setCell ⟨b, 2, none⟩ (.string x)) b c n x d p k := by
  obtain ⟨h0, h1, h2, h3, h4, h5⟩ := h
  refine ⟨?_, ?_, ?_, ?_, ?_, ?_⟩ <;> simp [go_sem, *]
theorem Six.put3 (h : Six w b c n s d p k) (x : Int) : Six (w.setCell ⟨b, 3, none⟩ (.int .i64 x)) b c n s x p k := by
  obtain ⟨h0, h1, h2, h3, h4, h5⟩ := h
  refine ⟨?_, ?_, ?_, ?_, ?_, ?_⟩ <;> simp [go_sem, *]
theorem Six.put4 (h : Six w b c n s d p k) (x : ByteArray) : Six (w.setCell ⟨b, 4, none⟩ (.string x)) b c n s d x k := by
  obtain ⟨h0, h1, h2, h3, h4, h5⟩ := h
  refine ⟨?_, ?_, ?_, ?_, ?_, ?_⟩ <;> simp [go_sem, *]
theorem Six.put5 (h : Six w b c n s d p k) (x : ByteArray) : Six (w.setCell ⟨b, 5, none⟩ (.string x)) b c n s d p x := by
  obtain ⟨h0, h1, h2, h3, h4, h5⟩ := h
  refine ⟨?_, ?_, ?_, ?_, ?_, ?_⟩ <;> simp [go_sem, *]
end
theorem IntsIn.alloc {w : World} {A : Option Addr} {n : Nat} (h : IntsIn w.heap.size w A n) (o : Obj) : IntsIn (w.alloc o).heap.size (w.alloc o) A n := fun hn => by
  obtain ⟨g, off, hA, hg, hc⟩ := h hn
  refine ⟨g, off, hA, by rw [World.size_alloc]; omega, fun i hi => ?_⟩
  obtain ⟨x, hx⟩ := hc i hi
  exact ⟨x, by rw [World.cell?_of_block (Below.heap_alloc _ _ _ hg)]; exact hx⟩
theorem few_leg {c s p k : ByteArray} {n d : Int} (h : Few c n s d) (h' : FewP p k) : legB c n s d p k = true := by
  unfold legB
  rw [few_valid h]
  obtain ⟨hp, hk⟩ := h'
  have e1 : portB p = true := by rcases hp with rfl | rfl | rfl <;> decide +kernel
  have e2 : clsB k = true := by rcases hk with rfl | rfl | rfl <;> decide +kernel
  rw [e1, e2]; rfl

set_option maxHeartbeats 4000000 in
theorem flegs_any (q : ByteArray) (gc : ByteArray) (gn : Int) (gs : ByteArray) (gd : Int) (gp gk : ByteArray) (A : Option Addr) (len cap : Nat) (cl : ByteArray) (w : World) (hcap : len ≤ cap) (hA : IntsIn w.heap.size w A len) :
    Calls Try.prog 14 #[.string q, .agg #[.string gc, .int .i64 gn, .string gs, .int .i64 gd, .string gp, .string gk], .slice A len cap, .string cl] w fun e w' => e = .returned (.bool true) ∧ Below w.heap.size w w' := by
  have G := Six.new w gc gn gs gd gp gk 66
  have hA' := hA.alloc (.cells #[.string gc, .int .i64 gn, .string gs, .int .i64 gd, .string gp, .string gk] 66)
  have B0 : Below w.heap.size w (w.alloc (.cells #[.string gc, .int .i64 gn, .string gs, .int .i64 gd, .string gp, .string gk] 66)) := (Below.refl _ _).alloc (Nat.le_refl _) _
  have hz0 : (w.alloc (.cells #[.string gc, .int .i64 gn, .string gs, .int .i64 gd, .string gp, .string gk] 66)).heap.size = w.heap.size + 1 := World.size_alloc _ _
  go_enter Try.func14, Try.ntmps14
  go_wp2_with fail
  generalize w.alloc (.cells #[.string gc, .int .i64 gn, .string gs, .int .i64 gd, .string gp, .string gk] 66) = W0 at *
  refine (new_any A len cap W0 hcap hA').mono ?_
  rintro e w1 ⟨rfl, hs1, hb1⟩
  have G1 := G.keep hb1
  have B1 := onward B0 hb1
  rw [hz0] at hs1
  clear hA hA' G B0
  go_wp2_with fail
  refine (legs_any _ _ _ hs1).mono ?_
  rintro e w2 ⟨c, n, s, d, p, k, rfl, hF, hP, hs2, hg2⟩
  have hl := few_leg hF hP
  have hne : some w.heap.size ≠ some (w.heap.size + 1) := by simp
  have G2 := ((G1.grown hg2 hne).alloc (.cells #[.string c, .int .i64 n, .string s, .int .i64 d, .string p, .string k] 66)).alloc (.cells #[.string c, .int .i64 n, .string s, .int .i64 d, .string p, .string k] 66)
  have B2 := below_new (below_new (below_reads B1 hg2 (by omega) B1.size) (.cells #[.string c, .int .i64 n, .string s, .int .i64 d, .string p, .string k] 66)) (.cells #[.string c, .int .i64 n, .string s, .int .i64 d, .string p, .string k] 66)
  have R2 := ((Rd.start hs2).alloc (.cells #[.string c, .int .i64 n, .string s, .int .i64 d, .string p, .string k] 66)).alloc (.cells #[.string c, .int .i64 n, .string s, .int .i64 d, .string p, .string k] 66)
  have H2 := (Six.new w2 c n s d p k 66).alloc (.cells #[.string c, .int .i64 n, .string s, .int .i64 d, .string p, .string k] 66)
  have I2 := Six.new (w2.alloc (.cells #[.string c, .int .i64 n, .string s, .int .i64 d, .string p, .string k] 66)) c n s d p k 66
  rw [World.size_alloc] at I2
  have fr : ∀ i, ((w2.alloc (.cells #[.string c, .int .i64 n, .string s, .int .i64 d, .string p, .string k] 66)).alloc (.cells #[.string c, .int .i64 n, .string s, .int .i64 d, .string p, .string k] 66)).frozen? ⟨w2.heap.size + 1, i, none⟩ = false := fun i => by simp [go_sem]
  have hsz : ((w2.alloc (.cells #[.string c, .int .i64 n, .string s, .int .i64 d, .string p, .string k] 66)).alloc (.cells #[.string c, .int .i64 n, .string s, .int .i64 d, .string p, .string k] 66)).heap.size = w2.heap.size + 1 + 1 := by rw [World.size_alloc, World.size_alloc]
  have hlt := hs2.lt
  have FR := hide fr
  have HSZ := Lib.hid hsz
  have HB := Lib.hid B2
  have HG2 := Lib.hid G2
  have HH2 := Lib.hid H2
  have HI2 := Lib.hid I2
  have HR2 := Lib.hid R2
  clear hs1 hb1 hs2 G1 B1 fr hsz B2 G2 H2 I2 R2
  go_wp2_with fail
  generalize (w2.alloc (.cells #[.string c, .int .i64 n, .string s, .int .i64 d, .string p, .string k] 66)).alloc (.cells #[.string c, .int .i64 n, .string s, .int .i64 d, .string p, .string k] 66) = W2 at *
  have fr := unhide FR
  have hsz := HSZ.out
  have B2 := HB.out
  have G2 := HG2.out
  have H2 := HH2.out
  have I2 := HI2.out
  have R2 := HR2.out
  clear FR HSZ HB HG2 HH2 HI2 HR2
  refine (n_any _ _ 3 _ R2.src (by omega) (by omega)).mono ?_
  rintro e w3 ⟨x, rfl, hx0, hx1, hs3, hg3⟩
  have n1 : some w2.heap.size ≠ some (w.heap.size + 1) := by simp; omega
  have n2 : some (w2.heap.size + 1) ≠ some (w.heap.size + 1) := by simp; omega
  have G3 := G2.grown hg3 hne
  have H3 := H2.grown hg3 n1
  have I3 := I2.grown hg3 n2
  have B3 := Lib.hid (below_reads B2 hg3 (by omega) B2.size)
  have fr3 : ∀ i, w3.frozen? ⟨w2.heap.size + 1, i, none⟩ = false := fun i => by
    rw [World.frozen?_of_block (hg3.block (w2.heap.size + 1) (by omega) n2)]; exact fr i
  have hw : w.heap.size ≤ w2.heap.size := by omega
  clear G2 H2 I2 B2 R2 fr hsz hs3 hg3 hg2
  have f0 := fr3 0
  have f1 := fr3 1
  have f2 := fr3 2
  have f3 := fr3 3
  have f4 := fr3 4
  have f5 := fr3 5
  clear fr3
  have hh := fun W => leg_any c n s d p k W
  rw [hl] at hh
  have HH := hide hh
  clear hh
  have hx : x = 0 ∨ x = 1 ∨ x = 2 := by omega
  clear hx0 hx1
  obtain ⟨i0, i1, i2, i3, i4, i5⟩ := id I3
  obtain ⟨g0, g1, g2, g3, g4, g5⟩ := id G3
  rcases hx with rfl | rfl | rfl
  · have G4 := (G3.other (g := w2.heap.size + 1) (i := 5) (by omega) (.string cl))
    have H4 := (H3.other (g := w2.heap.size + 1) (i := 5) (by omega) (.string cl))
    have I4 := (I3.put5 cl)
    have B4 := Lib.hid (B3.out.setCell (p := ⟨w2.heap.size + 1, 5, none⟩) (by show w.heap.size ≤ w2.heap.size + 1; omega) (.string cl))
    clear G3 H3 I3 B3
    go_wp2_with fail
    generalize (w3.setCell ⟨w2.heap.size + 1, 5, none⟩ (.string cl)) = V at *
    clear i0 i1 i2 i3 i4 i5 g0 g1 g2 g3 g4 g5 f0 f1 f2 f3 f4 f5
    obtain ⟨i0, i1, i2, i3, i4, i5⟩ := I4
    obtain ⟨h0, h1, h2, h3, h4, h5⟩ := H4
    obtain ⟨g0, g1, g2, g3, g4, g5⟩ := G4
    replace i0 := After.cell i0
    replace i1 := After.cell i1
    replace i2 := After.cell i2
    replace i3 := After.cell i3
    replace i4 := After.cell i4
    replace i5 := After.cell i5
    replace h0 := After.cell h0
    replace h1 := After.cell h1
    replace h2 := After.cell h2
    replace h3 := After.cell h3
    replace h4 := After.cell h4
    replace h5 := After.cell h5
    replace g0 := After.cell g0
    replace g1 := After.cell g1
    replace g2 := After.cell g2
    replace g3 := After.cell g3
    replace g4 := After.cell g4
    replace g5 := After.cell g5
    refine wp_region_after (by kernel_rfl) (by kernel_rfl) ?_
    repeat (go_big_quiet_step ((first
      | (go_at_call 54; exact After.same (port_any _ _))
      | (go_at_call 55; exact After.same (rport_any _ _))
      | (go_at_call 56; (first | (with_reducible exact After.call (unhide HH _)) | (with_reducible exact After.call (leg_any _ _ _ _ _ _ _))))
      | (go_at_call 57; exact After.call (rleg_any _ _ _ _ _ _ _))
      | (go_at_call 41; exact After.call (fawake_any _)))))
    refine wpQuiet_nil ?_
    rintro _ ⟨t, rfl⟩
    clear i0 i1 i2 i3 i4 i5 g0 g1 g2 g3 g4 g5 h0 h1 h2 h3 h4 h5
    go_wp2
    go_ret
    exact ⟨rfl, onward B4.out t.is⟩
  · have G4 := (G3.other (g := w2.heap.size + 1) (i := 4) (by omega) (.string q))
    have H4 := (H3.other (g := w2.heap.size + 1) (i := 4) (by omega) (.string q))
    have I4 := (I3.put4 q)
    have B4 := Lib.hid (B3.out.setCell (p := ⟨w2.heap.size + 1, 4, none⟩) (by show w.heap.size ≤ w2.heap.size + 1; omega) (.string q))
    clear G3 H3 I3 B3
    go_wp2_with fail
    generalize (w3.setCell ⟨w2.heap.size + 1, 4, none⟩ (.string q)) = V at *
    clear i0 i1 i2 i3 i4 i5 g0 g1 g2 g3 g4 g5 f0 f1 f2 f3 f4 f5
    obtain ⟨i0, i1, i2, i3, i4, i5⟩ := I4
    obtain ⟨h0, h1, h2, h3, h4, h5⟩ := H4
    obtain ⟨g0, g1, g2, g3, g4, g5⟩ := G4
    replace i0 := After.cell i0
    replace i1 := After.cell i1
    replace i2 := After.cell i2
    replace i3 := After.cell i3
    replace i4 := After.cell i4
    replace i5 := After.cell i5
    replace h0 := After.cell h0
    replace h1 := After.cell h1
    replace h2 := After.cell h2
    replace h3 := After.cell h3
    replace h4 := After.cell h4
    replace h5 := After.cell h5
    replace g0 := After.cell g0
    replace g1 := After.cell g1
    replace g2 := After.cell g2
    replace g3 := After.cell g3
    replace g4 := After.cell g4
    replace g5 := After.cell g5
    refine wp_region_after (by kernel_rfl) (by kernel_rfl) ?_
    repeat (go_big_quiet_step ((first
      | (go_at_call 54; exact After.same (port_any _ _))
      | (go_at_call 55; exact After.same (rport_any _ _))
      | (go_at_call 56; (first | (with_reducible exact After.call (unhide HH _)) | (with_reducible exact After.call (leg_any _ _ _ _ _ _ _))))
      | (go_at_call 57; exact After.call (rleg_any _ _ _ _ _ _ _))
      | (go_at_call 41; exact After.call (fawake_any _)))))
    refine wpQuiet_nil ?_
    rintro _ ⟨t, rfl⟩
    clear i0 i1 i2 i3 i4 i5 g0 g1 g2 g3 g4 g5 h0 h1 h2 h3 h4 h5
    go_wp2
    go_ret
    exact ⟨rfl, onward B4.out t.is⟩
  · have G4 := ((((G3.other (g := w2.heap.size + 1) (i := 0) (by omega) (.string gc)).other (g := w2.heap.size + 1) (i := 1) (by omega) (.int .i64 gn)).other (g := w2.heap.size + 1) (i := 2) (by omega) (.string gs)).other (g := w2.heap.size + 1) (i := 3) (by omega) (.int .i64 gd))
    have H4 := ((((H3.other (g := w2.heap.size + 1) (i := 0) (by omega) (.string gc)).other (g := w2.heap.size + 1) (i := 1) (by omega) (.int .i64 gn)).other (g := w2.heap.size + 1) (i := 2) (by omega) (.string gs)).other (g := w2.heap.size + 1) (i := 3) (by omega) (.int .i64 gd))
    have I4 := ((((I3.put0 gc).put1 gn).put2 gs).put3 gd)
    have B4 := Lib.hid ((((B3.out.setCell (p := ⟨w2.heap.size + 1, 0, none⟩) (by show w.heap.size ≤ w2.heap.size + 1; omega) (.string gc)).setCell (p := ⟨w2.heap.size + 1, 1, none⟩) (by show w.heap.size ≤ w2.heap.size + 1; omega) (.int .i64 gn)).setCell (p := ⟨w2.heap.size + 1, 2, none⟩) (by show w.heap.size ≤ w2.heap.size + 1; omega) (.string gs)).setCell (p := ⟨w2.heap.size + 1, 3, none⟩) (by show w.heap.size ≤ w2.heap.size + 1; omega) (.int .i64 gd))
    clear G3 H3 I3 B3
    go_wp2_with fail
    generalize ((((w3.setCell ⟨w2.heap.size + 1, 0, none⟩ (.string gc)).setCell ⟨w2.heap.size + 1, 1, none⟩ (.int .i64 gn)).setCell ⟨w2.heap.size + 1, 2, none⟩ (.string gs)).setCell ⟨w2.heap.size + 1, 3, none⟩ (.int .i64 gd)) = V at *
    clear i0 i1 i2 i3 i4 i5 g0 g1 g2 g3 g4 g5 f0 f1 f2 f3 f4 f5
    obtain ⟨i0, i1, i2, i3, i4, i5⟩ := I4
    obtain ⟨h0, h1, h2, h3, h4, h5⟩ := H4
    obtain ⟨g0, g1, g2, g3, g4, g5⟩ := G4
    replace i0 := After.cell i0
    replace i1 := After.cell i1
    replace i2 := After.cell i2
    replace i3 := After.cell i3
    replace i4 := After.cell i4
    replace i5 := After.cell i5
    replace h0 := After.cell h0
    replace h1 := After.cell h1
    replace h2 := After.cell h2
    replace h3 := After.cell h3
    replace h4 := After.cell h4
    replace h5 := After.cell h5
    replace g0 := After.cell g0
    replace g1 := After.cell g1
    replace g2 := After.cell g2
    replace g3 := After.cell g3
    replace g4 := After.cell g4
    replace g5 := After.cell g5
    refine wp_region_after (by kernel_rfl) (by kernel_rfl) ?_
    repeat (go_big_quiet_step ((first
      | (go_at_call 54; exact After.same (port_any _ _))
      | (go_at_call 55; exact After.same (rport_any _ _))
      | (go_at_call 56; (first | (with_reducible exact After.call (unhide HH _)) | (with_reducible exact After.call (leg_any _ _ _ _ _ _ _))))
      | (go_at_call 57; exact After.call (rleg_any _ _ _ _ _ _ _))
      | (go_at_call 41; exact After.call (fawake_any _)))))
    refine wpQuiet_nil ?_
    rintro _ ⟨t, rfl⟩
    clear i0 i1 i2 i3 i4 i5 g0 g1 g2 g3 g4 g5 h0 h1 h2 h3 h4 h5
    go_wp2
    go_ret
    exact ⟨rfl, onward B4.out t.is⟩

theorem flegs_law (q : ByteArray) (_wq : q.size ≤ maxLen) (gc : ByteArray) (gn : Int) (gs : ByteArray) (gd : Int) (gp gk : ByteArray) (_w0 : gc.size ≤ maxLen) (_w1 : (Lit.int .i64 gn).wf = true) (_w2 : gs.size ≤ maxLen) (_w3 : (Lit.int .i64 gd).wf = true) (_w4 : gp.size ≤ maxLen) (_w5 : gk.size ≤ maxLen)
    (A : Option Addr) (len cap : Nat) (hcap : len ≤ cap) {w : World} (hA : IntsIn w.heap.size w A len) (cl : ByteArray) (_wcl : cl.size ≤ maxLen) :
    Calls Try.prog 14 #[.string q, .agg #[.string gc, .int .i64 gn, .string gs, .int .i64 gd, .string gp, .string gk], .slice A len cap, .string cl] w fun e w' => e = .returned (.bool true) ∧ Below w.heap.size w w' := flegs_any q gc gn gs gd gp gk A len cap cl w hcap hA
end Go.Proofs.Ytaimmohfcjoclaa
