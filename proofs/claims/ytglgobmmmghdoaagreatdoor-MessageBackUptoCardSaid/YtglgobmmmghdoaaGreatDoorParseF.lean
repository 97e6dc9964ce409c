/-
  Contract of Parse of a flight (the program's).
-/
import Derived.Test.YtglgobmmmghdoaaGreatDoorLibF
namespace Go.Proofs.YtglgobmmmghdoaaGreatDoor
open Go.RowKit

/-- What a call of Parse has come to. -/
def ParsedF (s : ByteArray) (w : World) (e : Ending) (w' : World) : Prop :=
  e = .returned (.tuple #[.agg #[.string (fC s), .int .i64 (fN s), .string (fS s), .int .i64 (fD s)], .int .i64 (fE s)]) ∧ Below w.heap.size w w'
theorem ParsedF.mk {s c x : ByteArray} {w w' : World} {n d e : Int} (h : fC s = c ∧ fN s = n ∧ fS s = x ∧ fD s = d ∧ fE s = e) (hb : Below w.heap.size w w') :
    ParsedF s w (.returned (.tuple #[.agg #[.string c, .int .i64 n, .string x, .int .i64 d], .int .i64 e])) w' := by
  obtain ⟨rfl, rfl, rfl, rfl, rfl⟩ := h
  exact ⟨rfl, hb⟩

/-- The cells of a new box, in a later world, and that they may be written. -/
theorem new_cells {w w1 : World} {c x : ByteArray} {n d : Int} {t : TypeId} (hb : Below (w.alloc (.cells #[.string c, .int .i64 n, .string x, .int .i64 d] t)).heap.size (w.alloc (.cells #[.string c, .int .i64 n, .string x, .int .i64 d] t)) w1) :
    Four w1 w.heap.size c n x d ∧ (w1.frozen? ⟨w.heap.size, 0, none⟩ = false ∧ w1.frozen? ⟨w.heap.size, 1, none⟩ = false ∧ w1.frozen? ⟨w.heap.size, 2, none⟩ = false ∧ w1.frozen? ⟨w.heap.size, 3, none⟩ = false) ∧ Below w.heap.size w w1 ∧ w.heap.size < w1.heap.size := by
  have hs := hb.size
  refine ⟨(Four.new w c n x d t).keep hb, ⟨?_, ?_, ?_, ?_⟩, boxed hb, ?_⟩
  any_goals exact frz hb (by simp only [World.size_alloc]; omega) (by simp [go_sem])
  simp at hs; omega
theorem Below.set4 {B : Nat} {w w1 : World} (h : Below B w w1) {b : Nat} (hb : B ≤ b) (v0 v1 v2 v3 : Value) : Below B w ((((w1.setCell ⟨b, 0, none⟩ v0).setCell ⟨b, 1, none⟩ v1).setCell ⟨b, 2, none⟩ v2).setCell ⟨b, 3, none⟩ v3) :=
  (((h.setCell hb _).setCell hb _).setCell hb _).setCell hb _

set_option maxHeartbeats 2000000 in
theorem fparse_none (s : ByteArray) (w : World) (h : cutI s = -1) :
    Calls Tryz.prog 79 #[.string s] w (ParsedF s w) := by
  have H := Lib.hid (f_no (noform_none h))
  by_cases h6 : (s.size : Int) < 6
  all_goals
    go_enter Tryz.func79, Tryz.ntmps79
    go_wp2_with (go_at_call 29; refine (cut_miss s _ h).mono ?_; rintro e w1 ⟨rfl, hb1⟩; obtain ⟨⟨c0, c1, c2, c3⟩, ⟨f0, f1, f2, f3⟩, hb, hz⟩ := new_cells hb1; have HB1 := Lib.hid hb; clear hb hb1)
    refine bodyPost_ret (v := .tuple #[.agg #[.string ByteArray.empty, .int .i64 0, .string ByteArray.empty, .int .i64 0], .int .i64 3]) (by simp [results, go_sem, c0, c1, c2, c3]; rfl) rfl ?_
    exact ParsedF.mk H.out (Below.set4 HB1.out (Nat.le_refl _) _ _ _ _)

/-- Cut at the slash. -/
def CutsTo (s D G : ByteArray) : Prop := ∀ W : World, Calls Tryz.prog 29 #[.string s, .string ⟨#[47]⟩] W fun e w' => e = .returned (.tuple #[.string D, .string G, .bool true]) ∧ Below W.heap.size W w'

set_option maxHeartbeats 2000000 in
theorem fparse_short (s D G : ByteArray) (w : World) (hc : CutsTo s D G) (H : Hid (fC s = ByteArray.empty ∧ fN s = 0 ∧ fS s = ByteArray.empty ∧ fD s = 0 ∧ fE s = 3)) (hd : D.size < 6 ∨ 6 ≤ D.size ∧ G.size ≠ 2) :
    Calls Tryz.prog 79 #[.string s] w (ParsedF s w) := by
  rcases hd with h6 | ⟨h6, h2⟩
  · have i6 : (D.size : Int) < 6 := by omega
    go_enter Tryz.func79, Tryz.ntmps79
    go_wp2_with (go_at_call 29; refine (hc _).mono ?_; rintro e w1 ⟨rfl, hb1⟩; obtain ⟨⟨c0, c1, c2, c3⟩, ⟨f0, f1, f2, f3⟩, hb, hz⟩ := new_cells hb1; have HB1 := Lib.hid hb; clear hb hb1)
    refine bodyPost_ret (v := .tuple #[.agg #[.string ByteArray.empty, .int .i64 0, .string ByteArray.empty, .int .i64 0], .int .i64 3]) (by simp [results, go_sem, c0, c1, c2, c3]; rfl) rfl ?_
    exact ParsedF.mk H.out (Below.set4 HB1.out (Nat.le_refl _) _ _ _ _)
  · have i6 : ¬ (D.size : Int) < 6 := by omega
    have i2 : ((G.size : Int) != 2) = true := by rw [bne_iff_ne]; omega
    go_enter Tryz.func79, Tryz.ntmps79
    go_wp2_with (go_at_call 29; refine (hc _).mono ?_; rintro e w1 ⟨rfl, hb1⟩; obtain ⟨⟨c0, c1, c2, c3⟩, ⟨f0, f1, f2, f3⟩, hb, hz⟩ := new_cells hb1; have HB1 := Lib.hid hb; clear hb hb1)
    refine bodyPost_ret (v := .tuple #[.agg #[.string ByteArray.empty, .int .i64 0, .string ByteArray.empty, .int .i64 0], .int .i64 3]) (by simp [results, go_sem, c0, c1, c2, c3]; rfl) rfl ?_
    exact ParsedF.mk H.out (Below.set4 HB1.out (Nat.le_refl _) _ _ _ _)

/-- The result's cells and those of the flight that is read. -/
structure PF (w V : World) (b : Nat) (c : ByteArray) (n : Int) (x : ByteArray) (d : Int) : Prop where
  bel : Below w.heap.size w V
  ne : w.heap.size < b
  lt : b < V.heap.size
  ret : Four V w.heap.size ByteArray.empty 0 ByteArray.empty 0
  retf : V.frozen? ⟨w.heap.size, 0, none⟩ = false ∧ V.frozen? ⟨w.heap.size, 1, none⟩ = false ∧ V.frozen? ⟨w.heap.size, 2, none⟩ = false ∧ V.frozen? ⟨w.heap.size, 3, none⟩ = false
  loc : Four V b c n x d
  locf : V.frozen? ⟨b, 1, none⟩ = false ∧ V.frozen? ⟨b, 3, none⟩ = false
theorem PF.start {w w1 : World} (h1 : Below w.heap.size w w1) (h2 : w.heap.size < w1.heap.size) (h3 : Four w1 w.heap.size ByteArray.empty 0 ByteArray.empty 0)
    (h4 : w1.frozen? ⟨w.heap.size, 0, none⟩ = false ∧ w1.frozen? ⟨w.heap.size, 1, none⟩ = false ∧ w1.frozen? ⟨w.heap.size, 2, none⟩ = false ∧ w1.frozen? ⟨w.heap.size, 3, none⟩ = false)
    (c : ByteArray) (n : Int) (x : ByteArray) (d : Int) (t : TypeId) : PF w (w1.alloc (.cells #[.string c, .int .i64 n, .string x, .int .i64 d] t)).drew w1.heap.size c n x d := by
  have hb : Below w1.heap.size w1 (w1.alloc (.cells #[.string c, .int .i64 n, .string x, .int .i64 d] t)).drew := ((Below.refl _ _).alloc (Nat.le_refl _) _).drew
  refine ⟨onward h1 hb, h2, by simp, h3.keep hb, ⟨?_, ?_, ?_, ?_⟩, (Four.new w1 c n x d t).drew, ⟨?_, ?_⟩⟩
  · exact frz hb h2 h4.1
  · exact frz hb h2 h4.2.1
  · exact frz hb h2 h4.2.2.1
  · exact frz hb h2 h4.2.2.2
  · simp [go_sem]
  · simp [go_sem]
theorem PF.store {w V : World} {b : Nat} {c x : ByteArray} {n d : Int} (h : PF w V b c n x d) (n' d' : Int) : PF w ((V.setCell ⟨b, 1, none⟩ (.int .i64 n')).setCell ⟨b, 3, none⟩ (.int .i64 d')) b c n' x d' := by
  obtain ⟨h1, h2, h3, ⟨r0, r1, r2, r3⟩, ⟨f0, f1, f2, f3⟩, ⟨l0, l1, l2, l3⟩, ⟨g1, g3⟩⟩ := h
  have ne : w.heap.size ≠ b := by omega
  refine ⟨(h1.setCell (by show w.heap.size ≤ b; omega) _).setCell (by show w.heap.size ≤ b; omega) _, h2, by simpa [World.setCell] using h3, ⟨?_, ?_, ?_, ?_⟩, ⟨?_, ?_, ?_, ?_⟩, ⟨?_, ?_, ?_, ?_⟩, ⟨?_, ?_⟩⟩
  all_goals simp [go_sem, *]
theorem PF.keep {w V V' : World} {b : Nat} {c x : ByteArray} {n d : Int} (h : PF w V b c n x d) (hb : Below V.heap.size V V') : PF w V' b c n x d := by
  obtain ⟨h1, h2, h3, h4, ⟨f0, f1, f2, f3⟩, h6, ⟨g1, g3⟩⟩ := h
  have hw : w.heap.size < V.heap.size := by omega
  exact ⟨onward h1 hb, h2, Nat.lt_of_lt_of_le h3 hb.size, h4.keep hb, ⟨frz hb hw f0, frz hb hw f1, frz hb hw f2, frz hb hw f3⟩, h6.keep hb, ⟨frz hb h3 g1, frz hb h3 g3⟩⟩

set_option maxHeartbeats 2000000 in
theorem fparse_bad (s D G : ByteArray) (w : World) (hc : CutsTo s D G) (H : Hid (fC s = ByteArray.empty ∧ fN s = 0 ∧ fS s = ByteArray.empty ∧ fD s = 0 ∧ fE s = 3)) (h6 : 6 ≤ D.size) (h2 : G.size = 2)
    (hd : (carB (D.extract 0 2) && (numB (D.extract 2 6) && (sufB (D.extract 6 D.size) && numB G))) = false) :
    Calls Tryz.prog 79 #[.string s] w (ParsedF s w) := by
  have i6 : (6 : Int) ≤ (D.size : Int) := by omega
  have i5 : (2 : Int) ≤ (D.size : Int) := by omega
  have i2 : ((G.size : Int) != 2) = false := by rw [bne_eq_false_iff_eq]; omega
  have HD := Lib.hid hd
  clear hd
  go_enter Tryz.func79, Tryz.ntmps79
  go_wp2_with (go_at_call 29; refine (hc _).mono ?_; rintro e w1 ⟨rfl, hb1⟩; obtain ⟨r4, f4, hb, hz⟩ := new_cells hb1)
  have P := PF.start hb hz r4 f4 (D.extract 0 2) 0 (D.extract 6 D.size) 0 28
  clear hb1 r4 f4 hb hz
  go_region_held3 (fun _ => True) (trivial) (fail)
  all_goals
    generalize (w1.alloc (.cells #[.string (D.extract 0 2), .int .i64 0, .string (D.extract 6 D.size), .int .i64 0] 28)).drew = V at *
    generalize w1.heap.size = B at *
    obtain ⟨hb, hz, hl, ⟨c0, c1, c2, c3⟩, ⟨f0, f1, f2, f3⟩, ⟨k0, k1, k2, k3⟩, ⟨g1, g3⟩⟩ := P
    have HB1 := Lib.hid hb
    clear hb
    have hd := HD.out
    cases b1 : carB (D.extract 0 2) <;> cases b2 : numB (D.extract 2 6) <;> cases b3 : sufB (D.extract 6 D.size) <;> cases b4 : numB G
    all_goals first
      | (rw [b1, b2, b3, b4] at hd; exact absurd hd (by decide))
      | (clear hd
         go_wp2_with (first
           | (go_at_call 78; refine (value_any _ _).mono ?_; rintro e w2 ⟨rfl, rfl⟩)
           | (go_at_call 94; refine (carrier_any _ _).mono ?_; rintro e w2 ⟨rfl, rfl⟩)
           | (go_at_call 95; refine (suffix_any _ _).mono ?_; rintro e w2 ⟨rfl, rfl⟩))
         refine bodyPost_ret (v := .tuple #[.agg #[.string ByteArray.empty, .int .i64 0, .string ByteArray.empty, .int .i64 0], .int .i64 3]) (by simp [results, go_sem, c0, c1, c2, c3]; rfl) rfl ?_
         exact ParsedF.mk H.out (Below.set4 HB1.out (Nat.le_refl _) _ _ _ _))

set_option maxHeartbeats 2000000 in
theorem fparse_good (s D G : ByteArray) (w : World) (hc : CutsTo s D G) (h6 : 6 ≤ D.size) (h2 : G.size = 2) (b1 : carB (D.extract 0 2) = true) (b2 : numB (D.extract 2 6) = true) (b3 : sufB (D.extract 6 D.size) = true) (b4 : numB G = true)
    {x : Bool} (hv : fvl (D.extract 0 2) (numV (D.extract 2 6)) (D.extract 6 D.size) (numV G) = x) {rc rx : ByteArray} {rn rd re : Int} (H : Hid (fC s = rc ∧ fN s = rn ∧ fS s = rx ∧ fD s = rd ∧ fE s = re))
    (hr : x = true ∧ rc = D.extract 0 2 ∧ rn = numV (D.extract 2 6) ∧ rx = D.extract 6 D.size ∧ rd = numV G ∧ re = 0 ∨ x = false ∧ rc = ByteArray.empty ∧ rn = 0 ∧ rx = ByteArray.empty ∧ rd = 0 ∧ re = 1) :
    Calls Tryz.prog 79 #[.string s] w (ParsedF s w) := by
  have i6 : (6 : Int) ≤ (D.size : Int) := by omega
  have i5 : (2 : Int) ≤ (D.size : Int) := by omega
  have i2 : ((G.size : Int) != 2) = false := by rw [bne_eq_false_iff_eq]; omega
  have hV : ∀ W, Calls Tryz.prog 86 #[.agg #[.string (D.extract 0 2), .int .i64 (numV (D.extract 2 6)), .string (D.extract 6 D.size), .int .i64 (numV G)]] W fun e w' => e = .returned (.bool x) ∧ Below W.heap.size W w' := fun W => by rw [← hv]; exact fvalid_any _ _ _ _ W
  have HV := hide hV
  clear hV hv
  go_enter Tryz.func79, Tryz.ntmps79
  go_wp2_with (go_at_call 29; refine (hc _).mono ?_; rintro e w1 ⟨rfl, hb1⟩; obtain ⟨r4, f4, hb, hz⟩ := new_cells hb1)
  have P := PF.start hb hz r4 f4 (D.extract 0 2) 0 (D.extract 6 D.size) 0 28
  clear hb1 r4 f4 hb hz
  go_region_held3 (fun _ => True) (trivial) (fail)
  all_goals
    generalize (w1.alloc (.cells #[.string (D.extract 0 2), .int .i64 0, .string (D.extract 6 D.size), .int .i64 0] 28)).drew = V at *
    generalize w1.heap.size = B at *
    have Q := P.store (numV (D.extract 2 6)) (numV G)
    obtain ⟨hb, hz, hl, ⟨c0, c1, c2, c3⟩, ⟨f0, f1, f2, f3⟩, ⟨k0, k1, k2, k3⟩, ⟨g1, g3⟩⟩ := P
    clear hb hz c0 c1 c2 c3 f0 f1 f2 f3
    go_wp2_with (first
      | (go_at_call 78; refine (value_any _ _).mono ?_; rintro e w2 ⟨rfl, rfl⟩)
      | (go_at_call 94; refine (carrier_any _ _).mono ?_; rintro e w2 ⟨rfl, rfl⟩)
      | (go_at_call 95; refine (suffix_any _ _).mono ?_; rintro e w2 ⟨rfl, rfl⟩))
    generalize (V.setCell ⟨B, 1, none⟩ (.int .i64 (numV (D.extract 2 6)))).setCell ⟨B, 3, none⟩ (.int .i64 (numV G)) = U at *
    clear k0 k1 k2 k3 g1 g3 hl
    refine (unhide HV _).mono ?_
    rintro e w2 ⟨rfl, hb2⟩
    have R := Q.keep hb2
    clear Q hb2
    obtain ⟨hb, _, _, ⟨c0, c1, c2, c3⟩, ⟨f0, f1, f2, f3⟩, ⟨k0, k1, k2, k3⟩, _⟩ := R
    have HB1 := Lib.hid hb
    clear hb
    rcases hr with ⟨rfl, rfl, rfl, rfl, rfl, rfl⟩ | ⟨rfl, rfl, rfl, rfl, rfl, rfl⟩
    · go_wp2
      refine bodyPost_ret (v := .tuple #[.agg #[.string (D.extract 0 2), .int .i64 (numV (D.extract 2 6)), .string (D.extract 6 D.size), .int .i64 (numV G)], .int .i64 0]) (by simp [results, go_sem, c0, c1, c2, c3]) rfl ?_
      exact ParsedF.mk H.out (Below.set4 HB1.out (Nat.le_refl _) _ _ _ _)
    · go_wp2
      refine bodyPost_ret (v := .tuple #[.agg #[.string ByteArray.empty, .int .i64 0, .string ByteArray.empty, .int .i64 0], .int .i64 1]) (by simp [results, go_sem, c0, c1, c2, c3]; rfl) rfl ?_
      exact ParsedF.mk H.out (Below.set4 HB1.out (Nat.le_refl _) _ _ _ _)

theorem fparse_any (s : ByteArray) (w : World) (hs : s.size ≤ maxLen) : Calls Tryz.prog 79 #[.string s] w (ParsedF s w) := by
  rcases cutI_cases s with h | ⟨k, h, hk⟩
  · exact fparse_none s w h
  · have hc : CutsTo s (s.extract 0 k) (s.extract (k + 1) s.size) := fun W => cut_hit s k W hs h hk
    cases hf : fForm s with
    | false =>
      have H := Lib.hid (f_no hf)
      have hd : dForm (s.extract 0 k) (s.extract (k + 1) s.size) = false := by
        cases e : dForm (s.extract 0 k) (s.extract (k + 1) s.size) with
        | false => rfl
        | true => rw [cut_form h hk e] at hf; cases hf
      by_cases a : 6 ≤ (s.extract 0 k).size ∧ (s.extract (k + 1) s.size).size = 2
      · refine fparse_bad s _ _ w hc H a.1 a.2 ?_
        unfold dForm at hd
        rw [decide_eq_true a, Bool.true_and] at hd
        exact hd
      · exact fparse_short s _ _ w hc H (by omega)
    | true =>
      have hk2 := fForm_cut hf
      obtain ⟨h1, h2, h3, h4, h5, h6⟩ := fForm_iff.1 hf
      have ek : k = s.size - 3 := by omega
      subst ek
      have e1 : (s.extract 0 (s.size - 3)).extract 0 2 = fC0 s := cut_ext s _ 0 2 (by omega)
      have e2 : (s.extract 0 (s.size - 3)).extract 2 6 = s.extract 2 6 := cut_ext s _ 2 6 (by omega)
      have ez : (s.extract 0 (s.size - 3)).size = s.size - 3 := by rw [size_ext]; omega
      have e3 : (s.extract 0 (s.size - 3)).extract 6 (s.extract 0 (s.size - 3)).size = fS0 s := by rw [ez]; exact cut_ext s _ 6 _ (by omega)
      have e4 : s.extract (s.size - 3 + 1) s.size = s.extract (s.size - 2) s.size := by rw [show s.size - 3 + 1 = s.size - 2 by omega]
      have n2 : numB (s.extract 2 6) = true := by rw [numB_of (by rw [size_ext]; omega)]; exact h4
      have n4 : numB (s.extract (s.size - 2) s.size) = true := by rw [numB_of (by rw [size_ext]; omega)]; exact h6
      have v2 : numV (s.extract 2 6) = fN0 s := numV_yes n2
      have v4 : numV (s.extract (s.size - 2) s.size) = fD0 s := numV_yes n4
      have hv := fvl_form hf
      by_cases hn : fN0 s = 0
      · rw [hn] at hv
        exact fparse_good s _ _ w hc (by omega) (by rw [size_ext]; omega) (by rw [e1]; exact h3) (by rw [e2]; exact n2) (by rw [e3]; exact h5) (by rw [e4]; exact n4)
          (x := false) (by rw [e1, e2, e3, e4, v2, v4, hn]; exact hv) (Lib.hid (f_range hf hn)) (.inr ⟨rfl, rfl, rfl, rfl, rfl, rfl⟩)
      · rw [decide_eq_true hn] at hv
        exact fparse_good s _ _ w hc (by omega) (by rw [size_ext]; omega) (by rw [e1]; exact h3) (by rw [e2]; exact n2) (by rw [e3]; exact h5) (by rw [e4]; exact n4)
          (x := true) (by rw [e1, e2, e3, e4, v2, v4]; exact hv) (Lib.hid (f_yes hf hn)) (.inl ⟨rfl, e1.symm, by rw [e2, v2], e3.symm, by rw [e4, v4], rfl⟩)
end Go.Proofs.YtglgobmmmghdoaaGreatDoor
