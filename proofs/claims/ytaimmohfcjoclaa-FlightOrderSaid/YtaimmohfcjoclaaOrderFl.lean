/-
  FlightOrder: the walk.
-/
import Derived.Test.YtaimmohfcjoclaaLegsF
import Derived.Test.YtaimmohfcjoclaaCmpF
import Derived.Test.YtaimmohfcjoclaaMathI
namespace Go.Proofs.Ytaimmohfcjoclaa
open Go.RowKit

theorem sgn_self (a : Int) : sgn a a = 0 := by unfold sgn; simp
/-- What the comparisons of three flights come to. -/
theorem three_cmp {c1 s1 c2 s2 c3 s3 : ByteArray} {n1 d1 n2 d2 n3 d3 : Int} (h1 : Few c1 n1 s1 d1) (h2 : Few c2 n2 s2 d2) (h3 : Few c3 n3 s3 d3) :
    ∃ x y z : Int, cmpF c1 n1 s1 d1 c2 n2 s2 d2 = x ∧ cmpF c2 n2 s2 d2 c1 n1 s1 d1 = -x ∧ cmpF c2 n2 s2 d2 c3 n3 s3 d3 = y ∧ cmpF c1 n1 s1 d1 c3 n3 s3 d3 = z ∧
      ((x = 0 ∧ c1 = c2 ∧ n1 = n2 ∧ s1 = s2 ∧ d1 = d2) ∨ ((x = -1 ∨ x = 1) ∧ ¬ (c1 = c2 ∧ n1 = n2 ∧ s1 = s2 ∧ d1 = d2))) ∧ (y = -1 ∨ y = 0 ∨ y = 1) ∧ (x = 1 ∨ y = 1 ∨ z ≤ 0) := by
  obtain ⟨a, a'⟩ := few_cmp h1 h2
  obtain ⟨b, _⟩ := few_cmp h2 h1
  obtain ⟨c, _⟩ := few_cmp h2 h3
  obtain ⟨d, _⟩ := few_cmp h1 h3
  have nn : c1 = c2 ∧ n1 = n2 ∧ s1 = s2 ∧ d1 = d2 → key c1 n1 s1 d1 = key c2 n2 s2 d2 := by rintro ⟨rfl, rfl, rfl, rfl⟩; rfl
  refine ⟨_, _, _, rfl, ?_, rfl, rfl, ?_, ?_, ?_⟩
  all_goals
    try rw [a]
    generalize key c1 n1 s1 d1 = k1 at *
    generalize key c2 n2 s2 d2 = k2 at *
  · rw [b]; unfold sgn; repeat' split
    all_goals omega
  · by_cases e : k1 = k2
    · left; exact ⟨by rw [e]; exact sgn_self _, a' e⟩
    · right; refine ⟨?_, fun h => e (nn h)⟩
      unfold sgn; repeat' split
      all_goals omega
  · rw [c]; unfold sgn; repeat' split
    all_goals omega
  · rw [c, d]; unfold sgn; repeat' split
    all_goals omega

/-- Three boxed flights, in a later world. -/
structure Tri (w0 W : World) (b1 b2 b3 : Nat) (c1 : ByteArray) (n1 : Int) (s1 : ByteArray) (d1 : Int) (c2 : ByteArray) (n2 : Int) (s2 : ByteArray) (d2 : Int) (c3 : ByteArray) (n3 : Int) (s3 : ByteArray) (d3 : Int) : Prop where
  bel : Below w0.heap.size w0 W
  one : Four W b1 c1 n1 s1 d1
  two : Four W b2 c2 n2 s2 d2
  three : Four W b3 c3 n3 s3 d3
theorem Tri.step {w0 W W' : World} {b1 b2 b3 : Nat} {c1 s1 c2 s2 c3 s3 : ByteArray} {n1 d1 n2 d2 n3 d3 : Int} (h : Tri w0 W b1 b2 b3 c1 n1 s1 d1 c2 n2 s2 d2 c3 n3 s3 d3) (hb : Below W.heap.size W W') : Tri w0 W' b1 b2 b3 c1 n1 s1 d1 c2 n2 s2 d2 c3 n3 s3 d3 :=
  ⟨onward h.bel hb, h.one.keep hb, h.two.keep hb, h.three.keep hb⟩
theorem str_ne {a b : ByteArray} (h : a.toList = b.toList) : a = b := by
  apply ByteArray.ext
  apply Array.toList_inj.1
  rw [ByteArray.toList_eq, ByteArray.toList_eq] at h
  exact h
theorem first_ne {c1 s1 c2 s2 : ByteArray} {n1 d1 n2 d2 : Int} (h : ¬ (c1 = c2 ∧ n1 = n2 ∧ s1 = s2 ∧ d1 = d2)) :
    ¬ c1.toList = c2.toList ∨ (c1.toList = c2.toList ∧ ¬ n1 = n2) ∨ (c1.toList = c2.toList ∧ n1 = n2 ∧ ¬ s1.toList = s2.toList) ∨ (c1.toList = c2.toList ∧ n1 = n2 ∧ s1.toList = s2.toList ∧ ¬ d1 = d2) := by
  by_cases e1 : c1.toList = c2.toList
  · by_cases e2 : n1 = n2
    · by_cases e3 : s1.toList = s2.toList
      · by_cases e4 : d1 = d2
        · exact absurd ⟨str_ne e1, e2, str_ne e3, e4⟩ h
        · exact .inr (.inr (.inr ⟨e1, e2, e3, e4⟩))
      · exact .inr (.inr (.inl ⟨e1, e2, e3⟩))
    · exact .inr (.inl ⟨e1, e2⟩)
  · exact .inl e1

set_option maxHeartbeats 8000000 in
theorem forder_any (xc : ByteArray) (xn : Int) (xs : ByteArray) (xd : Int) (yc : ByteArray) (yn : Int) (ys : ByteArray) (yd : Int) (A : Option Addr) (len cap : Nat) (w : World) (hcap : len ≤ cap) (hA : IntsIn w.heap.size w A len) :
    Calls Try.prog 13 #[.agg #[.string xc, .int .i64 xn, .string xs, .int .i64 xd], .agg #[.string yc, .int .i64 yn, .string ys, .int .i64 yd], .slice A len cap] w fun e w' => e = .returned (.bool true) ∧ Below w.heap.size w w' := by
  have X := (Four.new w xc xn xs xd 53).alloc (.cells #[.string yc, .int .i64 yn, .string ys, .int .i64 yd] 53)
  have Y := Four.new (w.alloc (.cells #[.string xc, .int .i64 xn, .string xs, .int .i64 xd] 53)) yc yn ys yd 53
  rw [World.size_alloc] at Y
  have hA' := (hA.alloc (.cells #[.string xc, .int .i64 xn, .string xs, .int .i64 xd] 53)).alloc (.cells #[.string yc, .int .i64 yn, .string ys, .int .i64 yd] 53)
  have B0 := below_two w (.cells #[.string xc, .int .i64 xn, .string xs, .int .i64 xd] 53) (.cells #[.string yc, .int .i64 yn, .string ys, .int .i64 yd] 53)
  have hz0 : ((w.alloc (.cells #[.string xc, .int .i64 xn, .string xs, .int .i64 xd] 53)).alloc (.cells #[.string yc, .int .i64 yn, .string ys, .int .i64 yd] 53)).heap.size = w.heap.size + 1 + 1 := by rw [World.size_alloc, World.size_alloc]
  go_enter Try.func13, Try.ntmps13
  go_wp2_with fail
  generalize (w.alloc (.cells #[.string xc, .int .i64 xn, .string xs, .int .i64 xd] 53)).alloc (.cells #[.string yc, .int .i64 yn, .string ys, .int .i64 yd] 53) = W0 at *
  refine (new_any A len cap W0 hcap hA').mono ?_
  rintro e w1 ⟨rfl, hs1, hb1⟩
  have X1 := X.keep hb1
  have Y1 := Y.keep hb1
  have B1 := onward B0 hb1
  rw [hz0] at hs1
  have ne1 : some w.heap.size ≠ some (w.heap.size + 1 + 1) := by simp; omega
  have ne2 : some (w.heap.size + 1) ≠ some (w.heap.size + 1 + 1) := by simp
  clear X Y hA hA' B0 hb1
  rw [hz0]
  go_wp2_with fail
  refine (anyflight_any _ _ _ hs1).mono ?_
  rintro e w2 ⟨c1, n1, s1, d1, rfl, hF1, hs2, hg2⟩
  go_wp2_with fail
  refine (anyflight_any _ _ _ hs2).mono ?_
  rintro e w3 ⟨c2, n2, s2, d2, rfl, hF2, hs3, hg3⟩
  go_wp2_with fail
  refine (anyflight_any _ _ _ hs3).mono ?_
  rintro e w4 ⟨c3, n3, s3, d3, rfl, hF3, hs4, hg4⟩
  have X4 := ((X1.grown hg2 ne1).grown hg3 ne1).grown hg4 ne1
  have Y4 := ((Y1.grown hg2 ne2).grown hg3 ne2).grown hg4 ne2
  have B2 := below_reads B1 hg2 (by omega) B1.size
  have B3 := below_reads B2 hg3 (by omega) B2.size
  have B4 := Lib.hid (below_reads B3 hg4 (by omega) B3.size)
  obtain ⟨x, y, z, q1, q2, q3, q4, t1, t2, t3⟩ := three_cmp hF1 hF2 hF3
  clear X1 Y1 B1 B2 B3 hg2 hg3 hg4 hs1 hs2 hs3 hs4 hF1 hF2 hF3 hz0 ne1 ne2
  have h12 := fun W => fcmp_any c1 n1 s1 d1 c2 n2 s2 d2 W
  have r12 := fun W => rfcmp_any c1 n1 s1 d1 c2 n2 s2 d2 W
  have h21 := fun W => fcmp_any c2 n2 s2 d2 c1 n1 s1 d1 W
  have h23 := fun W => fcmp_any c2 n2 s2 d2 c3 n3 s3 d3 W
  have h13 := fun W => fcmp_any c1 n1 s1 d1 c3 n3 s3 d3 W
  rw [q1] at h12 r12
  rw [q2] at h21
  rw [q3] at h23
  rw [q4] at h13
  have H12 := hide h12
  have R12 := hide r12
  have H21 := hide h21
  have H23 := hide h23
  have H13 := hide h13
  have T1 := Lib.hid t1
  have T2 := Lib.hid t2
  have T3 := Lib.hid t3
  have HX := Lib.hid X4
  have HY := Lib.hid Y4
  clear h12 r12 h21 h23 h13 q1 q2 q3 q4 t1 t2 t3 X4 Y4
  go_wp2_with fail
  have BB := Lib.hid (below_new (below_new (below_new B4.out (.cells #[.string c1, .int .i64 n1, .string s1, .int .i64 d1] 53)) (.cells #[.string c2, .int .i64 n2, .string s2, .int .i64 d2] 53)) (.cells #[.string c3, .int .i64 n3, .string s3, .int .i64 d3] 53))
  have X5 := ((HX.out.alloc (.cells #[.string c1, .int .i64 n1, .string s1, .int .i64 d1] 53)).alloc (.cells #[.string c2, .int .i64 n2, .string s2, .int .i64 d2] 53)).alloc (.cells #[.string c3, .int .i64 n3, .string s3, .int .i64 d3] 53)
  have Y5 := ((HY.out.alloc (.cells #[.string c1, .int .i64 n1, .string s1, .int .i64 d1] 53)).alloc (.cells #[.string c2, .int .i64 n2, .string s2, .int .i64 d2] 53)).alloc (.cells #[.string c3, .int .i64 n3, .string s3, .int .i64 d3] 53)
  have F1 := ((Four.new w4 c1 n1 s1 d1 53).alloc (.cells #[.string c2, .int .i64 n2, .string s2, .int .i64 d2] 53)).alloc (.cells #[.string c3, .int .i64 n3, .string s3, .int .i64 d3] 53)
  have F2 := (Four.new (w4.alloc (.cells #[.string c1, .int .i64 n1, .string s1, .int .i64 d1] 53)) c2 n2 s2 d2 53).alloc (.cells #[.string c3, .int .i64 n3, .string s3, .int .i64 d3] 53)
  have F3 := Four.new ((w4.alloc (.cells #[.string c1, .int .i64 n1, .string s1, .int .i64 d1] 53)).alloc (.cells #[.string c2, .int .i64 n2, .string s2, .int .i64 d2] 53)) c3 n3 s3 d3 53
  rw [World.size_alloc] at F2
  rw [World.size_alloc, World.size_alloc] at F3
  clear HX HY B4
  generalize ((w4.alloc (.cells #[.string c1, .int .i64 n1, .string s1, .int .i64 d1] 53)).alloc (.cells #[.string c2, .int .i64 n2, .string s2, .int .i64 d2] 53)).alloc (.cells #[.string c3, .int .i64 n3, .string s3, .int .i64 d3] 53) = V at *
  have TT := Lib.hid (Tri.mk BB.out F1 F2 F3)
  clear BB
  obtain ⟨a0, a1, a2, a3⟩ := X5
  obtain ⟨b0, b1, b2, b3⟩ := Y5
  obtain ⟨e0, e1, e2, e3⟩ := F1
  obtain ⟨f0, f1, f2, f3⟩ := F2
  obtain ⟨g0, g1, g2, g3⟩ := F3
  replace a0 := After.cell a0
  replace a1 := After.cell a1
  replace a2 := After.cell a2
  replace a3 := After.cell a3
  replace b0 := After.cell b0
  replace b1 := After.cell b1
  replace b2 := After.cell b2
  replace b3 := After.cell b3
  replace e0 := After.cell e0
  replace e1 := After.cell e1
  replace e2 := After.cell e2
  replace e3 := After.cell e3
  replace f0 := After.cell f0
  replace f1 := After.cell f1
  replace f2 := After.cell f2
  replace f3 := After.cell f3
  replace g0 := After.cell g0
  replace g1 := After.cell g1
  replace g2 := After.cell g2
  replace g3 := After.cell g3
  rcases T1.out with ⟨rfl, rfl, rfl, rfl, rfl⟩ | ⟨hx, hne⟩
  · refine wp_region_after (by kernel_rfl) (by kernel_rfl) ?_
    repeat (go_big_quiet_step ((first
      | (go_at_call 51; (first | (with_reducible exact After.call (unhide H12 _)) | (with_reducible exact After.call (unhide H21 _)) | (with_reducible exact After.call (fcmp_any xc xn xs xd yc yn ys yd _))))
      | (go_at_call 52; (first | (with_reducible exact After.call (unhide R12 _)) | (with_reducible exact After.call (rfcmp_any xc xn xs xd yc yn ys yd _)))))))
    refine wpQuiet_nil ?_
    rintro _ ⟨t, rfl⟩
    have T := TT.out.step t.is
    clear a0 a1 a2 a3 b0 b1 b2 b3 e0 e1 e2 e3 f0 f1 f2 f3 g0 g1 g2 g3
    obtain ⟨_, ⟨a0, a1, a2, a3⟩, ⟨b0, b1, b2, b3⟩, ⟨e0, e1, e2, e3⟩⟩ := id T
    rcases T2.out with rfl | rfl | rfl
    all_goals
      first | (have hz : z ≤ 0 := by (have := T3.out; omega)) | skip
      go_wp2_with (first
        | (go_at_call 51; (first | ((with_reducible refine (unhide H12 _).mono ?_)) | ((with_reducible refine (unhide H23 _).mono ?_)) | ((with_reducible refine (unhide H13 _).mono ?_))); rintro e w5 ⟨rfl, hb5⟩; replace T := T.step hb5; obtain ⟨_, ⟨a0, a1, a2, a3⟩, ⟨b0, b1, b2, b3⟩, ⟨e0, e1, e2, e3⟩⟩ := id T)
        | (go_at_call 41; refine (fawake_any _).mono ?_; rintro e w6 ⟨rfl, hb6⟩))
      go_ret
      exact ⟨rfl, onward T.bel hb6⟩
  · have HX := Lib.hid hx
    clear hx
    rcases first_ne hne with r | ⟨r, r2⟩ | ⟨r, rfl, r3⟩ | ⟨r, rfl, r3, r4⟩
    all_goals
      clear hne
      rcases HX.out with rfl | rfl
    all_goals
      refine wp_region_after (by kernel_rfl) (by kernel_rfl) ?_
      repeat (go_big_quiet_step ((first
        | (go_at_call 51; (first | (with_reducible exact After.call (unhide H12 _)) | (with_reducible exact After.call (unhide H21 _)) | (with_reducible exact After.call (fcmp_any xc xn xs xd yc yn ys yd _))))
        | (go_at_call 52; (first | (with_reducible exact After.call (unhide R12 _)) | (with_reducible exact After.call (rfcmp_any xc xn xs xd yc yn ys yd _)))))))
      refine wpQuiet_nil ?_
      rintro _ ⟨t, rfl⟩
      have T := TT.out.step t.is
      clear a0 a1 a2 a3 b0 b1 b2 b3 e0 e1 e2 e3 f0 f1 f2 f3 g0 g1 g2 g3
      obtain ⟨_, ⟨a0, a1, a2, a3⟩, ⟨b0, b1, b2, b3⟩, ⟨e0, e1, e2, e3⟩⟩ := id T
      rcases T2.out with rfl | rfl | rfl
      all_goals
        first | (have hz : z ≤ 0 := by (have := T3.out; omega)) | skip
        go_wp2_with (first
          | (go_at_call 51; (first | ((with_reducible refine (unhide H12 _).mono ?_)) | ((with_reducible refine (unhide H23 _).mono ?_)) | ((with_reducible refine (unhide H13 _).mono ?_))); rintro e w5 ⟨rfl, hb5⟩; replace T := T.step hb5; obtain ⟨_, ⟨a0, a1, a2, a3⟩, ⟨b0, b1, b2, b3⟩, ⟨e0, e1, e2, e3⟩⟩ := id T)
          | (go_at_call 41; refine (fawake_any _).mono ?_; rintro e w6 ⟨rfl, hb6⟩))
        go_ret
        exact ⟨rfl, onward T.bel hb6⟩

theorem forder_law (xc : ByteArray) (xn : Int) (xs : ByteArray) (xd : Int) (_w0 : xc.size ≤ maxLen) (_w1 : (Lit.int .i64 xn).wf = true) (_w2 : xs.size ≤ maxLen) (_w3 : (Lit.int .i64 xd).wf = true)
    (yc : ByteArray) (yn : Int) (ys : ByteArray) (yd : Int) (_w4 : yc.size ≤ maxLen) (_w5 : (Lit.int .i64 yn).wf = true) (_w6 : ys.size ≤ maxLen) (_w7 : (Lit.int .i64 yd).wf = true) (A : Option Addr) (len cap : Nat) (hcap : len ≤ cap) {w : World} (hA : IntsIn w.heap.size w A len) :
    Calls Try.prog 13 #[.agg #[.string xc, .int .i64 xn, .string xs, .int .i64 xd], .agg #[.string yc, .int .i64 yn, .string ys, .int .i64 yd], .slice A len cap] w fun e w' => e = .returned (.bool true) ∧ Below w.heap.size w w' := forder_any xc xn xs xd yc yn ys yd A len cap w hcap hA
end Go.Proofs.Ytaimmohfcjoclaa
