/-
  Crane (layer 18): CranePlans: its walk.
-/
import Derived.Test.YtjgjgilpebeelaaCraG
import Derived.Test.YtjgjgilpebeelaaCraL
namespace Go.Proofs.Ytjgjgilpebeelaa
open Go.RowKit

theorem ord_len {jobs : List Jb} : (ordJ jobs).length = jobs.length := by
  obtain ⟨o, ho⟩ := isBy_ex jobs
  rw [← ho.ord, ho.len]
theorem planL_len (now : Int) (jobs : List Jb) : (planL now jobs).length ≤ jobs.length := by
  unfold planL
  split
  · rw [ord_len]; exact Nat.le_refl _
  · exact Nat.zero_le _
theorem ovL_len (now : Int) (jobs : List Jb) : (ovL now jobs).length ≤ jobs.length := by
  unfold ovL
  split
  · exact Nat.zero_le _
  · split
    · rw [List.length_take, ord_len]; omega
    · exact Nat.zero_le _
theorem finL_len (now : Int) (jobs : List Jb) (o : List Int) : (finL now jobs o).length ≤ o.length := by
  unfold finL
  split
  · rw [finJ_len]; exact Nat.le_refl _
  · exact Nat.zero_le _
/-- What all functions return at a time, jobs and an order, the program's and the document's. -/
structure Tri (b : Nat) (t : Int) (J : List Jb) (AJ : Option Addr) (cJ : Nat) (o : List Int) (lo : Nat) (Ao : Option Addr) (co : Nat) (pl : List Int) (pe : Int) (fl ov : List Int) (ce : Int) : Prop where
  p1 : ∀ W, JbsIn b W AJ J → Calls Try.prog 11 #[.int .i64 t, .slice AJ J.length cJ] W (GivE W pl pe)
  p2 : ∀ W, JbsIn b W AJ J → Calls Try.prog 12 #[.int .i64 t, .slice AJ J.length cJ] W (GivE W pl pe)
  f1 : ∀ W, JbsIn b W AJ J → NumsIn b W Ao o → Calls Try.prog 14 #[.int .i64 t, .slice AJ J.length cJ, .slice Ao lo co] W (GivN W fl)
  f2 : ∀ W, JbsIn b W AJ J → NumsIn b W Ao o → Calls Try.prog 15 #[.int .i64 t, .slice AJ J.length cJ, .slice Ao lo co] W (GivN W fl)
  o1 : ∀ W, JbsIn b W AJ J → Calls Try.prog 16 #[.int .i64 t, .slice AJ J.length cJ] W (GivN W ov)
  o2 : ∀ W, JbsIn b W AJ J → Calls Try.prog 17 #[.int .i64 t, .slice AJ J.length cJ] W (GivN W ov)
  k1 : ∀ W, JbsIn b W AJ J → NumsIn b W Ao o → Calls Try.prog 18 #[.int .i64 t, .slice AJ J.length cJ, .slice Ao lo co] W fun e w' => e = .returned (.int .i64 ce) ∧ Below W.heap.size W w'
  k2 : ∀ W, JbsIn b W AJ J → NumsIn b W Ao o → Calls Try.prog 19 #[.int .i64 t, .slice AJ J.length cJ, .slice Ao lo co] W fun e w' => e = .returned (.int .i64 ce) ∧ Below W.heap.size W w'
  zp : pl.length ≤ 1000000
  zf : fl.length ≤ 1000000
  zo : ov.length ≤ 1000000
theorem tri_any (b : Nat) (t : Int) (J : List Jb) (AJ : Option Addr) (cJ : Nat) (o : List Int) (lo : Nat) (Ao : Option Addr) (co : Nat) (hlo : o.length = lo) (hJ : J.length ≤ 1000) (ho : o.length ≤ 1000) (hc : o.length ≤ co) : ∃ pl pe fl ov ce, Tri b t J AJ cJ o lo Ao co pl pe fl ov ce := by
  subst hlo
  exact ⟨planL t J, planE t J, finL t J o, ovL t J, chkE t J o,
    fun W h => plan_any b t J AJ cJ W (by omega) h, fun W h => rplan_any b t J AJ cJ W hJ h,
    fun W h h' => fin_any b t J o AJ Ao cJ co W hJ ho h h', fun W h h' => rfin_any b t J o AJ Ao cJ co W hJ ho hc h h',
    fun W h => over_any b t J AJ cJ W (by omega) h, fun W h => rover_any b t J AJ cJ W hJ h,
    fun W h h' => chk_any b t J o AJ Ao cJ co W hJ ho h h', fun W h h' => rchk_any b t J o AJ Ao cJ co W hJ ho hc h h',
    by have := planL_len t J; omega, by have := finL_len t J o; omega, by have := ovL_len t J; omega⟩
/-- One number of a slice, kept; two lists that are one. -/
theorem ints_eq (b : Nat) (l : List Int) (A A' : Option Addr) (c c' : Nat) (w : World) (hz : l.length ≤ 1000000) (h : NumsIn b w A l) (h' : NumsIn b w A' l) :
    Calls Try.prog 13 #[.slice A l.length c, .slice A' l.length c'] w fun e w' => e = .returned (.bool true) ∧ Below w.heap.size w w' := by
  have := kints_any b l l A A' c c' w (by omega) h h'
  rwa [decide_eq_true rfl] at this
set_option maxHeartbeats 8000000 in
set_option maxRecDepth 100000 in
theorem plans_any (now : Int) (_wn : (Lit.int .i64 now).wf = true) (pos : Int) (_wp : (Lit.int .i64 pos).wf = true) (w : World) (AJ : Option Addr) (J : List Jb) (cJ : Nat) (_hcJ : J.length ≤ cJ) (hJ : JbsIn w.heap.size w AJ J)
    (AX : Option Addr) (X : List Int) (cX : Nat) (hcX : X.length ≤ cX) (hX : NumsIn w.heap.size w AX X) (_wX : ∀ x ∈ X, (Lit.int .i64 x).wf = true)
    (A0 : Option Addr) (n0 c0 : Nat) (hc : n0 ≤ c0) (hA : IntsIn w.heap.size w A0 n0) (A9 : Option Addr) (n9 c9 : Nat) (hc9 : n9 ≤ c9) (hA9 : IntsIn w.heap.size w A9 n9) :
    Calls Try.prog 3 #[.int .i64 now, .int .i64 pos, .slice AJ J.length cJ, .slice AX X.length cX, .slice A0 n0 c0, .slice A9 n9 c9] w fun e w' => e = .returned (.bool true) ∧ Below w.heap.size w w' := by
  have HAw := hide (fun W => awake_any W)
  by_cases k1 : 210 < J.length
  · have q1 : (210 : Int) < (J.length : Int) := by omega
    clear hJ hX hA hA9
    go_enter Try.func3, Try.ntmps3
    go_wp2_with (go_at_call 8; refine (unhide HAw _).mono ?_; rintro e w2 ⟨rfl, hb2⟩; have HB2 := hide hb2; clear hb2)
    go_ret
    exact ⟨rfl, unhide HB2⟩
  have q1 : ¬ (210 : Int) < (J.length : Int) := by omega
  by_cases k2 : 210 < X.length
  · have q2 : (210 : Int) < (X.length : Int) := by omega
    clear hJ hX hA hA9
    go_enter Try.func3, Try.ntmps3
    go_wp2_with (go_at_call 8; refine (unhide HAw _).mono ?_; rintro e w2 ⟨rfl, hb2⟩; have HB2 := hide hb2; clear hb2)
    go_ret
    exact ⟨rfl, unhide HB2⟩
  have q2 : ¬ (210 : Int) < (X.length : Int) := by omega
  have HSo := hide (some_any 8 (by omega) A0 n0 c0 w hc hA)
  have HA9 := hide hA9
  have HJ0 := hide hJ
  have HX0 := hide hX
  have HPc := hide (fun W => cost_any pos W)
  have HRc := hide (fun W => rcost_any pos W)
  clear hJ hX hA hA9
  go_enter Try.func3, Try.ntmps3
  go_wp2_with fail
  refine (unhide HSo).mono ?_
  rintro e w1 ⟨n, jobs, A1, c1, rfl, hsm, hown, hb1, hlt1⟩
  have HJ1 := hide (jbs_own (b := w.heap.size) hown (.inl (Nat.lt_succ_self _)))
  have HB1 := hide hb1
  have hl8 : jobs.length ≤ 8 := hsm.len
  have HPe := hide (perm_any jobs.length (by omega) A9 n9 c9 w1 hc9 (ints_later (unhide HA9) hb1))
  have HLt := hide hlt1
  clear hsm hown hb1 HSo hlt1
  go_wp2_with fail
  refine (unhide HPe).mono ?_
  rintro e ws ⟨p, A2, c2, rfl, hpm, hown, hb2, _⟩
  have hpl : p.length = jobs.length := by rw [hpm.length_eq, upI_len]
  have hpc : p.length ≤ c2 := by rw [hpl]; exact own_cap hown
  have HBs := hide (onward (unhide HB1) hb2)
  have HN2 := hide (nums_own (n := jobs.length) (b := w.heap.size) hown (.inl (by have := (unhide HB1).size; omega)))
  have HLs := hide (Nat.lt_of_lt_of_le (unhide HLt) hb2.size)
  have HK := hide (show ∀ W, Below ws.heap.size ws W → (JbsIn w.heap.size W AJ J ∧ NumsIn w.heap.size W AX X) ∧ (JbsIn w.heap.size W A1 jobs ∧ NumsIn w.heap.size W A2 p) ∧ w.heap.size < W.heap.size from fun W hb =>
    ⟨⟨((unhide HJ0).keep (unhide HBs)).keep hb, ((unhide HX0).keep (unhide HBs)).keep hb⟩, ⟨((unhide HJ1).keep hb2).keep hb, (unhide HN2).keep hb⟩, Nat.lt_of_lt_of_le (unhide HLs) hb.size⟩)
  have HPl := hide hpl
  obtain ⟨pl0, pe0, fl0, ov0, ce0, T0⟩ := tri_any w.heap.size now J AJ cJ X X.length AX cX rfl (by omega) (by omega) hcX
  obtain ⟨pl1, pe1, fl1, ov1, ce1, T1⟩ := tri_any w.heap.size n jobs A1 c1 p jobs.length A2 c2 hpl (by omega) (by omega) hpc
  obtain ⟨pl2, pe2, fl2, ov2, ce2, T2⟩ := tri_any w.heap.size n jobs A1 c1 X X.length AX cX rfl (by omega) (by omega) hcX
  have HT0 := hide T0
  have HT1 := hide T1
  have HT2 := hide T2
  have H0 := hide (Below.refl ws.heap.size ws)
  clear hpm hown hb2 hpl hpc HPe HJ1 HB1 T0 T1 T2 HN2 HJ0 HX0 k1 k2 q1 q2
  go_wp2_with fail
  go_loopw [16] (fun s16 wr => ∃ i : Nat, i ≤ 3 ∧ s16 = .int .i64 i ∧ Hid (Below ws.heap.size ws wr)) (fun s16 _ => 3 - (intOf s16).toNat)
  case atStart => exact ⟨0, by omega, rfl, H0⟩
  case round =>
    clear H0
    obtain ⟨i, hi, rfl, HB⟩ := hrel
    obtain ⟨v0, rfl⟩ : ∃ v0 : World, v0 = wr := ⟨_, rfl⟩
    have hi4 : i = 0 ∨ i = 1 ∨ i = 2 ∨ i = 3 := by omega
    clear hi
    rcases hi4 with rfl | rfl | rfl | rfl
    · go_wp2_with fail
      refine ((unhide HT0).p1 _ ((unhide HK _ (unhide HB)).1.1)).mono ?_
      rintro e v1 ⟨B1, d1, rfl, hn1, hb1, _⟩
      have HB1 := hide (onward (unhide HB) hb1)
      have HR1 := hide (hn1 w.heap.size (.inl (unhide HK _ (unhide HB)).2.2))
      clear hn1 hb1
      go_wp2_with fail
      refine ((unhide HT0).p2 _ ((unhide HK _ (unhide HB1)).1.1)).mono ?_
      rintro e v2 ⟨B2, d2, rfl, hn2, hb2, _⟩
      have HB2 := hide (onward (unhide HB1) hb2)
      have HR2 := hide (hn2 w.heap.size (.inl (unhide HK _ (unhide HB1)).2.2))
      have HS2 := hide ((unhide HR1).keep hb2)
      clear hn2 hb2
      have q3 : (pe0 != pe0) = false := by rw [bne_eq_false_iff_eq]
      go_wp2_with fail
      refine (ints_eq w.heap.size pl0 B1 B2 d1 d2 _ (unhide HT0).zp (unhide HS2) (unhide HR2)).mono ?_
      rintro e v3 ⟨rfl, hb3⟩
      have HB3 := hide (onward (unhide HB2) hb3)
      clear hb3
      go_wp2_with fail
      refine ((unhide HT0).f1 _ ((unhide HK _ (unhide HB3)).1.1) ((unhide HK _ (unhide HB3)).1.2)).mono ?_
      rintro e v4 ⟨B4, d4, rfl, hn4, hb4, _⟩
      have HB4 := hide (onward (unhide HB3) hb4)
      have HR4 := hide (hn4 w.heap.size (.inl (unhide HK _ (unhide HB3)).2.2))
      clear hn4 hb4
      go_wp2_with fail
      refine ((unhide HT0).f2 _ ((unhide HK _ (unhide HB4)).1.1) ((unhide HK _ (unhide HB4)).1.2)).mono ?_
      rintro e v5 ⟨B5, d5, rfl, hn5, hb5, _⟩
      have HB5 := hide (onward (unhide HB4) hb5)
      have HR5 := hide (hn5 w.heap.size (.inl (unhide HK _ (unhide HB4)).2.2))
      have HS5 := hide ((unhide HR4).keep hb5)
      clear hn5 hb5
      go_wp2_with fail
      refine (ints_eq w.heap.size fl0 B4 B5 d4 d5 _ (unhide HT0).zf (unhide HS5) (unhide HR5)).mono ?_
      rintro e v6 ⟨rfl, hb6⟩
      have HB6 := hide (onward (unhide HB5) hb6)
      clear hb6
      go_wp2_with fail
      refine ((unhide HT0).o1 _ ((unhide HK _ (unhide HB6)).1.1)).mono ?_
      rintro e v7 ⟨B7, d7, rfl, hn7, hb7, _⟩
      have HB7 := hide (onward (unhide HB6) hb7)
      have HR7 := hide (hn7 w.heap.size (.inl (unhide HK _ (unhide HB6)).2.2))
      clear hn7 hb7
      go_wp2_with fail
      refine ((unhide HT0).o2 _ ((unhide HK _ (unhide HB7)).1.1)).mono ?_
      rintro e v8 ⟨B8, d8, rfl, hn8, hb8, _⟩
      have HB8 := hide (onward (unhide HB7) hb8)
      have HR8 := hide (hn8 w.heap.size (.inl (unhide HK _ (unhide HB7)).2.2))
      have HS8 := hide ((unhide HR7).keep hb8)
      clear hn8 hb8
      go_wp2_with fail
      refine (ints_eq w.heap.size ov0 B7 B8 d7 d8 _ (unhide HT0).zo (unhide HS8) (unhide HR8)).mono ?_
      rintro e v9 ⟨rfl, hb9⟩
      have HB9 := hide (onward (unhide HB8) hb9)
      clear hb9
      go_wp2_with fail
      refine ((unhide HT0).k1 _ ((unhide HK _ (unhide HB9)).1.1) ((unhide HK _ (unhide HB9)).1.2)).mono ?_
      rintro e v10 ⟨rfl, hb10⟩
      have HB10 := hide (onward (unhide HB9) hb10)
      clear hb10
      have q10 : (ce0 != ce0) = false := by rw [bne_eq_false_iff_eq]
      go_wp2_with fail
      refine ((unhide HT0).k2 _ ((unhide HK _ (unhide HB10)).1.1) ((unhide HK _ (unhide HB10)).1.2)).mono ?_
      rintro e v11 ⟨rfl, hb11⟩
      have HB11 := hide (onward (unhide HB10) hb11)
      clear hb11
      go_wp2
      go_roundw
      case rel => exact ⟨1, by omega, rfl, HB11⟩
      case measure => simp [intOf]
    · go_wp2_with fail
      refine ((unhide HT1).p1 _ ((unhide HK _ (unhide HB)).2.1.1)).mono ?_
      rintro e v1 ⟨B1, d1, rfl, hn1, hb1, _⟩
      have HB1 := hide (onward (unhide HB) hb1)
      have HR1 := hide (hn1 w.heap.size (.inl (unhide HK _ (unhide HB)).2.2))
      clear hn1 hb1
      go_wp2_with fail
      refine ((unhide HT1).p2 _ ((unhide HK _ (unhide HB1)).2.1.1)).mono ?_
      rintro e v2 ⟨B2, d2, rfl, hn2, hb2, _⟩
      have HB2 := hide (onward (unhide HB1) hb2)
      have HR2 := hide (hn2 w.heap.size (.inl (unhide HK _ (unhide HB1)).2.2))
      have HS2 := hide ((unhide HR1).keep hb2)
      clear hn2 hb2
      have q3 : (pe1 != pe1) = false := by rw [bne_eq_false_iff_eq]
      go_wp2_with fail
      refine (ints_eq w.heap.size pl1 B1 B2 d1 d2 _ (unhide HT1).zp (unhide HS2) (unhide HR2)).mono ?_
      rintro e v3 ⟨rfl, hb3⟩
      have HB3 := hide (onward (unhide HB2) hb3)
      clear hb3
      go_wp2_with fail
      refine ((unhide HT1).f1 _ ((unhide HK _ (unhide HB3)).2.1.1) ((unhide HK _ (unhide HB3)).2.1.2)).mono ?_
      rintro e v4 ⟨B4, d4, rfl, hn4, hb4, _⟩
      have HB4 := hide (onward (unhide HB3) hb4)
      have HR4 := hide (hn4 w.heap.size (.inl (unhide HK _ (unhide HB3)).2.2))
      clear hn4 hb4
      go_wp2_with fail
      refine ((unhide HT1).f2 _ ((unhide HK _ (unhide HB4)).2.1.1) ((unhide HK _ (unhide HB4)).2.1.2)).mono ?_
      rintro e v5 ⟨B5, d5, rfl, hn5, hb5, _⟩
      have HB5 := hide (onward (unhide HB4) hb5)
      have HR5 := hide (hn5 w.heap.size (.inl (unhide HK _ (unhide HB4)).2.2))
      have HS5 := hide ((unhide HR4).keep hb5)
      clear hn5 hb5
      go_wp2_with fail
      refine (ints_eq w.heap.size fl1 B4 B5 d4 d5 _ (unhide HT1).zf (unhide HS5) (unhide HR5)).mono ?_
      rintro e v6 ⟨rfl, hb6⟩
      have HB6 := hide (onward (unhide HB5) hb6)
      clear hb6
      go_wp2_with fail
      refine ((unhide HT1).o1 _ ((unhide HK _ (unhide HB6)).2.1.1)).mono ?_
      rintro e v7 ⟨B7, d7, rfl, hn7, hb7, _⟩
      have HB7 := hide (onward (unhide HB6) hb7)
      have HR7 := hide (hn7 w.heap.size (.inl (unhide HK _ (unhide HB6)).2.2))
      clear hn7 hb7
      go_wp2_with fail
      refine ((unhide HT1).o2 _ ((unhide HK _ (unhide HB7)).2.1.1)).mono ?_
      rintro e v8 ⟨B8, d8, rfl, hn8, hb8, _⟩
      have HB8 := hide (onward (unhide HB7) hb8)
      have HR8 := hide (hn8 w.heap.size (.inl (unhide HK _ (unhide HB7)).2.2))
      have HS8 := hide ((unhide HR7).keep hb8)
      clear hn8 hb8
      go_wp2_with fail
      refine (ints_eq w.heap.size ov1 B7 B8 d7 d8 _ (unhide HT1).zo (unhide HS8) (unhide HR8)).mono ?_
      rintro e v9 ⟨rfl, hb9⟩
      have HB9 := hide (onward (unhide HB8) hb9)
      clear hb9
      go_wp2_with fail
      refine ((unhide HT1).k1 _ ((unhide HK _ (unhide HB9)).2.1.1) ((unhide HK _ (unhide HB9)).2.1.2)).mono ?_
      rintro e v10 ⟨rfl, hb10⟩
      have HB10 := hide (onward (unhide HB9) hb10)
      clear hb10
      have q10 : (ce1 != ce1) = false := by rw [bne_eq_false_iff_eq]
      go_wp2_with fail
      refine ((unhide HT1).k2 _ ((unhide HK _ (unhide HB10)).2.1.1) ((unhide HK _ (unhide HB10)).2.1.2)).mono ?_
      rintro e v11 ⟨rfl, hb11⟩
      have HB11 := hide (onward (unhide HB10) hb11)
      clear hb11
      go_wp2
      go_roundw
      case rel => exact ⟨2, by omega, rfl, HB11⟩
      case measure => simp [intOf]
    · go_wp2_with fail
      refine ((unhide HT2).p1 _ ((unhide HK _ (unhide HB)).2.1.1)).mono ?_
      rintro e v1 ⟨B1, d1, rfl, hn1, hb1, _⟩
      have HB1 := hide (onward (unhide HB) hb1)
      have HR1 := hide (hn1 w.heap.size (.inl (unhide HK _ (unhide HB)).2.2))
      clear hn1 hb1
      go_wp2_with fail
      refine ((unhide HT2).p2 _ ((unhide HK _ (unhide HB1)).2.1.1)).mono ?_
      rintro e v2 ⟨B2, d2, rfl, hn2, hb2, _⟩
      have HB2 := hide (onward (unhide HB1) hb2)
      have HR2 := hide (hn2 w.heap.size (.inl (unhide HK _ (unhide HB1)).2.2))
      have HS2 := hide ((unhide HR1).keep hb2)
      clear hn2 hb2
      have q3 : (pe2 != pe2) = false := by rw [bne_eq_false_iff_eq]
      go_wp2_with fail
      refine (ints_eq w.heap.size pl2 B1 B2 d1 d2 _ (unhide HT2).zp (unhide HS2) (unhide HR2)).mono ?_
      rintro e v3 ⟨rfl, hb3⟩
      have HB3 := hide (onward (unhide HB2) hb3)
      clear hb3
      go_wp2_with fail
      refine ((unhide HT2).f1 _ ((unhide HK _ (unhide HB3)).2.1.1) ((unhide HK _ (unhide HB3)).1.2)).mono ?_
      rintro e v4 ⟨B4, d4, rfl, hn4, hb4, _⟩
      have HB4 := hide (onward (unhide HB3) hb4)
      have HR4 := hide (hn4 w.heap.size (.inl (unhide HK _ (unhide HB3)).2.2))
      clear hn4 hb4
      go_wp2_with fail
      refine ((unhide HT2).f2 _ ((unhide HK _ (unhide HB4)).2.1.1) ((unhide HK _ (unhide HB4)).1.2)).mono ?_
      rintro e v5 ⟨B5, d5, rfl, hn5, hb5, _⟩
      have HB5 := hide (onward (unhide HB4) hb5)
      have HR5 := hide (hn5 w.heap.size (.inl (unhide HK _ (unhide HB4)).2.2))
      have HS5 := hide ((unhide HR4).keep hb5)
      clear hn5 hb5
      go_wp2_with fail
      refine (ints_eq w.heap.size fl2 B4 B5 d4 d5 _ (unhide HT2).zf (unhide HS5) (unhide HR5)).mono ?_
      rintro e v6 ⟨rfl, hb6⟩
      have HB6 := hide (onward (unhide HB5) hb6)
      clear hb6
      go_wp2_with fail
      refine ((unhide HT2).o1 _ ((unhide HK _ (unhide HB6)).2.1.1)).mono ?_
      rintro e v7 ⟨B7, d7, rfl, hn7, hb7, _⟩
      have HB7 := hide (onward (unhide HB6) hb7)
      have HR7 := hide (hn7 w.heap.size (.inl (unhide HK _ (unhide HB6)).2.2))
      clear hn7 hb7
      go_wp2_with fail
      refine ((unhide HT2).o2 _ ((unhide HK _ (unhide HB7)).2.1.1)).mono ?_
      rintro e v8 ⟨B8, d8, rfl, hn8, hb8, _⟩
      have HB8 := hide (onward (unhide HB7) hb8)
      have HR8 := hide (hn8 w.heap.size (.inl (unhide HK _ (unhide HB7)).2.2))
      have HS8 := hide ((unhide HR7).keep hb8)
      clear hn8 hb8
      go_wp2_with fail
      refine (ints_eq w.heap.size ov2 B7 B8 d7 d8 _ (unhide HT2).zo (unhide HS8) (unhide HR8)).mono ?_
      rintro e v9 ⟨rfl, hb9⟩
      have HB9 := hide (onward (unhide HB8) hb9)
      clear hb9
      go_wp2_with fail
      refine ((unhide HT2).k1 _ ((unhide HK _ (unhide HB9)).2.1.1) ((unhide HK _ (unhide HB9)).1.2)).mono ?_
      rintro e v10 ⟨rfl, hb10⟩
      have HB10 := hide (onward (unhide HB9) hb10)
      clear hb10
      have q10 : (ce2 != ce2) = false := by rw [bne_eq_false_iff_eq]
      go_wp2_with fail
      refine ((unhide HT2).k2 _ ((unhide HK _ (unhide HB10)).2.1.1) ((unhide HK _ (unhide HB10)).1.2)).mono ?_
      rintro e v11 ⟨rfl, hb11⟩
      have HB11 := hide (onward (unhide HB10) hb11)
      clear hb11
      go_wp2
      go_roundw
      case rel => exact ⟨3, by omega, rfl, HB11⟩
      case measure => simp [intOf]
    · obtain ⟨cv, hcv⟩ : ∃ cv, cstI pos = cv := ⟨_, rfl⟩
      rw [hcv] at HPc HRc
      have HPc := hide (unhide HPc)
      have HRc := hide (unhide HRc)
      have q1 : (cv == cv) = true := by rw [beq_iff_eq]
      clear hcv
      go_wp2_with (first
        | (go_at_call 20; refine (unhide HPc _).mono ?_; rintro e w' ⟨rfl, rfl⟩)
        | (go_at_call 21; refine (unhide HRc _).mono ?_; rintro e w' ⟨rfl, rfl⟩)
        | (go_at_call 8; refine (unhide HAw _).mono ?_; rintro e w6 ⟨rfl, hb6⟩; have HB6 := hide (onward (onward (unhide HBs) (unhide HB)) hb6); clear hb6))
      go_ret
      exact ⟨rfl, unhide HB6⟩
end Go.Proofs.Ytjgjgilpebeelaa
