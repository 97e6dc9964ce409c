/-
  Lanes (layer 17): LanesAssigns: its walk.
-/
import Derived.Test.YtmmhchhekmcihaaLanP
import Derived.Deep.CutRange
namespace Go.Proofs.Ytmmhchhekmcihaa
open Go.RowKit

theorem asgR_sm (due : List Int) : SmL (nI (asgR due)) := by
  have hl := asgR_len due
  refine ⟨by rw [nI_len]; omega, small_wf (m := 200) (by omega) (fun x hx => ?_)⟩
  obtain ⟨y, hy, rfl⟩ := List.mem_map.1 hx
  obtain ⟨i, hi, rfl⟩ := List.getElem_of_mem hy
  have h1 := asgR_low due hi
  rw [at_k hi] at h1
  have h2 := cntR_le due
  exact ⟨Int.natCast_nonneg _, by show (((asgR due)[i] : Nat) : Int) ≤ 200; omega⟩
theorem chnR_le (due : List Int) : (chnR due).length ≤ 200 := by
  unfold chnR
  split
  · rename_i h
    have := cntR_le due
    unfold cntR at this
    rw [if_pos h] at this
    rw [chnF_len]; exact this
  · exact Nat.zero_le _
set_option maxHeartbeats 2000000 in
set_option maxRecDepth 100000 in
theorem assigns_any (P : LanOk) (w : World) (A0 : Option Addr) (X : List Int) (c0 : Nat) (hc0 : X.length ≤ c0) (hX : NumsIn w.heap.size w A0 X) (wX : ∀ x ∈ X, (Lit.int .i64 x).wf = true) (A9 : Option Addr) (n9 c9 : Nat) (hc9 : n9 ≤ c9) (hA9 : IntsIn w.heap.size w A9 n9)
    (A8 : Option Addr) (Y : List Int) (c8 : Nat) (hc8 : Y.length ≤ c8) (hY : NumsIn w.heap.size w A8 Y) (wY : ∀ x ∈ Y, (Lit.int .i64 x).wf = true) :
    Calls Try.prog 3 #[.slice A0 X.length c0, .slice A9 n9 c9, .slice A8 Y.length c8] w fun e w' => e = .returned (.bool true) ∧ Below w.heap.size w w' := by
  have HP := hide P
  have HT := hide (times_any A9 n9 c9 w hc9 hA9)
  have HXk := hide (fun W (hb : Below w.heap.size w W) => hX.keep hb)
  have HYk := hide (fun W (hb : Below w.heap.size w W) => hY.keep hb)
  have HWX := hide wX
  have HWY := hide wY
  have HC0 := hide hc0
  have HC8 := hide hc8
  clear P hA9 hX hY wX wY hc0 hc8
  by_cases k1 : (210 : Int) < (X.length : Int)
  · go_enter Try.func3, Try.ntmps3
    go_wp2_with (go_at_call 9; refine (awake_lan (unhide HP) _).mono ?_; rintro e w2 ⟨rfl, hb2⟩; have HB2 := hide hb2; clear hb2)
    go_ret
    exact ⟨rfl, unhide HB2⟩
  by_cases k2 : (210 : Int) < (Y.length : Int)
  · go_enter Try.func3, Try.ntmps3
    go_wp2_with (go_at_call 9; refine (awake_lan (unhide HP) _).mono ?_; rintro e w2 ⟨rfl, hb2⟩; have HB2 := hide hb2; clear hb2)
    go_ret
    exact ⟨rfl, unhide HB2⟩
  have HSX := hide (show SmL X from ⟨by omega, unhide HWX⟩)
  have HSY := hide (show SmL Y from ⟨by omega, unhide HWY⟩)
  have HX210 := hide (show X.length ≤ 210 by omega)
  have HY210 := hide (show Y.length ≤ 210 by omega)
  obtain ⟨i0, hi, hz0, hz1, hz2⟩ := info_parts linfo_int
  have HI0 := hide hi
  have HZ0 := hide hz0
  have HZ1 := hide hz1
  have HZ2 := hide hz2
  clear hi hz0 hz1 hz2
  go_enter Try.func3, Try.ntmps3
  go_wp2_with fail
  refine (unhide HT).mono ?_
  rintro e w1 ⟨T, A1, c1, hl, hr, rfl, hown, hb1, hsz⟩
  have b2 := (Below.refl w1.heap.size w1).alloc (Nat.le_refl _) (.cells #[.slice A0 X.length c0, .slice A1 T.length c1] 22)
  have hx2 := heap_alloc_new w1 (.cells #[.slice A0 X.length c0, .slice A1 T.length c1] 22)
  obtain ⟨W9, hW9⟩ : ∃ W9 : World, w1.alloc (.cells #[.slice A0 X.length c0, .slice A1 T.length c1] 22) = W9 := ⟨_, rfl⟩
  have hz9 : w1.heap.size < W9.heap.size := by rw [← hW9, World.size_alloc]; omega
  have HTr := hide ((nums_own (n := T.length) (b := w.heap.size) hown (.inl (Nat.lt_succ_self _))).keep b2)
  have HCT := hide (own_cap hown)
  have HST := hide (show SmL T from ⟨by omega, small_wf (m := 11) (by omega) hr⟩)
  have HT210 := hide (show T.length ≤ 210 by omega)
  have HB9 := hide (onward hb1 b2)
  go_wp2_with fail
  rw [hW9] at b2 hx2 HTr HB9
  have HX9 := hide hx2
  obtain ⟨H, hH⟩ : ∃ H, w1.heap.size = H := ⟨_, rfl⟩
  rw [hH] at HX9 ⊢
  have HS9 := hide (show w.heap.size < W9.heap.size by omega)
  clear hW9 b2 hx2 hown hb1 hsz hz9 hH HT hl hr k1 k2
  go_loopw [29] (fun kv wr => ∃ k : Nat, k ≤ 2 ∧ kv = .int .i64 k ∧ Hid (Below W9.heap.size W9 wr)) (fun kv _ => 2 - (intOf kv).toNat)
  case atStart => exact ⟨0, by omega, rfl, hide (Below.refl _ _)⟩
  case round =>
    obtain ⟨k, hk, rfl, HBk⟩ := hrel
    obtain ⟨wk, rfl⟩ : ∃ wk : World, wk = wr := ⟨_, rfl⟩
    by_cases hlt2 : k < 2
    · have kl : (k : Int) < 2 := by omega
      have k0 : (0 : Int) ≤ (k : Int) := by omega
      have hxk := heap_below (unhide HX9) (unhide HBk)
      have HBw := hide (onward (unhide HB9) (unhide HBk))
      have HG : ∃ (D : List Int) (AD : Option Addr) (cD : Nat), wk.cell? ⟨H, k, none⟩ = some (.slice AD D.length cD) ∧ Hid (SmL D ∧ D.length ≤ 210 ∧ D.length ≤ cD) ∧ Hid (NumsIn w.heap.size wk AD D) := by
        have hk2 : k = 0 ∨ k = 1 := by omega
        rcases hk2 with rfl | rfl
        · exact ⟨X, A0, c0, by rw [Lib.cell_of_heap hxk]; rfl, hide ⟨unhide HSX, unhide HX210, unhide HC0⟩, hide ((unhide HXk) _ (unhide HBw))⟩
        · exact ⟨T, A1, c1, by rw [Lib.cell_of_heap hxk]; rfl, hide ⟨unhide HST, unhide HT210, unhide HCT⟩, hide ((unhide HTr).keep (unhide HBk))⟩
      obtain ⟨D, AD, cD, cc, HSD, HDk⟩ := HG
      have HDs := hide (fun W (hb : Below wk.heap.size wk W) => (unhide HDk).keep hb)
      have HYs := hide (fun W (hb : Below wk.heap.size wk W) => (unhide HYk) W (onward (unhide HBw) hb))
      have HSz := hide (fun W (hb : Below wk.heap.size wk W) => (by have h1 := hb.size; have h2 := (unhide HBk).size; have h3 := unhide HS9; omega : w.heap.size < W.heap.size))
      have H1000 := hide (show (nI (chnR D)).length ≤ 1000000000 by rw [nI_len]; have := chnR_le D; omega)
      have H1001 := hide (show (nI (asgR D)).length ≤ 1000000000 by rw [nI_len]; have := asgR_len D; omega)
      have HAS := hide (asgR_sm D)
      clear hxk HDk
      go_wp2_with fail
      refine ((unhide HP).assign w.heap.size D AD cD wk (unhide HSD).1 (unhide HSD).2.2 ((unhide HDs) wk (Below.refl _ _))).mono ?_
      rintro e x1 ⟨Aa, ca, rfl, hra, hba, hca⟩
      have HAa := hide (hra w.heap.size (.inl ((unhide HSz) wk (Below.refl _ _))))
      have HX1 := hide hba
      clear hra hba hca
      go_wp2_with fail
      refine (rassign_any w.heap.size D AD cD x1 ((unhide HDs) x1 (unhide HX1))).mono ?_
      rintro e x2 ⟨Ab, cb, rfl, hgb⟩
      have HAb := hide (hgb.nums (b := w.heap.size) (.inl ((unhide HSz) x1 (unhide HX1))))
      have HCb := hide (show (nI (asgR D)).length ≤ cb by rw [nI_len]; exact own_cap hgb.1)
      have HAa := hide ((unhide HAa).keep hgb.2)
      have HX2 := hide (onward (unhide HX1) hgb.2)
      clear hgb HX1
      obtain ⟨er, her⟩ : ∃ er, valE D = er := ⟨_, rfl⟩
      rw [her]
      have qe : (er != er) = false := by simp
      clear her
      go_wp2_with fail
      rw [← nI_len (asgR D)]
      refine (kints_any w.heap.size (nI (asgR D)) (nI (asgR D)) Aa Ab ca cb x2 (unhide H1001) (unhide HAa) (unhide HAb)).mono ?_
      rw [decide_eq_true rfl]
      rintro e x3 ⟨rfl, hb3⟩
      have HX3 := hide (onward (unhide HX2) hb3)
      have HAb := hide ((unhide HAb).keep hb3)
      clear hb3 HX2 HAa
      go_wp2_with fail
      refine ((unhide HP).count w.heap.size D AD cD x3 (unhide HSD).1 (unhide HSD).2.2 ((unhide HDs) x3 (unhide HX3))).mono ?_
      rintro e x4 ⟨rfl, hb4⟩
      have HX4 := hide (onward (unhide HX3) hb4)
      have HAb := hide ((unhide HAb).keep hb4)
      clear hb4 HX3
      go_wp2_with fail
      refine (rcount_any w.heap.size D AD cD x4 ((unhide HDs) x4 (unhide HX4))).mono ?_
      rintro e x5 ⟨rfl, hb5⟩
      have HX5 := hide (onward (unhide HX4) hb5)
      have HAb := hide ((unhide HAb).keep hb5)
      clear hb5 HX4
      have qc : (((cntR D : Nat) : Int) != ((cntR D : Nat) : Int)) = false := by simp
      go_wp2_with fail
      refine ((unhide HP).chain w.heap.size D AD cD x5 (unhide HSD).1 (unhide HSD).2.2 ((unhide HDs) x5 (unhide HX5))).mono ?_
      rintro e x6 ⟨Ac, cc6, rfl, hrc, hbc, _⟩
      have HAc := hide (hrc w.heap.size (.inl ((unhide HSz) x5 (unhide HX5))))
      have HX6 := hide (onward (unhide HX5) hbc)
      have HAb := hide ((unhide HAb).keep hbc)
      clear hrc hbc HX5
      go_wp2_with fail
      refine (rchain_any w.heap.size D AD cD x6 ((unhide HDs) x6 (unhide HX6))).mono ?_
      rintro e x7 ⟨Ad, cd, rfl, hgd⟩
      have HAd := hide (hgd.nums (b := w.heap.size) (.inl ((unhide HSz) x6 (unhide HX6))))
      have HAc := hide ((unhide HAc).keep hgd.2)
      have HAb := hide ((unhide HAb).keep hgd.2)
      have HX7 := hide (onward (unhide HX6) hgd.2)
      clear hgd HX6
      go_wp2_with fail
      rw [← nI_len (chnR D)]
      refine (kints_any w.heap.size (nI (chnR D)) (nI (chnR D)) Ac Ad cc6 cd x7 (unhide H1000) (unhide HAc) (unhide HAd)).mono ?_
      rw [decide_eq_true rfl]
      rintro e x8 ⟨rfl, hb8⟩
      have HX8 := hide (onward (unhide HX7) hb8)
      have HAb := hide ((unhide HAb).keep hb8)
      clear hb8 HX7 HAc HAd
      go_wp2_with fail
      refine ((unhide HP).check w.heap.size D Y AD A8 cD c8 x8 (unhide HSD).1 (unhide HSY) (unhide HSD).2.2 (unhide HC8) ((unhide HDs) x8 (unhide HX8)) ((unhide HYs) x8 (unhide HX8))).mono ?_
      rintro e x9 ⟨rfl, hb9⟩
      have HX9' := hide (onward (unhide HX8) hb9)
      have HAb := hide ((unhide HAb).keep hb9)
      clear hb9 HX8
      go_wp2_with fail
      refine (rcheck_any w.heap.size D Y AD A8 cD c8 x9 (by have := unhide HY210; omega) ((unhide HDs) x9 (unhide HX9')) ((unhide HYs) x9 (unhide HX9'))).mono ?_
      rintro e x10 ⟨rfl, hb10⟩
      have HX10 := hide (onward (unhide HX9') hb10)
      have HAb := hide ((unhide HAb).keep hb10)
      clear hb10 HX9'
      obtain ⟨ek, hek⟩ : ∃ ek, chkE D Y = ek := ⟨_, rfl⟩
      rw [hek]
      have qk : (ek != ek) = false := by simp
      clear hek
      go_wp2_with fail
      refine ((unhide HP).check w.heap.size D (nI (asgR D)) AD Ab cD cb x10 (unhide HSD).1 (unhide HAS) (unhide HSD).2.2 (unhide HCb) ((unhide HDs) x10 (unhide HX10)) (unhide HAb)).mono ?_
      rintro e x11 ⟨rfl, hb11⟩
      have HX11 := hide (onward (unhide HX10) hb11)
      have HAb := hide ((unhide HAb).keep hb11)
      clear hb11 HX10
      go_wp2_with fail
      refine (rcheck_any w.heap.size D (nI (asgR D)) AD Ab cD cb x11 (by have := unhide HAS; have := this.len; omega) ((unhide HDs) x11 (unhide HX11)) (unhide HAb)).mono ?_
      rintro e x12 ⟨rfl, hb12⟩
      have HX12 := hide (onward (unhide HX11) hb12)
      clear hb12 HX11 HAb
      obtain ⟨ek2, hek2⟩ : ∃ ek2, chkE D (nI (asgR D)) = ek2 := ⟨_, rfl⟩
      rw [hek2]
      have qk2 : (ek2 != ek2) = false := by simp
      clear hek2
      go_wp2_with fail
      have H0 := hide (show Below wk.heap.size wk x12 ∧ x12.ownsRow wk.heap.size 3 1 (.slice none 0 0) 0 (([] : List Int).map (Value.int .i64)) ∧ ∀ x ∈ ([] : List Int), 0 ≤ x ∧ x ≤ 4 from ⟨unhide HX12, World.ownsRow_nil _ _ _ _, fun x hx => by cases hx⟩)
      clear HX12
      go_loopw [13, 14] (fun s13 s14 wr => ∃ (i : Nat) (a : List Int) (A : Option Addr) (c : Nat), i ≤ D.length ∧ a.length = i ∧ s13 = .slice A i c ∧ s14 = .int .i64 i ∧ Hid (Below wk.heap.size wk wr ∧ wr.ownsRow wk.heap.size 3 1 (.slice A i c) i (a.map (Value.int .i64)) ∧ ∀ x ∈ a, 0 ≤ x ∧ x ≤ 4)) (fun _ s14 _ => D.length - (intOf s14).toNat)
      case atStart => exact ⟨0, [], none, 0, Nat.zero_le _, rfl, rfl, rfl, H0⟩
      case round =>
        obtain ⟨i, a, A, c, hi, hal, rfl, rfl, HPr⟩ := hrel
        obtain ⟨wo, rfl⟩ : ∃ wo : World, wo = wr := ⟨_, rfl⟩
        have HAL := hide hal
        clear H0 hal
        have hd210 := (unhide HSD).2.1
        by_cases hlt : i < D.length
        · have il : (i : Int) < (D.length : Int) := by omega
          have hy210 := unhide HY210
          have hw7 : IntKind.i64.wrap ((i : Int) * 7) = (i : Int) * 7 := by rw [IntKind.wrap_i64]; omega
          have hw8 : IntKind.i64.wrap ((i : Int) * 7 + (Y.length : Int)) = (i : Int) * 7 + (Y.length : Int) := by rw [IntKind.wrap_i64]; omega
          have hmr := modN_range ((i : Int) * 7 + (Y.length : Int)) 5 (by omega)
          have HMd := hide (fun W => mod_any ((i : Int) * 7 + (Y.length : Int)) 5 W (by omega) (by omega))
          generalize modN ((i : Int) * 7 + (Y.length : Int)) 5 = x at *
          have bx := (Below.refl wo.heap.size wo).alloc (Nat.le_refl _) (.cells #[.int .i64 x] 3)
          have HB2 := hide (onward (unhide HPr).1 bx)
          have HO2 := hide (owns_later (unhide HPr).2.1 bx)
          have HNw := hide (World.news_of_block (heap_alloc_new wo (.cells #[.int .i64 x] 3)))
          have HSm2 := hide (show ∀ y ∈ a ++ [x], 0 ≤ y ∧ y ≤ 4 from fun y hy => by
            rcases List.mem_append.1 hy with hy | hy
            · exact (unhide HPr).2.2 y hy
            · rw [List.mem_singleton.1 hy]; omega)
          have hz2 := (unhide HB2).size
          clear bx HPr hmr
          go_wp2_with (first
            | (go_at_call 20; refine ((unhide HMd) _).mono ?_; rintro e wz ⟨rfl, hwz⟩; subst wz)
            | (at_builtin; refine wpList_append_lies _ rfl _ _ 22 rfl wk.heap.size 3 i0 (.int .i64 0) 1 8 Try.underlying22 (unhide HI0) (unhide HZ0) (unhide HZ1) (unhide HZ2) rfl (by decide) _ _ _ rfl (unhide HO2) ⟨wo.heap.size, 0, none⟩ 1 1 [.int .i64 x] rfl rfl (unhide HNw) (fun u hu => by rw [List.mem_singleton.1 hu]; rfl) (by decide) (by unfold maxLen; omega) (by omega) hz2 _ rfl ?_))
          intro q cap' w6 hown hgrow hat hlt6
          have hrw : ∀ j, (Value.slice A i c).ownBlock = some j → wk.heap.size ≤ j := fun j e => ((unhide HO2).lt j e).1
          have HB6 := hide ((unhide HB2).grown hgrow (unhide HB2).size (fun j e => hrw j e))
          have HO6 := hide hown
          clear hown hgrow hat hlt6 hrw
          go_wp2
          go_roundw
          case rel => exact ⟨i + 1, a ++ [x], some ⟨q, 0, none⟩, cap', by omega, by rw [List.length_append, unhide HAL]; rfl, rfl, by go_num, hide ⟨unhide HB6, by rw [List.map_append]; exact unhide HO6, unhide HSm2⟩⟩
          case measure => simp [intOf]; omega
        · have il : ¬ (i : Int) < (D.length : Int) := by omega
          have HAi := hide (show NumsIn w.heap.size wo A a from nums_own (n := i) (unhide HPr).2.1 (.inl (by have h2 := (unhide HBk).size; have h3 := unhide HS9; omega)))
          have HSa := hide (show SmL a from ⟨by rw [unhide HAL]; omega, small_wf (m := 4) (by omega) (unhide HPr).2.2⟩)
          have HCa := hide (show a.length ≤ c by rw [unhide HAL]; exact own_cap (unhide HPr).2.1)
          have HCk := hide ((unhide HP).check w.heap.size D a AD A cD c wo (unhide HSD).1 (unhide HSa) (unhide HSD).2.2 (unhide HCa) ((unhide HDs) wo (unhide HPr).1) (unhide HAi))
          have HCr := hide (fun W (hb : Below wo.heap.size wo W) => rcheck_any w.heap.size D a AD A cD c W (by have := (unhide HSa).len; omega) ((unhide HDs) W (onward (unhide HPr).1 hb)) ((unhide HAi).keep hb))
          rw [unhide HAL] at HCk HCr
          obtain ⟨ek3, hek3⟩ : ∃ ek3, chkE D a = ek3 := ⟨_, rfl⟩
          rw [hek3] at HCk HCr
          have HCk := hide (unhide HCk)
          have HCr := hide (unhide HCr)
          have qk3 : (ek3 != ek3) = false := by simp
          clear hek3
          go_wp2_with (first
            | (go_at_call 18; refine (unhide HCk).mono ?_; rintro e w5 ⟨rfl, hb5⟩; have HB5 := hide hb5; clear hb5)
            | (go_at_call 19; refine ((unhide HCr) _ (unhide HB5)).mono ?_; rintro e w6 ⟨rfl, hb6⟩; have HB6 := hide (onward (onward (onward (unhide HBk) (unhide HPr).1) (unhide HB5)) hb6); clear hb6))
          go_roundw
          case rel => exact ⟨k + 1, by omega, by go_num, HB6⟩
          case measure => simp [intOf]; omega
    · have kl : ¬ (k : Int) < 2 := by omega
      go_wp2_with (go_at_call 9; refine (awake_lan (unhide HP) _).mono ?_; rintro e wz ⟨rfl, hbz⟩; have HBZ := hide (onward (onward (unhide HB9) (unhide HBk)) hbz); clear hbz)
      go_ret
      exact ⟨rfl, unhide HBZ⟩
end Go.Proofs.Ytmmhchhekmcihaa
