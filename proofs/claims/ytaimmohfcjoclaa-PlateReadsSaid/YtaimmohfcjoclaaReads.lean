/-
  PlateReads: the walk.
-/
import Derived.Test.YtaimmohfcjoclaaReadsA
import Derived.Lib.ConvBytes
namespace Go.Proofs.Ytaimmohfcjoclaa
open Go.RowKit

set_option maxHeartbeats 2000000 in
theorem reads_any (A : Option Addr) (n c : Nat) (wh bits : Int) (w : World) (hc : n ≤ c) (h : IntsIn w.heap.size w A n) :
    Calls Try.prog 9 #[.slice A n c, .int .i64 wh, .int .i64 bits] w fun e w' => e = .returned (.bool true) ∧ Below w.heap.size w w' := by
  have HI := Lib.hid h
  clear h
  obtain ⟨i0, hi, hz0, hz1, hz2⟩ := info_parts info_plate
  have Hi := Lib.hid hi
  have Hz0 := Lib.hid hz0
  have Hz1 := Lib.hid hz1
  have Hz2 := Lib.hid hz2
  clear hi hz0 hz1 hz2
  go_enter Try.func9, Try.ntmps9
  go_wp2_with (first
    | (go_at_call 37; refine (new_any A n c _ hc HI.out).mono ?_; rintro e w1 ⟨rfl, hs, hb⟩; have HS := Lib.hid hs; have HB := Lib.hid hb; clear hs hb)
    | (go_at_call 38; refine (range_any w.heap.size w.heap.size 1 8 _ HS.out (by omega) (by omega) (by omega)).mono ?_; rintro e w2 ⟨m, rfl, hm1, hm2, hs, hg⟩; replace HB := Lib.hid (below_reads HB.out hg (Nat.le_refl _) HB.out.size); replace HS := Lib.hid hs; clear hs hg))
  obtain ⟨M, rfl⟩ := Int.eq_ofNat_of_zero_le (show 0 ≤ m by omega)
  go_loopw [8, 9] (fun v i wr => ∃ (k : Nat) (f : Nat → Int × Int × Int), k ≤ M ∧ i = .int .i64 ((M : Int) - (k : Int)) ∧ AllValid f k ∧ wr.ownsRow (w.heap.size + 1) 23 3 v k (platesL f k) ∧ Src w.heap.size w.heap.size wr ∧ Below w.heap.size w wr) (fun _ i _ => (intOf i).toNat)
  case atStart => exact ⟨0, fun _ => (0, 0, 0), Nat.zero_le _, by go_num, fun j hj => absurd hj (Nat.not_lt_zero _), ⟨rfl, .inl ⟨rfl, rfl⟩⟩, HS.out, HB.out⟩
  case round =>
    obtain ⟨k, f, hk, rfl, hv, hown, hs, hb⟩ := hrel
    have HV := Lib.hid hv
    replace HS := Lib.hid hs
    replace HB := Lib.hid hb
    have HO := Lib.hid hown
    clear hv hown hs hb
    by_cases hlt : k < M
    · have hpos : (0 : Int) < (M : Int) - (k : Int) := by omega
      go_wp2_with (first
        | (go_at_call 39; (with_reducible refine (n_any w.heap.size w.heap.size 2 _ HS.out (by omega) (by omega)).mono ?_); rintro e w3 ⟨x, rfl, hx1, hx2, hs, hg⟩; replace HB := Lib.hid (below_reads HB.out hg (Nat.le_refl _) HB.out.size); replace HO := Lib.hid (owns_reads HO.out hg (by omega)); replace HS := Lib.hid hs; clear hs hg)
        | (go_at_call 39; (with_reducible refine (n_any w.heap.size w.heap.size 3 _ HS.out (by omega) (by omega)).mono ?_); rintro e w4 ⟨y, rfl, hy1, hy2, hs, hg⟩; replace HB := Lib.hid (below_reads HB.out hg (Nat.le_refl _) HB.out.size); replace HO := Lib.hid (owns_reads HO.out hg (by omega)); replace HS := Lib.hid hs; clear hs hg)
        | (go_at_call 39; (with_reducible refine (n_any w.heap.size w.heap.size 30 _ HS.out (by omega) (by omega)).mono ?_); rintro e w5 ⟨z, rfl, hz1', hz2', hs, hg⟩; replace HB := Lib.hid (below_reads HB.out hg (Nat.le_refl _) HB.out.size); replace HO := Lib.hid (owns_reads HO.out hg (by omega)); replace HS := Lib.hid hs; clear hs hg)
        | (at_builtin; refine wpList_append_own _ rfl _ _ 37 rfl (w.heap.size + 1) 23 i0 (.agg #[.int .i64 0, .int .i64 0, .int .i64 0]) 3 24 Try.underlying37 Hi.out Hz0.out Hz1.out Hz2.out rfl (by decide) _ _ _ rfl (HO.out.alloc _) ⟨w5.heap.size, 0, none⟩ 1 1 [.int .i64 x, .int .i64 (1 + y), .int .i64 z] rfl rfl ?c1 ?c2 ?c3 ?c4 ?c5 ?_))
      case c1 => exact three_new w5 _ _ _ _
      case c2 =>
        intro u hu
        simp at hu
        rcases hu with rfl | rfl | rfl <;> rfl
      case c3 => unfold maxLen; omega
      case c4 => omega
      case c5 => rw [World.size_alloc]; have := HS.out.lt; omega
      intro v' w6 hown2 hgrow _
      have hlt5 := HS.out.lt
      replace HS := Lib.hid ((HS.out.keep ((Below.refl _ _).alloc (Nat.le_refl _) (.cells #[.int .i64 x, .int .i64 (1 + y), .int .i64 z] 23))).grown hgrow (fun g hg => (HO.out.lt g hg).1))
      replace HB := Lib.hid ((HB.out.alloc HB.out.size (.cells #[.int .i64 x, .int .i64 (1 + y), .int .i64 z] 23)).grown hgrow (by rw [World.size_alloc]; omega) (fun g hg => by have := (HO.out.lt g hg).1; omega))
      replace HO := Lib.hid hown2
      clear hown2 hgrow
      go_wp2
      go_roundw
      case rel =>
        refine ⟨k + 1, put f k (x, 1 + y, z), by omega, by go_num, HV.out.put (vld_iff.2 (by omega)), ?_, HS.out, HB.out⟩
        rw [platesL_put]; exact HO.out
      case measure => simp [intOf]; omega
    · obtain rfl : k = M := by omega
      have hz : ¬ (0 : Int) < (k : Int) - (k : Int) := by omega
      rcases HO.out with ⟨_, ⟨_, h0⟩ | ⟨g, cap, cur, rfl, _⟩⟩
      · omega
      · obtain ⟨r1, r2⟩ := modN_range wh (k : Int) (by omega)
        obtain ⟨K, hK, hKlt⟩ : ∃ K : Nat, modN wh (k : Int) = (K : Int) ∧ K < k := ⟨(modN wh (k : Int)).toNat, by omega, by omega⟩
        have HK := Lib.hid hK
        have HPl := Lib.hid (plates_own HO.out)
        obtain ⟨b', off', hA, hcells⟩ := HPl.out (by omega)
        injection hA with hA
        injection hA with hb' hoff'
        subst hb' hoff'
        obtain ⟨c0, c1, c2⟩ := hcells K hKlt
        rw [Nat.zero_add] at c0 c1 c2
        clear hcells hK r1 r2
        have hvK := HV.out K hKlt
        have i1 : (K : Int) < (k : Int) := by omega
        have z0 : (0 : Int) ≤ (K : Int) := by omega
        have hT : (txt (f K).1 (f K).2.1 (f K).2.2).size = 10 := txt_size hvK
        have HTd := Lib.hid (txt_dig hvK)
        have HT := Lib.hid hT
        have hcv := fun W => Lib.run_convert_string_bytes (P := Try.prog) W 9 48 5 (txt (f K).1 (f K).2.1 (f K).2.2) Try.underlying9 Try.underlying48 Try.underlying5
        rw [hT] at hcv
        clear hT hvK
        go_wp2_with (first
          | (go_at_call 27; refine (mod_any wh k _ (by omega) (by omega)).mono ?_; rintro e w3 ⟨rfl, rfl⟩; rw [HK.out])
          | (go_at_call 21; refine (format_any _ _ _ _).mono ?_; rintro e w4 ⟨rfl, hb4⟩; have HB4 := Lib.hid hb4; clear hb4))
        have hTsz := HT.out
        generalize hTT : txt (f K).1 (f K).2.1 (f K).2.2 = T at *
        have HTT := Lib.hid hTT
        have htxt := bytes_txt w4 5 T hTsz
        have hbel := bytes_below w4 5 T
        clear hcv c0 c1 c2 hTsz hTT
        generalize Lib.bytesWorld w4 5 T = V at *
        have hq : ∀ j, j < 10 → (fun j => ((T.data.toList.getD j 0).toNat : Int)) j = 63 ∨ (fun j => ((T.data.toList.getD j 0).toNat : Int)) j = ((T.data.toList.getD j 0).toNat : Int) := fun j _ => .inr rfl
        generalize (fun j => ((T.data.toList.getD j 0).toNat : Int)) = g0 at htxt hq
        have HX := Lib.hid htxt
        have HQ := Lib.hid hq
        have HV4 := Lib.hid hbel
        clear htxt hq hbel
        go_loopw [12] (fun i wx => ∃ (j : Nat) (g1 : Nat → Int), j ≤ 10 ∧ i = .int .i64 j ∧ Txt10 wx w4.heap.size g1 ∧ (∀ q, q < 10 → g1 q = 63 ∨ g1 q = ((T.data.toList.getD q 0).toNat : Int)) ∧ Below w4.heap.size w4 wx) (fun i _ => 10 - (intOf i).toNat)
        case atStart => exact ⟨0, g0, Nat.zero_le _, rfl, HX.out, HQ.out, HV4.out⟩
        case round =>
          obtain ⟨j, g1, hj, rfl, hx, hqq, hbx⟩ := hrel
          have HX1 := Lib.hid hx
          have HQ1 := Lib.hid hqq
          have HB1 := Lib.hid hbx
          clear hx hqq hbx
          by_cases hjl : j < 10
          · obtain ⟨x1, x2⟩ := HX1.out j hjl
            have j1 : (j : Int) < 10 := by omega
            have j0 : (0 : Int) ≤ (j : Int) := by omega
            go_wp2
            · go_roundw
              case rel =>
                refine ⟨j + 1, fun q => if q = j then 63 else g1 q, by omega, by go_num, HX1.out.stored j hjl 63, fun q hq => ?_, HB1.out.setCell (Nat.le_refl _) _⟩
                by_cases e : q = j
                · left; simp only [if_pos e]
                · simp only [if_neg e]; exact HQ1.out q hq
              case measure => simp [intOf]; omega
            · go_roundw
              case rel => exact ⟨j + 1, g1, by omega, by go_num, HX1.out, HQ1.out, HB1.out⟩
              case measure => simp [intOf]; omega
          · obtain rfl : j = 10 := by omega
            have hcv2 := conv_txt (cap := grownCap w4 10 0 5) HX1.out
            have HPl2 := Lib.hid ((HPl.out.keep HB4.out).keep HB1.out)
            have hk8 : k ≤ 2000 := by omega
            have hin : hasB (candL (strG g1) f k) (K : Int) = true := by
              rw [cand_has _ f k K hKlt, mat_yes (HV.out K hKlt) (strG_size g1), HTT.out]
              exact okAll_strG g1 T HT.out HQ1.out 10 (Nat.le_refl _)
            go_wp2_with (first
              | (go_at_call 33; refine (candidates_any (strG g1) _ k cap f _ hk8 HPl2.out).mono ?_; rintro e w7 ⟨vc, rfl, hoc, hbc⟩; have HOC := Lib.hid hoc; have HBC := Lib.hid hbc; clear hoc hbc)
              | (go_at_call 40; refine (in_any _ vc _ (K : Int) _ (by have := candL_length (strG g1) f k; omega) HOC.out).mono ?_; rintro e w8 ⟨rfl, rfl⟩))
            have HPl3 := Lib.hid (HPl2.out.keep HBC.out)
            have HX3 := Lib.hid (HX1.out.keep HBC.out)
            have HALL := Lib.hid (onward (onward (onward HB.out HB4.out) HB1.out) HBC.out)
            have HG : Hid (∀ q, q < 10 → 0 ≤ g1 q ∧ g1 q ≤ 255) := Lib.hid fun q hq => by
              have := HQ1.out q hq
              have hb := (T.data.toList.getD q 0).toNat_lt
              omega
            clear hcv2 hin HS HI
            go_loopw [14] (fun i wi => ∃ q : Nat, q ≤ k ∧ i = .int .i64 q ∧ Below w7.heap.size w7 wi) (fun i _ => k - (intOf i).toNat)
            case atStart => exact ⟨0, Nat.zero_le _, rfl, Below.refl _ _⟩
            case round =>
              obtain ⟨q, hq, rfl, hbq⟩ := hrel
              obtain ⟨wo, rfl⟩ : ∃ wo : World, wo = wr := ⟨_, rfl⟩
              have HBO := Lib.hid hbq
              clear hbq
              by_cases hql : q < k
              · obtain ⟨b3, o3, hA3, hcells⟩ := (HPl3.out.keep HBO.out) (by omega)
                injection hA3 with hA3
                injection hA3 with hb3 ho3
                subst hb3 ho3
                obtain ⟨c0, c1, c2⟩ := hcells q hql
                rw [Nat.zero_add] at c0 c1 c2
                clear hcells
                have q1 : (q : Int) < (k : Int) := by omega
                have q0 : (0 : Int) ≤ (q : Int) := by omega
                have hvq := HV.out q hql
                have HS10 := Lib.hid (txt_size hvq)
                have HM := Lib.hid (cand_has (strG g1) f k q hql)
                have HMY := Lib.hid (mat_yes hvq (strG_size g1))
                clear hvq
                go_wp2_with (first
                  | (go_at_call 21; refine (format_any _ _ _ _).mono ?_; rintro e w8 ⟨rfl, hb8⟩; have HB8 := Lib.hid hb8; clear hb8; have hs10 := HS10.out))
                clear hs10 c0 c1 c2
                generalize txt (f q).1 (f q).2.1 (f q).2.2 = Y at *
                have HOB := Lib.hid (onward HBO.out HB8.out)
                go_loopw [16, 17] (fun ag i wi => ∃ j : Nat, j ≤ 10 ∧ i = .int .i64 j ∧ ag = .bool (okAll (strG g1) Y j) ∧ Below w8.heap.size w8 wi) (fun _ i _ => 10 - (intOf i).toNat)
                case atStart => exact ⟨0, Nat.zero_le _, rfl, rfl, Below.refl _ _⟩
                case round =>
                  obtain ⟨j, hj, rfl, rfl, hbj⟩ := hrel
                  obtain ⟨wj, rfl⟩ : ∃ wj : World, wj = wr := ⟨_, rfl⟩
                  have HBJ := Lib.hid hbj
                  clear hbj
                  by_cases hjl : j < 10
                  · have hjY : j < Y.size := by rw [HS10.out]; exact hjl
                    have y1 : (j : Int) < (Y.size : Int) := by omega
                    have j1 : (j : Int) < 10 := by omega
                    have j0 : (0 : Int) ≤ (j : Int) := by omega
                    have x1 := (((HX3.out.keep HBO.out).keep HB8.out).keep HBJ.out j hjl).1
                    obtain ⟨g0', g2⟩ := HG.out j hjl
                    have HOK := Lib.hid (okAt_strG g1 Y j hjl hjY g0' g2)
                    have HSUCC := Lib.hid (okAll_succ (strG g1) Y j)
                    cases hag : okAll (strG g1) Y j with
                    | false =>
                      have HAG := Lib.hid hag
                      clear hag
                      go_wp2_with fail
                      go_quiet (fail)
                      clear x1
                      go_wp2
                      go_roundw
                      case rel => exact ⟨j + 1, by omega, by go_num, by rw [HSUCC.out, HAG.out]; rfl, draws HBJ.out _⟩
                      case measure => simp [intOf]; omega
                    | true =>
                      have HAG := Lib.hid hag
                      clear hag
                      by_cases e1 : g1 j = 63
                      · have b1 : (g1 j == 63) = true := by rw [beq_iff_eq]; exact e1
                        have HB63 := Lib.hid b1
                        clear e1
                        go_wp2_with fail
                        go_quiet (fail)
                        clear x1
                        go_wp2
                        go_roundw
                        case rel => exact ⟨j + 1, by omega, by go_num, by rw [HSUCC.out, HAG.out, HOK.out, HB63.out]; rfl, draws HBJ.out _⟩
                        case measure => simp [intOf]; omega
                      · have b1 : (g1 j == 63) = false := by rw [beq_eq_false_iff_ne]; exact e1
                        have HB63 := Lib.hid b1
                        clear e1
                        by_cases e2 : g1 j = (Y[j].toNat : Int)
                        · have b2 : (g1 j == (Y[j].toNat : Int)) = true := by rw [beq_iff_eq]; exact e2
                          have HBY := Lib.hid b2
                          clear e2
                          go_wp2_with fail
                          go_quiet (fail)
                          clear x1
                          go_wp2
                          go_roundw
                          case rel => exact ⟨j + 1, by omega, by go_num, by rw [HSUCC.out, HAG.out, HOK.out, HB63.out, HBY.out]; rfl, draws HBJ.out _⟩
                          case measure => simp [intOf]; omega
                        · have b2 : (g1 j == (Y[j].toNat : Int)) = false := by rw [beq_eq_false_iff_ne]; exact e2
                          have HBY := Lib.hid b2
                          clear e2
                          go_wp2_with fail
                          go_quiet (fail)
                          clear x1
                          go_wp2
                          go_roundw
                          case rel => exact ⟨j + 1, by omega, by go_num, by rw [HSUCC.out, HAG.out, HOK.out, HB63.out, HBY.out]; rfl, draws HBJ.out _⟩
                          case measure => simp [intOf]; omega
                  · obtain rfl : j = 10 := by omega
                    have heq : hasB (candL (strG g1) f k) (q : Int) = okAll (strG g1) Y 10 := HM.out.trans HMY.out
                    have HOC2 := Lib.hid (owns_below (owns_below (owns_below HOC.out HBO.out) HB8.out) HBJ.out)
                    go_wp2_with (first
                      | (go_at_call 40; refine (in_any _ vc _ (q : Int) _ (by have := candL_length (strG g1) f k; omega) HOC2.out).mono ?_; rintro e w9 ⟨rfl, rfl⟩))
                    go_roundw
                    case rel => exact ⟨q + 1, by omega, by go_num, onward HOB.out HBJ.out⟩
                    case measure => simp [intOf]; omega
              · obtain rfl : q = k := by omega
                go_wp2_with (first | (go_at_call 16; refine (awake_any _).mono ?_; rintro e w9 ⟨rfl, hb9⟩))
                go_ret
                exact ⟨rfl, onward (onward HALL.out HBO.out) hb9⟩

theorem reads_law (w : World) (A : Option Addr) (n c : Nat) (hc : n ≤ c) (h : IntsIn w.heap.size w A n) (wh : Int) (_wwh : (Lit.int .i64 wh).wf = true) (bits : Int) (_wb : (Lit.int .i64 bits).wf = true) :
    Calls Try.prog 9 #[.slice A n c, .int .i64 wh, .int .i64 bits] w fun e w' => e = .returned (.bool true) ∧ Below w.heap.size w w' := reads_any A n c wh bits w hc h
end Go.Proofs.Ytaimmohfcjoclaa
