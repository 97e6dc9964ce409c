/-
  TelegramLimits: the walk.
-/
import Derived.Test.YtmdjdhfchigekaaDoorLimA
import Derived.Deep.RegionLaw
namespace Go.Proofs.YtmdjdhfchigekaaDoor
open Go.RowKit

set_option maxRecDepth 20000 in
set_option maxHeartbeats 8000000 in
theorem tlim_any (n : Int) (w : World) :
    Calls Tryd.prog 6 #[.int .i64 n] w fun e w' => e = .returned (.bool true) ∧ Below w.heap.size w w' := by
  obtain ⟨m0, m1⟩ := modN_range n 3 (by omega)
  obtain ⟨K, hK, hK3⟩ : ∃ K : Int, modN n 3 = K + 1 ∧ (K = -1 ∨ K = 0 ∨ K = 1) := ⟨modN n 3 - 1, by omega, by omega⟩
  obtain ⟨N, hN⟩ : ∃ N : Nat, (24 + K) = (N : Int) := ⟨(24 + K).toNat, by omega⟩
  obtain ⟨M, hM⟩ : ∃ M : Nat, (8 + K) = (M : Int) := ⟨(8 + K).toNat, by omega⟩
  obtain ⟨L, hL⟩ : ∃ L : Nat, (20 + K) = (L : Int) := ⟨(20 + K).toNat, by omega⟩
  have w0 : IntKind.i64.wrap (K + 1 - 1) = K := by rcases hK3 with rfl | rfl | rfl <;> rfl
  have w0' : IntKind.i64.wrap K = K := by rcases hK3 with rfl | rfl | rfl <;> rfl
  have w1 : IntKind.i64.wrap (24 + K) = (N : Int) := by rw [← hN]; rcases hK3 with rfl | rfl | rfl <;> rfl
  have w2 : IntKind.i64.wrap (8 + K) = (M : Int) := by rw [← hM]; rcases hK3 with rfl | rfl | rfl <;> rfl
  have w3 : IntKind.i64.wrap (20 + K) = (L : Int) := by rw [← hL]; rcases hK3 with rfl | rfl | rfl <;> rfl
  have hN2 : N ≤ 25 := by omega
  have hM2 : M ≤ 9 := by omega
  have hL2 : L ≤ 21 := by omega
  have HA := hide (lim_A hK3)
  have HBB := hide (lim_B hK3)
  have HC := hide (lim_C hK3)
  rw [hN, Int.toNat_natCast] at HA
  rw [hM, Int.toNat_natCast] at HBB
  rw [hL, Int.toNat_natCast] at HC
  have HP := hide (fun (S : ByteArray) (h : S.data.toList = bodyX (24 + K).toNat) => parse_lim hK3 h)
  have HNN := Lib.hid hN
  rw [hN, Int.toNat_natCast] at HP
  have HK := Lib.hid hK
  have HK3 := Lib.hid hK3
  clear hK3 hN hM hL m0 m1
  obtain ⟨i2, ki, kz0, kz1, kz2⟩ := info_parts info_el
  have KI0 := hide ki
  have KZ0 := hide kz0
  have KZ1 := hide kz1
  have KZ2 := hide kz2
  clear ki kz0 kz1 kz2
  have b0 := (Below.refl w.heap.size w).alloc (Nat.le_refl _) (.cells #[.string ⟨#[66, 83, 77]⟩, .string ⟨#[]⟩, .slice none 0 0] 24)
  have HT0 := hide (heap_alloc_new w (.cells #[.string ⟨#[66, 83, 77]⟩, .string ⟨#[]⟩, .slice none 0 0] 24))
  have B0 := Lib.hid b0
  clear b0 hK
  go_enter Tryd.func6, Tryd.ntmps6
  go_wp2_with fail
  refine (mod_any n 3 w (by omega) (by omega)).mono ?_
  rintro e wx ⟨rfl, rfl⟩
  rw [HK.out]
  go_wp2_with fail
  go_loopw [5] (fun v wr => ∃ (xs : List ElS) (A : Option Addr) (c : Nat), v = .int .i64 xs.length ∧ xs.length ≤ N ∧ Hid (xs.map (·.1) = List.replicate xs.length eA) ∧ Fin w.heap.size wr xs ∧ wr.ownsRow (w.heap.size + 1) 34 2 (.slice A xs.length c) xs.length (xs.flatMap elCells) ∧ wr.heap[w.heap.size]? = some (.cells #[.string ⟨#[66, 83, 77]⟩, .string ⟨#[]⟩, .slice A xs.length c] 24 (0, 0)) ∧ Below w.heap.size w wr) (fun v _ => N - (intOf v).toNat)
  case atStart => exact ⟨[], none, 0, rfl, Nat.zero_le _, Lib.hid rfl, (fun _ h => by cases h), World.ownsRow_nil _ _ _ _, unhide HT0, B0.out⟩
  case round =>
    obtain ⟨xs, A, c, rfl, hle, hmap, hfin, hown, htb, hbel⟩ := hrel
    obtain ⟨wo, rfl⟩ : ∃ wo : World, wo = wr := ⟨_, rfl⟩
    have HFin := hide hfin
    have HOwn := hide hown
    have HBel := hide hbel
    have htlt : w.heap.size < wo.heap.size := (Array.getElem?_eq_some_iff.1 htb).1
    have t0 : wo.cell? ⟨w.heap.size, 0, none⟩ = some (.string ⟨#[66, 83, 77]⟩) := by rw [Lib.cell_of_heap htb]; rfl
    have t1 : wo.cell? ⟨w.heap.size, 1, none⟩ = some (.string ⟨#[]⟩) := by rw [Lib.cell_of_heap htb]; rfl
    have t2 : wo.cell? ⟨w.heap.size, 2, none⟩ = some (.slice A xs.length c) := by rw [Lib.cell_of_heap htb]; rfl
    have tf : wo.frozen? ⟨w.heap.size, 2, none⟩ = false := Lib.frozen_of_heap htb 2
    clear hfin hown hbel
    by_cases hlt : xs.length < N
    · have kl : (xs.length : Int) < (N : Int) := by omega
      have bq := ((Below.refl wo.heap.size wo).alloc (Nat.le_refl _) (.cells #[.string ⟨#[66]⟩] 9)).alloc (by rw [World.size_alloc]; omega) (.cells #[.string ⟨#[65]⟩, .slice (some ⟨wo.heap.size, 0, none⟩) 1 1] 34)
      have hY : ((wo.alloc (.cells #[.string ⟨#[66]⟩] 9)).alloc (.cells #[.string ⟨#[65]⟩, .slice (some ⟨wo.heap.size, 0, none⟩) 1 1] 34)).heap[wo.heap.size + 1]? = some (.cells #[.string ⟨#[65]⟩, .slice (some ⟨wo.heap.size, 0, none⟩) 1 1] 34 (0, 0)) := by
        have := heap_alloc_new (wo.alloc (.cells #[.string ⟨#[66]⟩] 9)) (.cells #[.string ⟨#[65]⟩, .slice (some ⟨wo.heap.size, 0, none⟩) 1 1] 34)
        rwa [World.size_alloc] at this
      have hX : ((wo.alloc (.cells #[.string ⟨#[66]⟩] 9)).alloc (.cells #[.string ⟨#[65]⟩, .slice (some ⟨wo.heap.size, 0, none⟩) 1 1] 34)).heap[wo.heap.size]? = some (.cells #[.string ⟨#[66]⟩] 9 (0, 0)) :=
        (heap_alloc_old _ _ (by rw [World.size_alloc]; omega)).trans (heap_alloc_new _ _)
      have htb1 := (bq.block w.heap.size htlt).trans htb
      have HO1 := hide (((unhide HOwn).alloc (.cells #[.string ⟨#[66]⟩] 9)).alloc (.cells #[.string ⟨#[65]⟩, .slice (some ⟨wo.heap.size, 0, none⟩) 1 1] 34))
      have HF1 := hide ((unhide HFin).step (KeepS.below bq))
      have HP1 := hide (show StrRow w.heap.size _ (some ⟨wo.heap.size, 0, none⟩) [⟨#[66]⟩] from fun _ => ⟨_, _, _, rfl, by omega, hX, fun i hi => by
        have hi' : i < 1 := hi
        obtain rfl : i = 0 := by omega
        rfl⟩)
      have HB1 := hide (((unhide HBel).alloc (unhide HBel).size (.cells #[.string ⟨#[66]⟩] 9)).alloc (by have := (unhide HBel).size; rw [World.size_alloc]; omega) (.cells #[.string ⟨#[65]⟩, .slice (some ⟨wo.heap.size, 0, none⟩) 1 1] 34))
      have hsz1 : w.heap.size + 1 ≤ ((wo.alloc (.cells #[.string ⟨#[66]⟩] 9)).alloc (.cells #[.string ⟨#[65]⟩, .slice (some ⟨wo.heap.size, 0, none⟩) 1 1] 34)).heap.size := by rw [World.size_alloc, World.size_alloc]; omega
      have HTB1 := hide htb1
      have HY1 := hide hY
      clear bq htb1 htb hY hX t0 t1
      go_wp2_with (at_builtin; refine wpList_append_lies _ rfl _ _ 22 rfl (w.heap.size + 1) 34 i2 (.agg #[.string ByteArray.empty, .slice none 0 0]) 2 40 Tryd.underlying22 (unhide KI0) (unhide KZ0) (unhide KZ1) (unhide KZ2) rfl (by decide) _ _ _ rfl (unhide HO1) ⟨wo.heap.size + 1, 0, none⟩ 1 1 [.string ⟨#[65]⟩, .slice (some ⟨wo.heap.size, 0, none⟩) 1 1] rfl rfl (World.news_of_block (unhide HY1)) (by
              intro u hu
              simp at hu
              rcases hu with rfl | rfl <;> rfl) (by omega) (by unfold maxLen; omega) (by omega) hsz1 _ rfl ?_)
      intro g cap w7 hown7 hgrow hat hlt7
      have hT7 := (hgrow.block w.heap.size (Array.getElem?_eq_some_iff.1 (unhide HTB1)).1 (own_ne (unhide HO1) (unhide HTB1) (by decide))).trans (unhide HTB1)
      have t27 := Lib.cell_of_heap hT7 2
      have tf7 := Lib.frozen_of_heap hT7 2
      have HT8 := hide (heap_set2 (y := .slice (some ⟨g, 0, none⟩) (xs.length + 1) cap) hT7)
      have hg8 := Lib.grownBy_setB (World.grownBy.refl w7 (some w.heap.size)) 2 (.slice (some ⟨g, 0, none⟩) (xs.length + 1) cap)
      have hrow := fun k hk => ((unhide HO1).lt k hk).1
      have hK7 := (KeepS.grow (b := w.heap.size) (unhide HO1) (by decide) hgrow).trans (KeepS.other hg8 hT7 (by decide))
      have HF8 := hide (((unhide HF1).step hK7).snoc (x := (eA, some ⟨wo.heap.size, 0, none⟩, 1)) ((unhide HP1).step hK7))
      have HO8 := hide (hown7.kept hg8 (Or.inr fun e => own_ne hown7 hT7 (by decide) e.symm))
      have hB7 := (unhide HB1).grown hgrow (by omega) (fun k hk => by have := hrow k hk; omega)
      have HB8 := hide (hB7.grown hg8 (by have := hgrow.size; omega) (fun k hk => by cases hk; omega))
      have HM8 := hide (show (xs ++ [((eA, some ⟨wo.heap.size, 0, none⟩, 1) : ElS)]).map (fun x => x.1) = List.replicate (xs.length + 1) eA by rw [List.map_append, hmap.out, List.replicate_succ']; rfl)
      clear hown7 hgrow hat hlt7 hT7 hg8 hrow hK7 hB7 hmap
      go_wp2
      go_roundw
      case rel =>
        refine ⟨xs ++ [(eA, some ⟨wo.heap.size, 0, none⟩, 1)], some ⟨g, 0, none⟩, cap, by rw [List.length_append, List.length_singleton]; go_num, by rw [List.length_append, List.length_singleton]; omega, ?_, unhide HF8, ?_, ?_, unhide HB8⟩
        · rw [List.length_append, List.length_singleton]; exact Lib.hid (unhide HM8)
        · rw [List.length_append, List.length_singleton, List.flatMap_append]
          have := unhide HO8
          simpa [elCells, eA] using this
        · rw [List.length_append, List.length_singleton]; exact unhide HT8
      case measure => simp [intOf]; omega
    · obtain hxs : xs.length = N := by omega
      have kl : ¬ (xs.length : Int) < (N : Int) := by omega
      have hEA := (unhide HFin).els (unhide HOwn) (by omega)
      rw [hmap.out, hxs] at hEA
      have hmk := run_make_row' (P := Tryd.prog) 32 9 (.string ByteArray.empty) 16 Tryd.underlying32 info_strE rfl .i64 .i64 M (by omega) (by omega)
      rw [hxs] at t2
      obtain ⟨D, hD⟩ : ∃ D : ByteArray, D = ByteArray.extract ⟨#[48, 49, 50, 51, 52, 53, 54, 55, 56, 57, 65, 66, 67, 68, 69, 70, 71, 72, 73, 74, 75]⟩ 0 L := ⟨_, rfl⟩
      have hU := limU_below wo M D
      obtain ⟨p0, p1, p2⟩ : TBox (limU wo M D) w.heap.size ⟨#[66, 83, 77]⟩ ⟨#[]⟩ (.slice A N c) := TBox.keep ⟨t0, t1, t2⟩ hU
      have hlen : (tA N).els.length = N := List.length_replicate
      obtain ⟨V, hV⟩ : ∃ V : World, V = limV wo A N c M D := ⟨_, rfl⟩
      have hV0 := limV_below wo A N c M D
      obtain ⟨e1, e2⟩ := limV_els wo A N c M D w.heap.size htlt
      have hV2 := limV_cells wo A N c M D
      have HEA := hide (hEA.keep hV0)
      have HBW := hide (onward (unhide HBel) hV0)
      have HLT := hide (Nat.lt_of_lt_of_le htlt hV0.size)
      rw [← hV] at HEA HBW HLT e1 e2 hV2
      have HE1 := hide (show ElsIn w.heap.size V _ (tB M).els from e1)
      have HE2 := hide (show ElsIn w.heap.size V _ (tC L).els from by unfold tC digS; rw [← hD]; exact e2)
      have c0 : V.cell? ⟨wo.heap.size + 1 + 1 + 1 + 1 + 1 + 1, 0, none⟩ = some (.string ⟨#[66, 83, 77]⟩) := by rw [Lib.cell_of_heap hV2]; rfl
      have c1 : V.cell? ⟨wo.heap.size + 1 + 1 + 1 + 1 + 1 + 1, 1, none⟩ = some (.string ⟨#[]⟩) := by rw [Lib.cell_of_heap hV2]; rfl
      have c2 : V.cell? ⟨wo.heap.size + 1 + 1 + 1 + 1 + 1 + 1, 2, none⟩ = some (.slice A N c) := by rw [Lib.cell_of_heap hV2]; rfl
      have c3 : V.cell? ⟨wo.heap.size + 1 + 1 + 1 + 1 + 1 + 1, 3, none⟩ = some (.string ⟨#[66, 83, 77]⟩) := by rw [Lib.cell_of_heap hV2]; rfl
      have c4 : V.cell? ⟨wo.heap.size + 1 + 1 + 1 + 1 + 1 + 1, 4, none⟩ = some (.string ⟨#[]⟩) := by rw [Lib.cell_of_heap hV2]; rfl
      have c5 : V.cell? ⟨wo.heap.size + 1 + 1 + 1 + 1 + 1 + 1, 5, none⟩ = some (.slice (some ⟨wo.heap.size + 1, 0, none⟩) 1 1) := by rw [Lib.cell_of_heap hV2]; rfl
      have c6 : V.cell? ⟨wo.heap.size + 1 + 1 + 1 + 1 + 1 + 1, 6, none⟩ = some (.string ⟨#[66, 83, 77]⟩) := by rw [Lib.cell_of_heap hV2]; rfl
      have c7 : V.cell? ⟨wo.heap.size + 1 + 1 + 1 + 1 + 1 + 1, 7, none⟩ = some (.string ⟨#[]⟩) := by rw [Lib.cell_of_heap hV2]; rfl
      have c8 : V.cell? ⟨wo.heap.size + 1 + 1 + 1 + 1 + 1 + 1, 8, none⟩ = some (.slice (some ⟨wo.heap.size + 1 + 1 + 1 + 1, 0, none⟩) 1 1) := by rw [Lib.cell_of_heap hV2]; rfl
      have HX := hide (And.intro c0 (And.intro c1 (And.intro c2 (And.intro c3 (And.intro c4 (And.intro c5 (And.intro c6 (And.intro c7 c8))))))))
      have HV := Lib.hid hV
      have HLN := Lib.hid hlen
      unfold limU at p0 p1 p2
      rw [hD] at p0 p1 p2
      have HD := Lib.hid hD
      have alt := Lib.hid (show (K ≤ 0 ∧ ¬ 0 < K ∧ limE K = 0 ∧ decide (0 < K) = false) ∨ (¬ K ≤ 0 ∧ 0 < K ∧ limE K = 2 ∧ decide (0 < K) = true) by
        by_cases h : K ≤ 0
        · exact .inl ⟨h, by omega, by unfold limE; rw [if_pos h], decide_eq_false (by omega)⟩
        · exact .inr ⟨h, by omega, by unfold limE; rw [if_neg h], decide_eq_true (by omega)⟩)
      clear hxs htb htlt hEA HFin HOwn HBel hmap hU hV0 e1 e2 hV2 c0 c1 c2 c3 c4 c5 c6 c7 c8 hD hV hlen t0 t1 t2
      go_wp2_with fail
      rcases alt.out with ⟨k1, k2, hE, hq⟩ | ⟨k1, k2, hE, hq⟩
      all_goals
        go_loopw [52] (fun i wr => ∃ j : Nat, j ≤ 3 ∧ i = .int .i64 j ∧ Below V.heap.size V wr) (fun i _ => 3 - (intOf i).toNat)
        case atStart => exact ⟨0, by omega, rfl, by rw [HV.out, HD.out]; exact Below.refl _ _⟩
        case round =>
          obtain ⟨j, hj3, rfl, hb⟩ := hrel
          obtain ⟨wi, rfl⟩ : ∃ wi : World, wi = wr := ⟨_, rfl⟩
          have HB := Lib.hid hb
          clear hb p0 p1 p2
          rcases (by omega : j = 0 ∨ j = 1 ∨ j = 2 ∨ j = 3) with rfl | rfl | rfl | rfl
          · obtain ⟨c0, c1, c2, _⟩ := unhide HX
            have y0 := kept HB.out c0
            have y1 := kept HB.out c1
            have y2 := kept HB.out c2
            clear c0 c1 c2
            have bn := Lib.hid ((Below.refl wi.heap.size wi).alloc (Nat.le_refl _) (.cells #[.string ⟨#[66, 83, 77]⟩, .string ⟨#[]⟩, .slice A N c] 24))
            go_wp2_with fail
            refine (fmt_lim (k := K) (t := tA N) rfl rfl HLN.out (small_A N (by omega)) (unhide HA) w.heap.size A c _ (((unhide HEA).keep HB.out).keep bn.out)).mono ?_
            rintro e w5 ⟨S, rfl, hSe, hb5⟩
            rw [hE]
            rw [hq] at hSe
            have B5 := Lib.hid ((onward HB.out bn.out).trans (hb5.mono (onward HB.out bn.out).size))
            clear hb5
            go_wp2
            go_roundw
            case rel => exact ⟨1, by omega, by go_num, B5.out⟩
            case measure => simp [intOf]
          · obtain ⟨_, _, _, c0, c1, c2, _⟩ := unhide HX
            have y0 := kept HB.out c0
            have y1 := kept HB.out c1
            have y2 := kept HB.out c2
            clear c0 c1 c2
            have bn := Lib.hid ((Below.refl wi.heap.size wi).alloc (Nat.le_refl _) (.cells #[.string ⟨#[66, 83, 77]⟩, .string ⟨#[]⟩, .slice (some ⟨wo.heap.size + 1, 0, none⟩) 1 1] 24))
            go_wp2_with fail
            refine (fmt_lim (k := K) (t := tB M) rfl rfl rfl (small_B M (by omega)) (unhide HBB) w.heap.size _ 1 _ (((unhide HE1).keep HB.out).keep bn.out)).mono ?_
            rintro e w5 ⟨S, rfl, hSe, hb5⟩
            rw [hE]
            rw [hq] at hSe
            have B5 := Lib.hid ((onward HB.out bn.out).trans (hb5.mono (onward HB.out bn.out).size))
            clear hb5
            go_wp2
            go_roundw
            case rel => exact ⟨2, by omega, by go_num, B5.out⟩
            case measure => simp [intOf]
          · obtain ⟨_, _, _, _, _, _, c0, c1, c2⟩ := unhide HX
            have y0 := kept HB.out c0
            have y1 := kept HB.out c1
            have y2 := kept HB.out c2
            clear c0 c1 c2
            have bn := Lib.hid ((Below.refl wi.heap.size wi).alloc (Nat.le_refl _) (.cells #[.string ⟨#[66, 83, 77]⟩, .string ⟨#[]⟩, .slice (some ⟨wo.heap.size + 1 + 1 + 1 + 1, 0, none⟩) 1 1] 24))
            go_wp2_with fail
            refine (fmt_lim (k := K) (t := tC L) rfl rfl rfl (small_C L) (unhide HC) w.heap.size _ 1 _ (((unhide HE2).keep HB.out).keep bn.out)).mono ?_
            rintro e w5 ⟨S, rfl, hSe, hb5⟩
            rw [hE]
            rw [hq] at hSe
            have B5 := Lib.hid ((onward HB.out bn.out).trans (hb5.mono (onward HB.out bn.out).size))
            clear hb5
            go_wp2
            go_roundw
            case rel => exact ⟨3, by omega, by go_num, B5.out⟩
            case measure => simp [intOf]
          · go_wp2_with fail
            go_loop [12, 13] (fun v i => ∃ (k : Nat) (S : ByteArray), k ≤ N ∧ i = .int .i64 k ∧ v = .string S ∧ Hid (S.data.toList = bodyX k)) (fun _ i => N - (intOf i).toNat)
            case atStart => exact ⟨0, ⟨#[]⟩, Nat.zero_le _, rfl, rfl, Lib.hid rfl⟩
            case round =>
              obtain ⟨k, S, hkN, rfl, rfl, hS⟩ := hrel
              have hSz : S.size ≤ 125 := by
                have h1 : S.data.toList.length = S.size := by simp
                have h2 := bodyX_length k
                rw [hS.out] at h1
                omega
              by_cases hkl : k < N
              · have kl : (k : Int) < (N : Int) := by omega
                go_wp2
                go_round
                case rel => exact ⟨k + 1, _, by omega, by go_num, rfl, Lib.hid (by rw [bodyX_step, ← hS.out]; simp [ByteArray.data_append])⟩
                case measure => simp [intOf]; omega
              · obtain rfl : k = N := by omega
                have kl : ¬ (k : Int) < (k : Int) := by omega
                go_wp2_with fail
                refine (unhide HP S hS.out w.heap.size _ (Nat.lt_of_lt_of_le (unhide HLT) HB.out.size)).mono ?_
                rintro e w6 ⟨t, P, d, l, rfl, hl, hb6⟩
                rw [hE]
                have B6 := Lib.hid (below_new (onward (onward (unhide HBW) HB.out) hb6) (.cells #[.string t.kind, .string t.change, .slice P t.els.length d] 24))
                clear hb6
                first
                  | (have hl26 := hl k2; subst hl26)
                  | clear hl
                go_wp2_with fail
                refine (tawake_any _).mono ?_
                rintro e w9 ⟨rfl, hb9⟩
                go_wp2
                go_ret
                first
                  | exact ⟨rfl, onward B6.out hb9⟩
                  | exact ⟨ret_bool (show (!decide (K ≤ 0)) = true by rw [decide_eq_false (show ¬ K ≤ 0 by omega)]; rfl), onward B6.out hb9⟩

theorem tlim_law (n : Int) (_hn : (Lit.int .i64 n).wf = true) {w : World} :
    Calls Tryd.prog 6 #[.int .i64 n] w fun e w' => e = .returned (.bool true) ∧ Below w.heap.size w w' := tlim_any n w
end Go.Proofs.YtmdjdhfchigekaaDoor
