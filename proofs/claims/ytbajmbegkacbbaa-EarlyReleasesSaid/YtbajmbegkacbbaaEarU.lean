/-
  Early (layer 19): the law EarlyReleases: its walk.
-/
import Derived.Test.YtbajmbegkacbbaaEarV
import Derived.Test.YtbajmbegkacbbaaAnyW
namespace Go.Proofs.Ytbajmbegkacbbaa
open Go.RowKit

set_option maxHeartbeats 4000000 in
set_option maxRecDepth 100000 in
theorem releases_any (A0 : Option Addr) (n0 c0 : Nat) (hc0 : n0 ≤ c0) {w : World} (h0 : IntsIn w.heap.size w A0 n0) :
    Calls Try.prog 4 #[.slice A0 n0 c0] w fun e w' => e = .returned (.bool true) ∧ Below w.heap.size w w' := by
  have HSt := hide (stored_any A0 n0 c0 w hc0 h0)
  obtain ⟨i0, zz, hi0, hia, hib, hic, hid⟩ := info_size info_sb
  have HI0 := hide hi0
  have HIA := hide hia
  have HIB := hide hib
  have HIC := hide hic
  have HID := hide hid
  clear h0 hi0 hia hib hic hid
  go_enter Try.func4, Try.ntmps4
  go_upto_region 1 with fail
  go_wp2_with fail
  refine (unhide HSt).mono ?_
  rintro e w1 ⟨T0, A1, c1, rfl, hT, ho, hb⟩
  have HB1 := hide hb
  have HT := hide hT
  have HCap := hide (own_cap ho)
  have HRw := hide (show SbIn w.heap.size w1 A1 T0 from RowIn.own ho (.inl (Nat.lt_succ_self w.heap.size)))
  have hz := hT.len
  clear ho hb hT HSt
  go_wp2_with fail
  refine (rank_any w.heap.size T0 A1 c1 w1 (by omega) (unhide HRw)).mono ?_
  rintro e w2 ⟨A3, c3, rfl, _, hn, hb⟩
  obtain ⟨L, hL⟩ : ∃ L, (rnkI T0).length = L := ⟨_, rfl⟩
  have HL2 := hide hL
  have HL := hide (show L = (rkL T0).length by rw [← hL]; unfold rnkI; rw [List.length_map])
  have H0 := hide (show RelI w w2.heap.size T0 A3 0 T0 A1 c1 w2 from ⟨onward (unhide HB1) hb, ⟨_, (unhide HRw).keep hb⟩, unhide HCap, hn _ (.inr (Nat.le_refl _)), unhide HT, rfl⟩)
  have lN : ((L : Int) != (T0.length : Int)) = false := by
    have : (rkL T0).length = T0.length := rk_len (unhide H0).cnt
    rw [bne_eq_false_iff_eq, unhide HL, this]
  rw [hL]
  clear hL hn hb HB1 HT HCap HRw
  go_wp2_with fail
  clear lN
  go_loopw [3, 5, 6] (fun s3 s5 s6 wr => ∃ (m k : Nat) (T : List Sb) (A : Option Addr) (c : Nat), m ≤ 6 ∧ s3 = .slice A T.length c ∧ s5 = .int .i64 k ∧ s6 = .int .i64 m ∧ Hid (RelI w w2.heap.size T0 A3 k T A c wr ∧ k ≤ L ∧ (0 < m → nxtI T ((m : Int) - 1) = 0))) (fun _ _ s6 _ => 6 - (intOf s6).toNat)
  case atStart => exact ⟨0, 0, T0, A1, c1, by omega, rfl, rfl, rfl, hide ⟨unhide H0, Nat.zero_le _, fun h => absurd h (Nat.lt_irrefl 0)⟩⟩
  case round =>
    clear H0
    obtain ⟨m, k, T, A, c, hm, rfl, rfl, rfl, HS⟩ := hrel
    obtain ⟨wo, rfl⟩ : ∃ wo : World, wo = wr := ⟨_, rfl⟩
    by_cases hlt : m < 6
    · have ml : (m : Int) < 6 := by omega
      go_wp2_with fail
      obtain ⟨bX, hsb⟩ := (unhide HS).1.row
      refine (next_any bX T A c m wo (by have := (unhide HS).1.ok.len; omega) hsb).mono ?_
      rintro e w4 ⟨rfl, hb⟩
      have HS4 := hide (show RelI w w2.heap.size T0 A3 k T A c w4 ∧ k ≤ L from ⟨(unhide HS).1.below hb, (unhide HS).2.1⟩)
      clear hb hsb HS
      go_wp2_with fail
      go_loopw [3, 5, 7] (fun s3 s5 s7 wr => ∃ (k : Nat) (T : List Sb) (A : Option Addr) (c : Nat), s3 = .slice A T.length c ∧ s5 = .int .i64 k ∧ s7 = .int .i64 (nxtI T m) ∧ Hid (RelI w w2.heap.size T0 A3 k T A c wr ∧ k ≤ L)) (fun _ s5 _ _ => L - (intOf s5).toNat)
      case atStart => exact ⟨k, T, A, c, rfl, rfl, rfl, HS4⟩
      case round =>
        clear HS4
        obtain ⟨k, T, A, c, rfl, rfl, rfl, HJ⟩ := hrel
        obtain ⟨wq, rfl⟩ : ∃ wq : World, wq = wr := ⟨_, rfl⟩
        obtain ⟨bb, hbb⟩ : ∃ bb, nxtI T m = bb := ⟨_, rfl⟩
        have HBb := hide hbb
        rw [hbb]
        clear hbb
        by_cases hn : bb = 0
        · subst hn
          go_wp2
          go_roundw
          case rel => exact ⟨m + 1, k, T, A, c, by omega, rfl, rfl, by go_num, hide ⟨(unhide HJ).1, (unhide HJ).2, fun _ => by rw [show ((m + 1 : Nat) : Int) - 1 = (m : Int) by omega]; exact unhide HBb⟩⟩
          case measure => simp [intOf]; omega
        have hnb : (bb != 0) = true := by rw [bne_iff_ne]; exact hn
        obtain ⟨s, r, hr1, hr2, hr3, hr4, hr5, hr6, hr7⟩ := (unhide HJ).1.next (now := (m : Int)) (by rw [unhide HBb]; exact hn)
        rw [unhide HBb] at hr2
        have HRk := hide (show rkL T = s :: r ∧ s.1 = bb ∧ s.2 ≤ (m : Int) ∧ (1 ≤ s.1 ∧ s.1 ≤ 9) ∧ k < (rkL T0).length ∧ (rnkI T0).getD k 0 = s.1 ∧ (rkL T0).drop (k + 1) = r from ⟨hr1, hr2, hr3, hr4, hr5, hr6, hr7⟩)
        have HT11 := hide (unhide HJ).1.ok.len
        clear hr1 hr2 hr3 hr4 hr5 hr6 hr7 hn
        go_wp2_with fail
        clear hnb
        go_loopw [8, 9] (fun s8 s9 wr => ∃ (i : Nat) (at_ : Int), i ≤ T.length ∧ s8 = .int .i64 at_ ∧ s9 = .int .i64 i ∧ Hid (AtI T bb i at_) ∧ Hid (Below wq.heap.size wq wr)) (fun _ s9 _ => T.length - (intOf s9).toNat)
        case atStart => exact ⟨0, -1, Nat.zero_le _, rfl, rfl, hide AtI.start, hide (Below.refl _ _)⟩
        case round =>
          obtain ⟨i, at_, hiT, rfl, rfl, HAt, HWr⟩ := hrel
          obtain ⟨wq2, rfl⟩ : ∃ wq2 : World, wq2 = wr := ⟨_, rfl⟩
          have hT11 := unhide HT11
          by_cases hi : i < T.length
          · have HIl := hide hi
            have iN : (i : Int) < (T.length : Int) := by omega
            have i0' : (0 : Int) ≤ (i : Int) := by omega
            have HQ := hide ((unhide HJ).1.below (unhide HWr))
            obtain ⟨bX, hsb⟩ := (unhide HQ).row
            obtain ⟨gl, ol, rfl, hld⟩ := sb_get hsb hi
            obtain ⟨x, hx⟩ : ∃ x, T.getD i (0, 0) = x := ⟨_, rfl⟩
            rw [hx] at hld
            have a0 : wq2.cell? ⟨gl, ol + i * 2, none⟩ = some (.int .i64 x.1) := hld 0 _ rfl
            have a1 : wq2.cell? ⟨gl, ol + i * 2 + 1, none⟩ = some (.int .i64 x.2) := hld 1 _ rfl
            have HXe := hide hx
            obtain ⟨xa, xb⟩ := x
            simp only [] at a0 a1
            replace a0 := After.cell a0
            replace a1 := After.cell a1
            clear hld hx hi HQ
            by_cases e1 : xa = bb
            · by_cases e2 : at_ = -1
              · have HAt2 := hide (show AtI T bb (i + 1) (i : Int) from AtI.first (by have := unhide HAt; rw [e2] at this; exact this) (by rw [unhide HXe]; exact e1))
                have e1b : (xa == bb) = true := by rw [beq_iff_eq]; exact e1
                have HE1 := hide e1
                have HE2 := hide e2
                clear e1 e2
                have e3 : at_ < 0 := by have := unhide HE2; omega
                go_wp2_with fail
                refine wp_region_after (by kernel_rfl) (by kernel_rfl) ?_
                repeat (go_big_quiet_step (fail))
                refine wpQuiet_nil ?_
                rintro _ ⟨t, rfl⟩
                have HWn := hide (onward (unhide HWr) t.is)
                generalize t.to = wn at HWn ⊢
                clear t a0 a1 hsb
                go_wp2
                go_roundw
                case rel => exact ⟨i + 1, (i : Int), by have := unhide HIl; omega, rfl, by go_num, HAt2, HWn⟩
                case measure => have := unhide HIl; simp [intOf]; omega
              · obtain ⟨p, hp, hpi⟩ : ∃ p : Nat, at_ = (p : Int) ∧ p < i := by
                  rcases unhide HAt with ⟨h, _⟩ | ⟨p, h, h2, _⟩
                  · exact absurd h e2
                  · exact ⟨p, h, h2⟩
                subst hp
                have HE1 := hide e1
                clear e2 e1
                have p0 : (0 : Int) ≤ (p : Int) := by omega
                have p0n : decide ((p : Int) < 0) = false := by rw [decide_eq_false_iff_not]; omega
                have pN : (p : Int) < (T.length : Int) := by have := unhide HIl; omega
                have e1b : (xa == bb) = true := by rw [beq_iff_eq]; exact unhide HE1
                obtain ⟨g3, o3, eA3, hld3⟩ := sb_get hsb (m := p) (by have := unhide HIl; omega)
                injection eA3 with eA3
                injection eA3 with ea3 eb3
                subst ea3
                subst eb3
                obtain ⟨y, hy⟩ : ∃ y, T.getD p (0, 0) = y := ⟨_, rfl⟩
                rw [hy] at hld3
                have b1 : wq2.cell? ⟨gl, ol + p * 2 + 1, none⟩ = some (.int .i64 y.2) := hld3 1 _ rfl
                have HYe := hide hy
                obtain ⟨ya, yb⟩ := y
                simp only [] at b1
                replace b1 := After.cell b1
                clear hld3 hy hsb hpi
                by_cases e3 : xb < yb
                · have HAt2 := hide (show AtI T bb (i + 1) (i : Int) from AtI.less (unhide HAt) (by rw [unhide HXe]; exact unhide HE1) (by rw [unhide HXe, unhide HYe]; exact e3))
                  go_wp2_with fail
                  refine wp_region_after (by kernel_rfl) (by kernel_rfl) ?_
                  repeat (go_big_quiet_step (fail))
                  refine wpQuiet_nil ?_
                  rintro _ ⟨t, rfl⟩
                  have HWn := hide (onward (unhide HWr) t.is)
                  generalize t.to = wn at HWn ⊢
                  clear t a0 a1 b1
                  go_wp2
                  go_roundw
                  case rel => exact ⟨i + 1, (i : Int), by have := unhide HIl; omega, rfl, by go_num, HAt2, HWn⟩
                  case measure => have := unhide HIl; simp [intOf]; omega
                · have HAt2 := hide (show AtI T bb (i + 1) (p : Int) from AtI.stay (unhide HAt) (by rw [unhide HXe, unhide HYe]; exact e3))
                  have e3n : decide (xb < yb) = false := by rw [decide_eq_false_iff_not]; exact e3
                  go_wp2_with fail
                  refine wp_region_after (by kernel_rfl) (by kernel_rfl) ?_
                  repeat (go_big_quiet_step (fail))
                  refine wpQuiet_nil ?_
                  rintro _ ⟨t, rfl⟩
                  have HWn := hide (onward (unhide HWr) t.is)
                  generalize t.to = wn at HWn ⊢
                  clear t a0 a1 b1
                  go_wp2
                  go_roundw
                  case rel => exact ⟨i + 1, (p : Int), by have := unhide HIl; omega, rfl, by go_num, HAt2, HWn⟩
                  case measure => have := unhide HIl; simp [intOf]; omega
            · have HAt2 := hide (show AtI T bb (i + 1) at_ from (unhide HAt).skip (by rw [unhide HXe]; exact e1))
              have e1b : (xa == bb) = false := by rw [beq_eq_false_iff_ne]; exact e1
              have HE1 := hide e1
              clear e1
              go_wp2_with fail
              refine wp_region_after (by kernel_rfl) (by kernel_rfl) ?_
              repeat (go_big_quiet_step (fail))
              refine wpQuiet_nil ?_
              rintro _ ⟨t, rfl⟩
              have HWn := hide (onward (unhide HWr) t.is)
              generalize t.to = wn at HWn ⊢
              clear t a0 a1 hsb
              go_wp2
              go_roundw
              case rel => exact ⟨i + 1, at_, by have := unhide HIl; omega, rfl, by go_num, HAt2, HWn⟩
              case measure => have := unhide HIl; simp [intOf]; omega
          · obtain rfl : i = T.length := by omega
            have iN : ¬ (T.length : Int) < (T.length : Int) := by omega
            obtain ⟨p, rfl, hpT, hps⟩ := (unhide HAt).found (unhide HRk).1 (unhide HRk).2.1 (by have := (unhide HRk).2.2.2.1; have := (unhide HRk).2.1; omega)
            have HQ := hide ((unhide HJ).1.below (unhide HWr))
            have p0 : (0 : Int) ≤ (p : Int) := by omega
            have p0n : ¬ (p : Int) < 0 := by omega
            have p0m : decide ((p : Int) < 0) = false := by rw [decide_eq_false_iff_not]; omega
            have pN : (p : Int) < (T.length : Int) := by omega
            have kL : (k : Int) < (L : Int) := by have := (unhide HRk).2.2.2.2.1; have := unhide HL; omega
            have kLn : ¬ (L : Int) ≤ (k : Int) := by omega
            have k0 : (0 : Int) ≤ (k : Int) := by omega
            have wk1 : IntKind.i64.wrap ((k : Int) + 1) = ((k + 1 : Nat) : Int) := by have := rkL_le T0; have := unhide HL; rw [IntKind.wrap_i64]; omega
            obtain ⟨gr, offr, rfl, _, hcr⟩ := (unhide HQ).rnk (by have := (unhide HRk).2.2.2.2.1; rw [unhide HL2, unhide HL]; omega)
            have r0 : wq2.cell? ⟨gr, offr + k, none⟩ = some (.int .i64 bb) := by
              have h1 := hcr k (by have := (unhide HRk).2.2.2.2.1; rw [unhide HL2, unhide HL]; omega)
              rw [(unhide HRk).2.2.2.2.2.1, (unhide HRk).2.1] at h1
              exact h1
            obtain ⟨bX, hsb⟩ := (unhide HQ).row
            obtain ⟨gl, ol, rfl, hld⟩ := sb_get hsb hpT
            rw [hps] at hld
            have x1 : wq2.cell? ⟨gl, ol + p * 2 + 1, none⟩ = some (.int .i64 s.2) := hld 1 _ rfl
            have sm : ¬ (m : Int) < s.2 := by have := (unhide HRk).2.2.1; omega
            have HPT := hide hpT
            have HPs := hide hps
            have HRow := hide hsb
            clear hcr hld hpT hps hsb
            go_upto_region 21 with fail
            clear r0 x1 sm kL kLn p0n p0m
            have hpT := unhide HPT
            obtain ⟨p2, hp2⟩ : ∃ p2, p + 1 = p2 := ⟨_, rfl⟩
            have HP2 := hide hp2
            have p1 : IntKind.i64.wrap ((p : Int) + 1) = (p2 : Int) := by rw [IntKind.wrap_i64]; omega
            have pc : (p : Int) ≤ (c : Int) := by have := (unhide HQ).cap; omega
            have pT1 : (p2 : Int) ≤ (T.length : Int) := by omega
            have p10 : (0 : Int) ≤ (p2 : Int) := by omega
            obtain ⟨A7, hA7⟩ : ∃ A7, (if c = p2 then (some ⟨gl, ol, none⟩ : Option Addr) else some ⟨gl, ol + p2 * 2, none⟩) = A7 := ⟨_, rfl⟩
            have HA7 := hide hA7
            refine wp_region_anyW [] (fun _ => True) (by kernel_rfl) ?_
            refine anyW_free (i := 1) (v := .slice (some ⟨gl, ol, none⟩) T.length c) rfl (by kernel_rfl) (by kernel_rfl) (by kernel_rfl) (fun _ _ _ h => h) (Or.inl ⟨by rfl, by intro Z _; go_simp⟩) ?_
            refine anyW_free (i := 2) (v := .int .i64 p) rfl (by kernel_rfl) (by kernel_rfl) (by kernel_rfl) (fun _ _ _ h => h) (Or.inl ⟨by rfl, by intro Z _; go_simp⟩) ?_
            go_simp
            refine anyW_free (i := 3) (v := .slice (some ⟨gl, ol, none⟩) p c) rfl (by kernel_rfl) (by kernel_rfl) (by kernel_rfl) (fun _ _ _ h => h) (Or.inl ⟨by rfl, by intro Z _; go_simp⟩) ?_
            refine anyW_free (i := 5) (v := .slice (some ⟨gl, ol, none⟩) T.length c) rfl (by kernel_rfl) (by kernel_rfl) (by kernel_rfl) (fun _ _ _ h => h) (Or.inl ⟨by rfl, by intro Z _; go_simp⟩) ?_
            refine anyW_free (i := 6) (v := .int .i64 p) rfl (by kernel_rfl) (by kernel_rfl) (by kernel_rfl) (fun _ _ _ h => h) (Or.inl ⟨by rfl, by intro Z _; go_simp⟩) ?_
            go_simp
            refine anyW_free (i := 7) (v := .int .i64 p2) rfl (by kernel_rfl) (by kernel_rfl) (by kernel_rfl) (fun _ _ _ h => h) (Or.inl ⟨by rfl, by intro Z _; go_simp⟩) ?_
            refine anyW_free (i := 8) (v := .slice A7 (T.length - p2) (c - p2)) rfl (by kernel_rfl) (by kernel_rfl) (by kernel_rfl) (fun _ _ _ h => h) (Or.inl ⟨by rfl, by intro Z _; go_simp⟩) ?_
            go_simp
            refine anyW_one (i := 0) (by kernel_rfl) rfl (fun K hK => ?_)
            go_simp
            refine hK _ _ ⟨fun _ => trivial, ?_⟩
            clear hK K
            have bE := ((Below.refl wq2.heap.size wq2).alloc (Nat.le_refl _) (.cells #[] 33)).drew
            obtain ⟨WE, hWE⟩ : ∃ WE : World, (wq2.alloc (.cells #[] 33)).drew = WE := ⟨_, rfl⟩
            obtain ⟨E, hE⟩ : ∃ E, wq2.heap.size = E := ⟨_, rfl⟩
            have HEm := hide (show WE.ownsRow wq2.heap.size 33 2 (.slice (some ⟨E, 0, none⟩) 0 0) 0 [] from by
              rw [← hWE, ← hE]
              exact ⟨rfl, .inr ⟨wq2.heap.size, 0, #[], rfl, Nat.le_refl _, heap_alloc_new wq2 _, Nat.le_refl _, Nat.zero_le _, rfl, rfl⟩⟩)
            rw [hWE] at bE ⊢
            rw [hE]
            have HB3 := hide bE
            have HCs := hide (fun (Z : World) (hZ : Below wq2.heap.size wq2 Z) => show ∀ j u, (T.flatMap sbC)[j]? = some u → Z.cell? ⟨gl, ol + j, none⟩ = some u from by
              obtain ⟨g, off, e, _, hc⟩ := (unhide HRow).keep hZ (by omega)
              injection e with e
              injection e with e1 e2
              subst e1 e2
              exact hc)
            clear bE hE hWE
            refine anyW_one (i := 4) (by kernel_rfl) rfl (fun K hK => ?_)
            rw [if_pos (by rfl)]
            refine wp_append_any _ _ 22 rfl wq2.heap.size 33 i0 zz 2 16 Try.underlying22 (unhide HI0) (unhide HIA) (unhide HIB) (unhide HIC) (unhide HID) (by decide) (.slice (some ⟨E, 0, none⟩) 0 0) 0 [] rfl (unhide HEm) (some ⟨gl, ol, none⟩) p c ((T.take p).flatMap sbC) rfl (by rw [flatK_len sbC 2 sbC_len, List.length_take, Nat.min_eq_left (by omega)]) (fun _ => ⟨gl, ol, rfl, fun j u hu => by rw [← (flat_take sbC 2 sbC_len T p (by omega)).1, List.getElem?_take] at hu; split at hu <;> first | exact unhide HCs WE (unhide HB3) j u hu | cases hu⟩) sb_one (by unfold maxLen; omega) (by omega) (unhide HB3).size ?_
            intro v3 w3 hown3 hg3 _
            have HB4 := hide ((unhide HB3).grown hg3 (unhide HB3).size (fun j e => ((unhide HEm).lt j e).1))
            have HO3 := hide (show w3.ownsRow wq2.heap.size 33 2 v3 p ((T.take p).flatMap sbC) from by simpa using hown3)
            refine hK _ _ ⟨fun _ => trivial, ?_⟩
            clear hK K hown3 hg3 HEm
            go_simp
            refine anyW_one (i := 9) (by kernel_rfl) rfl (fun K hK => ?_)
            rw [if_pos (by rfl)]
            refine wp_append_any _ _ 22 rfl wq2.heap.size 33 i0 zz 2 16 Try.underlying22 (unhide HI0) (unhide HIA) (unhide HIB) (unhide HIC) (unhide HID) (by decide) v3 p _ rfl (unhide HO3) A7 (T.length - p2) (c - p2) ((T.drop p2).flatMap sbC) rfl (by rw [flatK_len sbC 2 sbC_len, List.length_drop]) (fun hp => ⟨gl, ol + p2 * 2, by rw [← unhide HA7, if_neg (by have := (unhide HQ).cap; omega)], fun j u hu => by rw [← (flat_take sbC 2 sbC_len T p2 (by omega)).2, List.getElem?_drop] at hu; have := unhide HCs w3 (unhide HB4) _ u hu; rwa [← Nat.add_assoc] at this⟩) sb_one (by unfold maxLen; omega) (by omega) (unhide HB4).size ?_
            intro v4 w4 hown4 hg4 _
            have HB5 := hide ((unhide HB4).grown hg4 (unhide HB4).size (fun j e => ((unhide HO3).lt j e).1))
            have e9 : (T.take p ++ T.drop p2).length = p + (T.length - p2) := by rw [List.length_append, List.length_take, List.length_drop, Nat.min_eq_left (by omega)]
            have ho4 : w4.ownsRow wq2.heap.size 33 2 v4 (T.take p ++ T.drop p2).length ((T.take p ++ T.drop p2).flatMap sbC) := by rw [e9, List.flatMap_append]; exact hown4
            obtain ⟨A9, c9, rfl⟩ := own_form ho4
            refine hK _ _ ⟨fun _ => trivial, ?_⟩
            clear hK K hown4 hg4 HO3 HCs
            have HNew := hide (show RelI w w2.heap.size T0 (some ⟨gr, offr, none⟩) (k + 1) (T.take p ++ T.drop p2) A9 c9 w4 from ⟨onward (unhide HQ).bel (unhide HB5), ⟨w4.heap.size, RowIn.own ho4 (.inr (Nat.le_refl _))⟩, own_cap ho4, (unhide HQ).rnk.keep (unhide HB5), ⟨by rw [e9]; omega, fun x hx => (unhide HQ).ok.ok x (by
              rcases List.mem_append.1 hx with h | h
              · exact List.mem_of_mem_take h
              · exact List.mem_of_mem_drop h)⟩, by
                have := rk_tail (unhide HRk).1 (cut_perm (unhide HPT) (unhide HPs))
                rw [unhide HP2] at this
                rw [this, (unhide HRk).2.2.2.2.2.2]⟩)
            have HKL := hide (show k + 1 ≤ L by have := (unhide HRk).2.2.2.2.1; have := unhide HL; omega)
            clear ho4 e9
            generalize T.take p ++ T.drop p2 = T9 at HNew ⊢
            go_simp
            refine anyW_one (i := 10) (by kernel_rfl) rfl (fun K hK => ?_)
            go_simp
            refine hK _ _ ⟨fun _ => trivial, ?_⟩
            clear hK K
            refine anyW_done (by kernel_rfl) ?_ _
            go_simp
            go_wp2_with fail
            obtain ⟨b9, hsb9⟩ := (unhide HNew).row
            refine (next_any b9 T9 A9 c9 m w4 (by have := (unhide HNew).ok.len; omega) hsb9).mono ?_
            rintro e w5 ⟨rfl, hb5⟩
            have HNew2 := hide ((unhide HNew).below hb5)
            clear hsb9 hb5 HNew
            go_wp2
            go_roundw
            case rel => exact ⟨k + 1, T9, A9, c9, rfl, by go_num, rfl, hide ⟨unhide HNew2, unhide HKL⟩⟩
            case measure => have := unhide HKL; simp [intOf]; omega
    · obtain rfl : m = 6 := by omega
      obtain ⟨hl, hk⟩ := (unhide HS).1.last (by have := (unhide HS).2.1; rw [← unhide HL]; exact this) ((unhide HS).2.2 (by omega))
      have lz : ((T.length : Int) == 0) = true := by rw [beq_iff_eq, hl]; rfl
      have kz : ((k : Int) == (L : Int)) = true := by rw [beq_iff_eq, unhide HL, hk]
      have HB := hide (unhide HS).1.bel
      clear hl hk hlt
      go_wp2_with (go_at_call 6; refine (awake_any _).mono ?_; rintro e w6 ⟨rfl, hb6⟩)
      go_ret
      exact ⟨rfl, onward (unhide HB) hb6⟩
end Go.Proofs.Ytbajmbegkacbbaa
