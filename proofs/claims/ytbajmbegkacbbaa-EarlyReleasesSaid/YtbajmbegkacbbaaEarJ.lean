/-
  Early (layer 19): the document's own sorted.
-/
import Derived.Test.YtbajmbegkacbbaaEarA
import Derived.Test.YtbajmbegkacbbaaEarK
import Derived.Test.YtbajmbegkacbbaaAnyW
import Derived.Deep.CutRange
namespace Go.Proofs.Ytbajmbegkacbbaa
open Go.RowKit

set_option maxHeartbeats 4000000 in
set_option maxRecDepth 100000 in
theorem rsorted_any (b : Nat) (l : List Sb) (A1 : Option Addr) (c1' : Nat) (w : World) (hz : l.length ≤ 1000) (h : SbIn b w A1 l) :
    Calls Try.prog 23 #[.slice A1 l.length c1'] w fun e w' => ∃ (o : List Sb) (A : Option Addr) (c : Nat), e = .returned (.slice A o.length c) ∧ IsRk l o ∧ w'.ownsRow w.heap.size 33 2 (.slice A o.length c) o.length (o.flatMap sbC) ∧ Below w.heap.size w w' := by
  obtain ⟨i0, zz, hi0, hia, hib, hic0, hid⟩ := info_size info_sb
  have HI0 := hide hi0
  have HIA := hide hia
  have HIB := hide hib
  have HIC := hide hic0
  have HID := hide hid
  have HSb := hide h
  have H0 := hide (show Below w.heap.size w w ∧ w.ownsRow w.heap.size 33 2 (.slice none 0 0) 0 (([] : List Sb).flatMap sbC) from ⟨Below.refl _ _, World.ownsRow_nil _ _ _ _⟩)
  clear hi0 hia hib hic0 hid h
  go_enter Try.func23, Try.ntmps23
  go_wp2_with fail
  go_loopw [3, 4] (fun s3 s4 wr => ∃ (m i : Nat) (o : List Sb) (A : Option Addr) (c : Nat), m ≤ l.length ∧ i ≤ m ∧ s3 = .slice A i c ∧ s4 = .int .i64 m ∧ Hid (IsRk (l.take m) o) ∧ Hid (Below w.heap.size w wr ∧ wr.ownsRow w.heap.size 33 2 (.slice A i c) i (o.flatMap sbC))) (fun _ s4 _ => l.length - (intOf s4).toNat)
  case atStart => exact ⟨0, 0, [], none, 0, Nat.zero_le _, Nat.le_refl _, rfl, rfl, hide ⟨List.Perm.refl _, List.Pairwise.nil⟩, H0⟩
  case round =>
    clear H0
    obtain ⟨m, i, o, A, c, hml, him0, rfl, rfl, HRk, HP⟩ := hrel
    obtain ⟨wo, rfl⟩ : ∃ wo : World, wo = wr := ⟨_, rfl⟩
    by_cases hlt : m < l.length
    · have ml : (m : Int) < (l.length : Int) := by omega
      have m0 : (0 : Int) ≤ (m : Int) := by omega
      have HM := hide hlt
      have HL := hide (own_openS (unhide HP).2).1
      obtain ⟨gl, ol, rfl, hld⟩ := sb_get ((unhide HSb).keep (unhide HP).1) hlt
      have e0 : wo.cell? ⟨gl, ol + m * 2, none⟩ = some (.int .i64 (l.getD m (0, 0)).1) := hld 0 _ rfl
      have HNo := hide (fun (hc : cntS (l.getD m (0, 0)) = false) => rk_snoc_no hlt (unhide HRk) hc)
      obtain ⟨x, hx⟩ : ∃ x, l.getD m (0, 0) = x := ⟨_, rfl⟩
      rw [hx] at e0 HNo
      have HXe := hide hx
      have HNo := hide (unhide HNo)
      clear hld hx
      by_cases c1 : x.1 < 1
      · have HN1 := hide (unhide HNo (by unfold cntS; rw [decide_eq_false_iff_not]; omega))
        obtain ⟨xa, xb⟩ := x
        simp only [] at e0 c1
        go_wp2
        go_roundw
        case rel => exact ⟨m + 1, i, o, A, c, by omega, by omega, rfl, by go_num, HN1, HP⟩
        case measure => simp [intOf]; omega
      by_cases c2 : 40 < x.1
      · have HN1 := hide (unhide HNo (by unfold cntS; rw [decide_eq_false_iff_not]; omega))
        obtain ⟨xa, xb⟩ := x
        simp only [] at e0 c1 c2
        go_wp2
        go_roundw
        case rel => exact ⟨m + 1, i, o, A, c, by omega, by omega, rfl, by go_num, HN1, HP⟩
        case measure => simp [intOf]; omega
      have HCn := hide (show cntS x = true by unfold cntS; rw [decide_eq_true_eq]; omega)
      obtain ⟨xa, xb⟩ := x
      simp only [] at e0 c1 c2
      go_wp2_with fail
      clear e0
      go_loopw [5] (fun s5 wr2 => ∃ k : Nat, k ≤ i ∧ s5 = .int .i64 k ∧ Hid (∀ q, k ≤ q → q < i → leS (xa, xb) (o.getD q (0, 0))) ∧ Hid (Below w.heap.size w wr2 ∧ wr2.ownsRow w.heap.size 33 2 (.slice A i c) i (o.flatMap sbC))) (fun s5 _ => (intOf s5).toNat)
      case atStart => exact ⟨i, Nat.le_refl _, rfl, hide fun q h1 h2 => absurd h2 (by omega), HP⟩
      case round =>
        clear HP
        obtain ⟨k, hki, rfl, HK, HJ⟩ := hrel
        obtain ⟨wq, rfl⟩ : ∃ wq : World, wq = wr := ⟨_, rfl⟩
        have HKi := hide hki
        have hxx : True := trivial
        by_cases hk0 : 0 < k
        · have q0 : (0 : Int) < (k : Int) := by omega
          obtain ⟨p, hp⟩ : ∃ p, k - 1 = p := ⟨_, rfl⟩
          have wp : IntKind.i64.wrap ((k : Int) - 1) = (p : Int) := by rw [IntKind.wrap_i64]; omega
          rcases own_openS (unhide HJ).2 with ⟨hl, ⟨_, e0, _, _⟩ | ⟨q, rfl, hic, hcm, hcells⟩⟩
          · omega
          have hpi : p < o.length := by omega
          have p0 : (0 : Int) ≤ (p : Int) := by omega
          have pn : (p : Int) < (i : Int) := by omega
          have hpk : p < k := by omega
          have hat := flatK_at sbC 2 sbC_len o p hpi
          obtain ⟨y, hy⟩ : ∃ y, o.getD p (0, 0) = y := ⟨_, rfl⟩
          have a0 : wq.cell? ⟨q, p * 2, none⟩ = some (.int .i64 y.1) := hcells (p * 2) _ (by rw [← hy, at_k hpi]; exact hat 0 (by omega))
          have a1 : wq.cell? ⟨q, p * 2 + 1, none⟩ = some (.int .i64 y.2) := hcells (p * 2 + 1) _ (by rw [← hy, at_k hpi]; exact hat 1 (by omega))
          obtain ⟨g2, o2, eA, hld⟩ := sb_get ((unhide HSb).keep (unhide HJ).1) hlt
          injection eA with eA
          injection eA with ea eb
          subst ea
          subst eb
          have b0 : wq.cell? ⟨gl, ol + m * 2, none⟩ = some (.int .i64 xa) := by have := hld 0 (.int .i64 xa) (by rw [unhide HXe]; rfl); exact this
          have b1 : wq.cell? ⟨gl, ol + m * 2 + 1, none⟩ = some (.int .i64 xb) := hld 1 (.int .i64 xb) (by rw [unhide HXe]; rfl)
          have HK2 := hide (show ¬ leS y (xa, xb) → ∀ q, p ≤ q → q < i → leS (xa, xb) (o.getD q (0, 0)) from fun h9 q h1 h2 => by
            rcases Nat.lt_or_ge q k with c | c
            · obtain rfl : q = p := by omega
              rw [hy]; exact leS_total h9
            · exact unhide HK q c h2)
          have HPe := hide hp
          have HYe := hide hy
          have HXx := hide hxx
          obtain ⟨ya, yb⟩ := y
          simp only [] at a0 a1
          replace a0 := After.cell a0
          replace a1 := After.cell a1
          replace b0 := After.cell b0
          replace b1 := After.cell b1
          clear hl hcells hat hld hy hp hxx hpi
          by_cases d1 : xb < yb
          · have HK3 := hide (unhide HK2 (by unfold leS; simp only []; omega))
            go_wp2_with fail
            refine wp_region_after (by kernel_rfl) (by kernel_rfl) ?_
            repeat (go_big_quiet_step (fail))
            refine wpQuiet_nil ?_
            rintro _ ⟨t, rfl⟩
            have HJ2 := hide (show Below w.heap.size w t.to ∧ t.to.ownsRow w.heap.size 33 2 (.slice (some ⟨q, 0, none⟩) i c) i (o.flatMap sbC) from ⟨onward (unhide HJ).1 t.is, owns_later (unhide HJ).2 t.is⟩)
            generalize t.to = wz at HJ2 ⊢
            clear a0 a1 b0 b1 t HJ
            go_wp2
            go_roundw
            case rel => exact ⟨p, by omega, by go_num, HK3, HJ2⟩
            case measure => simp [intOf]; omega
          · by_cases d2 : yb = xb
            · have d2b : (yb == xb) = true := by rw [beq_iff_eq]; exact d2
              have d2h := Lib.hid d2
              clear d2
              have d2 := d2h.out
              by_cases d3 : xa < ya
              · have HK3 := hide (unhide HK2 (by unfold leS; simp only []; omega))
                go_wp2_with fail
                refine wp_region_after (by kernel_rfl) (by kernel_rfl) ?_
                repeat (go_big_quiet_step (fail))
                refine wpQuiet_nil ?_
                rintro _ ⟨t, rfl⟩
                have HJ2 := hide (show Below w.heap.size w t.to ∧ t.to.ownsRow w.heap.size 33 2 (.slice (some ⟨q, 0, none⟩) i c) i (o.flatMap sbC) from ⟨onward (unhide HJ).1 t.is, owns_later (unhide HJ).2 t.is⟩)
                generalize t.to = wz at HJ2 ⊢
                clear a0 a1 b0 b1 t HJ
                go_wp2
                go_roundw
                case rel => exact ⟨p, by omega, by go_num, HK3, HJ2⟩
                case measure => simp [intOf]; omega
              · have HStop := hide (show 0 < k ∧ leS (o.getD (k - 1) (0, 0)) (xa, xb) from ⟨hk0, by rw [unhide HPe, unhide HYe]; unfold leS; simp only []; omega⟩)
                go_wp2_with fail
                refine wp_region_after (by kernel_rfl) (by kernel_rfl) ?_
                repeat (go_big_quiet_step (fail))
                refine wpQuiet_nil ?_
                rintro _ ⟨t, rfl⟩
                clear a0 a1 b0 b1
                have HNext := hide (show IsRk (l.take (m + 1)) (o.take k ++ [(xa, xb)] ++ o.drop k) from rk_snoc_yes (unhide HM) (unhide HRk) (by rw [unhide HXe]; exact unhide HCn) (by rw [unhide HXe]; exact ins_permS) (ins_rk (unhide HRk).asc (by rw [unhide HL]; exact unhide HKi) (fun q h1 h2 => unhide HK q h1 (by rw [unhide HL] at h2; exact h2)) (.inr (unhide HStop))))
                have HOn := hide (owns_later (unhide HJ).2 t.is)
                have HBn := hide (onward (unhide HJ).1 t.is)
                generalize t.to = wz at HOn HBn ⊢
                clear t HJ
                clear HStop hpk wp q0 p0 pn
                have him : i ≤ 1000 := by omega
                rcases own_openS (unhide HOn) with ⟨hl, ⟨eN, _, _, _⟩ | ⟨q9, e9, _, _, hcells⟩⟩
                · cases eN
                · injection e9 with e9
                  injection e9 with e9
                  subst e9
                  clear hl
                  have k1 : (k : Int) ≤ (i : Int) := by have := unhide HKi; omega
                  have k2 : (k : Int) ≤ (c : Int) := by have := unhide HKi; omega
                  have HCe := hide (show ∀ j u, (o.flatMap sbC)[j]? = some u → wz.cell? ⟨q, j, none⟩ = some u from hcells)
                  have HQ := hide (show q < wz.heap.size from ((unhide HOn).lt q rfl).2)
                  clear hcells
                  rcases Nat.lt_or_ge k c with hkc | hkc
                  · have hkc2 : (k : Int) < (c : Int) := by omega
                    have bE := (Below.refl wz.heap.size wz).alloc (Nat.le_refl _) (.cells #[] 33)
                    obtain ⟨WE, hWE⟩ : ∃ WE : World, wz.alloc (.cells #[] 33) = WE := ⟨_, rfl⟩
                    obtain ⟨E, hE⟩ : ∃ E, wz.heap.size = E := ⟨_, rfl⟩
                    have HEm := hide (show WE.ownsRow (w.heap.size) 33 2 (.slice (some ⟨E, 0, none⟩) 0 0) 0 [] from by
                      rw [← hWE, ← hE]
                      exact ⟨rfl, .inr ⟨wz.heap.size, 0, #[], rfl, by have := (unhide HBn).size; omega, heap_alloc_new wz _, Nat.le_refl _, Nat.zero_le _, rfl, rfl⟩⟩)
                    have HX1 := hide (show Below wz.heap.size wz WE ∧ ∀ (a : Addr) (u : Value), wz.cell? a = some u → WE.cell? a = some u from by rw [← hWE]; exact ⟨bE, fun a u h => kept bE h⟩)
                    have HBE := hide (show w.heap.size ≤ WE.heap.size ∧ E < WE.heap.size by rw [← hWE, ← hE, World.size_alloc]; have := (unhide HBn).size; omega)
                    have HE := hide hE
                    clear bE
                    go_wp2_with (at_builtin; refine wpList_copyG (H := w.heap.size) (e := E) (A := some ⟨q, k * 2, none⟩) (xs := (o.drop k).flatMap sbC) rfl _ _ rfl rfl rfl rfl Try.underlying22 (unhide HI0) (unhide HIA) (unhide HIB) (unhide HIC) (unhide HID) (by decide) (by rw [flatK_len sbC 2 sbC_len, List.length_drop, unhide HL]) (by unfold maxLen; omega) (by omega) sb_one (unhide HBE).1 (unhide HEm) (fun _ => ⟨q, k * 2, rfl, fun j u hu => (unhide HX1).2 _ _ (unhide HCe (k * 2 + j) u (by rw [← (flat_take sbC 2 sbC_len o k (by rw [unhide HL]; exact unhide HKi)).2, List.getElem?_drop] at hu; exact hu))⟩) ?_)
                    intro A1 c1 w2 hown1 hg1
                    have HR1 := hide (show w2.ownsRow (w.heap.size) 33 2 (.slice A1 (i - k) c1) (i - k) ((o.drop k).flatMap sbC) from hown1)
                    have HG1 := hide (show ∀ (a : Addr) (u : Value), a.block ≠ E → wz.cell? a = some u → w2.cell? a = some u from fun a u hne hc => hg1.cell ((unhide HX1).2 a u hc) (by simpa using hne))
                    have HB2 := hide ((onward (unhide HBn) (unhide HX1).1).grown hg1 (onward (unhide HBn) (unhide HX1).1).size (fun j e => by injection e with e; have := unhide HE; have := (unhide HBn).size; omega))
                    clear hown1 hg1 HEm hWE hE
                    have HKS := hide (fun (Z : World) (hZ : Below w.heap.size w Z) => show Z.cell? ⟨gl, ol + m * 2, none⟩ = some (.int .i64 xa) ∧ Z.cell? ⟨gl, ol + m * 2 + 1, none⟩ = some (.int .i64 xb) from by
                      obtain ⟨gs, os, eA2, hld⟩ := sb_get ((unhide HSb).keep hZ) (unhide HM)
                      injection eA2 with eA2
                      injection eA2 with ea2 eb2
                      subst ea2
                      subst eb2
                      rw [unhide HXe] at hld
                      exact ⟨hld 0 _ rfl, hld 1 _ rfl⟩)
                    have HSt := hide (unhide HKS w2.drew (unhide HB2).drew)
                    go_upto_region 10 with fail
                    refine wp_region_anyW [] (fun Z => Z.cell? ⟨gl, ol + m * 2, none⟩ = some (.int .i64 xa) ∧ Z.cell? ⟨gl, ol + m * 2 + 1, none⟩ = some (.int .i64 xb)) (by kernel_rfl) ?_
                    refine anyW_take (i := 0) (v := .slice (some ⟨q, 0, none⟩) i c) rfl (by kernel_rfl) (by kernel_rfl) (by kernel_rfl) (by kernel_rfl) (fun _ _ _ h => h) (Or.inl ⟨by rfl, by intro Z _; go_simp⟩) (unhide HSt) ?_
                    refine anyW_take (i := 1) (v := .int .i64 k) rfl (by kernel_rfl) (by kernel_rfl) (by kernel_rfl) (by kernel_rfl) (fun _ _ _ h => h) (Or.inl ⟨by rfl, by intro Z _; go_simp⟩) (unhide HSt) ?_
                    refine anyW_take (i := 2) (v := .int .i64 k) rfl (by kernel_rfl) (by kernel_rfl) (by kernel_rfl) (by kernel_rfl) (fun _ _ _ h => h) (Or.inl ⟨by rfl, by intro Z _; go_simp⟩) (unhide HSt) ?_
                    go_simp
                    refine anyW_take (i := 3) (v := .slice (some ⟨q, 0, none⟩) k k) rfl (by kernel_rfl) (by kernel_rfl) (by kernel_rfl) (by kernel_rfl) (fun _ _ _ h => h) (Or.inl ⟨by rfl, by intro Z _; go_simp⟩) (unhide HSt) ?_
                    refine anyW_take (i := 4) (v := .slice (some ⟨gl, ol, none⟩) l.length c1') rfl (by kernel_rfl) (by kernel_rfl) (by kernel_rfl) (by kernel_rfl) (fun _ _ _ h => h) (Or.inl ⟨by rfl, by intro Z _; go_simp⟩) (unhide HSt) ?_
                    refine anyW_take (i := 5) (v := .int .i64 m) rfl (by kernel_rfl) (by kernel_rfl) (by kernel_rfl) (by kernel_rfl) (fun _ _ _ h => h) (Or.inl ⟨by rfl, by intro Z _; go_simp⟩) (unhide HSt) ?_
                    go_simp
                    refine anyW_take (i := 6) (v := .pointer (some ⟨gl, ol + m * 2, none⟩)) rfl (by kernel_rfl) (by kernel_rfl) (by kernel_rfl) (by kernel_rfl) (fun _ _ _ h => h) (Or.inl ⟨by rfl, by intro Z _; go_simp⟩) (unhide HSt) ?_
                    go_simp
                    refine anyW_take (i := 7) (v := .agg (sbA (xa, xb))) rfl (by kernel_rfl) (by kernel_rfl) (by kernel_rfl) (by kernel_rfl) (fun _ _ _ h => h) (Or.inl ⟨by rfl, by intro Z hs; have h8 := hs.1; have h9 := hs.2; go_simp⟩) (unhide HSt) ?_
                    refine anyW_free (i := 10) (v := .slice A1 (i - k) c1) rfl (by kernel_rfl) (by kernel_rfl) (by kernel_rfl) (fun _ _ _ h => h) (Or.inl ⟨by rfl, by intro Z _; go_simp⟩) ?_
                    go_simp
                    refine anyW_one (i := 8) (by kernel_rfl) rfl (fun K hK => ?_)
                    rw [if_pos (by rfl)]
                    refine wp_build1 22 33 _ rfl (sbA (xa, xb)) i0 zz 2 Try.underlying22 (unhide HI0) (unhide HIA) (unhide HIB) (by decide) (by decide) (unhide HID) rfl rfl ?_
                    have b3 := (Below.refl w2.drew.heap.size w2.drew).alloc (Nat.le_refl _) (.cells (sbA (xa, xb)) 33)
                    have hn3 := World.news_of_block (heap_alloc_new w2.drew (.cells (sbA (xa, xb)) 33))
                    have HS3 := hide (show (w2.drew.alloc (.cells (sbA (xa, xb)) 33)).cell? ⟨gl, ol + m * 2, none⟩ = some (.int .i64 xa) ∧ (w2.drew.alloc (.cells (sbA (xa, xb)) 33)).cell? ⟨gl, ol + m * 2 + 1, none⟩ = some (.int .i64 xb) from ⟨kept b3 (unhide HSt).1, kept b3 (unhide HSt).2⟩)
                    refine hK _ _ ⟨fun _ => unhide HS3, ?_⟩
                    clear hK K HS3
                    obtain ⟨W3, hW3⟩ : ∃ W3 : World, w2.drew.alloc (.cells (sbA (xa, xb)) 33) = W3 := ⟨_, rfl⟩
                    rw [hW3] at b3 hn3
                    obtain ⟨F, hF⟩ : ∃ F, w2.drew.heap.size = F := ⟨_, rfl⟩
                    rw [hF] at hn3
                    have HN3 := hide hn3
                    have HX3 := hide (show ∀ (j : Nat) (u : Value), wz.cell? ⟨q, j, none⟩ = some u → W3.cell? ⟨q, j, none⟩ = some u from fun j u hc => kept b3 (show w2.drew.cell? _ = _ from unhide HG1 _ _ (by have := unhide HQ; have := unhide HE; simp only []; omega) hc))
                    have HB3 := hide (onward (Below.drew (unhide HB2)) b3)
                    have HR3 := hide (owns_later (owns_later (unhide HR1) ((Below.refl _ w2).drew)) b3)
                    clear b3 hn3 HR1
                    rw [hW3, hF]
                    clear hF hW3
                    refine anyW_one (i := 9) (by kernel_rfl) rfl (fun K hK => ?_)
                    rw [if_pos (by rfl)]
                    refine wp_append_grows _ _ _ 22 rfl 33 i0 zz 2 16 Try.underlying22 (unhide HI0) (unhide HIA) (unhide HIB) (unhide HIC) (unhide HID) (by decide) ⟨q, 0, none⟩ k k ((o.take k).flatMap sbC) rfl (by rw [flatK_len sbC 2 sbC_len, List.length_take, unhide HL, Nat.min_eq_left (unhide HKi)]) (fun j u hu => by rw [Addr.add_lit, Nat.zero_add]; exact unhide HX3 _ _ (unhide HCe j u (by rw [← (flat_take sbC 2 sbC_len o k (by rw [unhide HL]; exact unhide HKi)).1, List.getElem?_take] at hu; split at hu <;> first | exact hu | cases hu))) ⟨F, 0, none⟩ 1 1 (sbC (xa, xb)) rfl rfl (unhide HN3) (by omega) (by have := unhide HKi; unfold maxLen; omega) (by have := unhide HKi; omega) ?_
                    intro v4 w4 hown4 hg4
                    have HO4 := hide (show w4.ownsRow w.heap.size 33 2 v4 (k + 1) ((o.take k ++ [(xa, xb)]).flatMap sbC) from by rw [List.flatMap_append]; simpa using own_base hown4 (unhide HB3).size)
                    have HB4 := hide ((unhide HB3).grown hg4 (unhide HB3).size (fun j e => by cases e))
                    have HR4 := hide ((unhide HR3).kept hg4 (Classical.em _))
                    refine hK _ _ ⟨fun _ => unhide HKS _ (unhide HB4), ?_⟩
                    clear hK K hown4 hg4
                    go_simp
                    refine anyW_one (i := 11) (by kernel_rfl) rfl (fun K hK => ?_)
                    rw [if_pos (by rfl)]
                    refine wp_append_any _ _ 22 rfl w.heap.size 33 i0 zz 2 16 Try.underlying22 (unhide HI0) (unhide HIA) (unhide HIB) (unhide HIC) (unhide HID) (by decide) v4 (k + 1) _ rfl (unhide HO4) A1 (i - k) c1 ((o.drop k).flatMap sbC) rfl (by rw [flatK_len sbC 2 sbC_len, List.length_drop, unhide HL]) (fun hp => by rcases own_openS (unhide HR4) with ⟨_, ⟨_, e0, _, _⟩ | ⟨q1, e1, _, _, hc1⟩⟩ <;> first | omega | exact ⟨q1, 0, e1, fun j u hu => by rw [Nat.zero_add]; exact hc1 j u hu⟩) sb_one (by have := unhide HKi; unfold maxLen; omega) (by have := unhide HKi; omega) (unhide HB4).size ?_
                    intro v5 w5 hown5 hg5 _
                    have HZ := hide (show w5.ownsRow w.heap.size 33 2 v5 (i + 1) ((o.take k ++ [(xa, xb)] ++ o.drop k).flatMap sbC) from by rw [List.flatMap_append]; have e9 : i + 1 = k + 1 + (i - k) := (by have := unhide HKi; omega); rw [e9]; exact hown5)
                    have HBz := hide ((unhide HB4).grown hg5 (unhide HB4).size (fun j e => ((unhide HO4).lt j e).1))
                    refine hK _ _ ⟨fun _ => unhide HKS _ (unhide HBz), ?_⟩
                    clear hK K hown5 hg5
                    go_simp
                    refine anyW_one (i := 12) (by kernel_rfl) rfl (fun K hK => ?_)
                    obtain ⟨A5, c5, rfl⟩ := own_form (unhide HZ)
                    go_simp
                    refine hK _ _ ⟨fun _ => unhide HKS _ (unhide HBz), ?_⟩
                    clear hK K
                    refine anyW_done (by kernel_rfl) ?_ _
                    go_simp
                    go_wp2
                    go_roundw
                    case rel => exact ⟨m + 1, i + 1, o.take k ++ [(xa, xb)] ++ o.drop k, A5, c5, by omega, by omega, rfl, by go_num, hide (unhide HNext), hide ⟨unhide HBz, unhide HZ⟩⟩
                    case measure => simp [intOf]; omega
                  · have e1 : k = i := by have := unhide HKi; omega
                    have e2 : k = c := by have := unhide HKi; omega
                    subst e1
                    subst e2
                    have bE := (Below.refl wz.heap.size wz).alloc (Nat.le_refl _) (.cells #[] 33)
                    obtain ⟨WE, hWE⟩ : ∃ WE : World, wz.alloc (.cells #[] 33) = WE := ⟨_, rfl⟩
                    obtain ⟨E, hE⟩ : ∃ E, wz.heap.size = E := ⟨_, rfl⟩
                    have HEm := hide (show WE.ownsRow (w.heap.size) 33 2 (.slice (some ⟨E, 0, none⟩) 0 0) 0 [] from by
                      rw [← hWE, ← hE]
                      exact ⟨rfl, .inr ⟨wz.heap.size, 0, #[], rfl, by have := (unhide HBn).size; omega, heap_alloc_new wz _, Nat.le_refl _, Nat.zero_le _, rfl, rfl⟩⟩)
                    have HX1 := hide (show Below wz.heap.size wz WE ∧ ∀ (a : Addr) (u : Value), wz.cell? a = some u → WE.cell? a = some u from by rw [← hWE]; exact ⟨bE, fun a u h => kept bE h⟩)
                    have HBE := hide (show w.heap.size ≤ WE.heap.size ∧ E < WE.heap.size by rw [← hWE, ← hE, World.size_alloc]; have := (unhide HBn).size; omega)
                    have HE := hide hE
                    clear bE
                    have HR1 := hide (show WE.ownsRow (w.heap.size) 33 2 (.slice (some ⟨E, 0, none⟩) 0 0) 0 [] from unhide HEm)
                    have HB2 := hide (onward (unhide HBn) (unhide HX1).1)
                    have hDr : o.drop k = [] := List.drop_eq_nil_of_le (by rw [unhide HL]; exact Nat.le_refl _)
                    have HDr := hide hDr
                    clear hDr
                    clear HEm
                    have HKS := hide (fun (Z : World) (hZ : Below w.heap.size w Z) => show Z.cell? ⟨gl, ol + m * 2, none⟩ = some (.int .i64 xa) ∧ Z.cell? ⟨gl, ol + m * 2 + 1, none⟩ = some (.int .i64 xb) from by
                      obtain ⟨gs, os, eA2, hld⟩ := sb_get ((unhide HSb).keep hZ) (unhide HM)
                      injection eA2 with eA2
                      injection eA2 with ea2 eb2
                      subst ea2
                      subst eb2
                      rw [unhide HXe] at hld
                      exact ⟨hld 0 _ rfl, hld 1 _ rfl⟩)
                    have HSt := hide (unhide HKS WE.drew (unhide HB2).drew)
                    go_upto_region 10 with fail
                    refine wp_region_anyW [] (fun Z => Z.cell? ⟨gl, ol + m * 2, none⟩ = some (.int .i64 xa) ∧ Z.cell? ⟨gl, ol + m * 2 + 1, none⟩ = some (.int .i64 xb)) (by kernel_rfl) ?_
                    refine anyW_take (i := 0) (v := .slice (some ⟨q, 0, none⟩) k k) rfl (by kernel_rfl) (by kernel_rfl) (by kernel_rfl) (by kernel_rfl) (fun _ _ _ h => h) (Or.inl ⟨by rfl, by intro Z _; go_simp⟩) (unhide HSt) ?_
                    refine anyW_take (i := 1) (v := .int .i64 k) rfl (by kernel_rfl) (by kernel_rfl) (by kernel_rfl) (by kernel_rfl) (fun _ _ _ h => h) (Or.inl ⟨by rfl, by intro Z _; go_simp⟩) (unhide HSt) ?_
                    refine anyW_take (i := 2) (v := .int .i64 k) rfl (by kernel_rfl) (by kernel_rfl) (by kernel_rfl) (by kernel_rfl) (fun _ _ _ h => h) (Or.inl ⟨by rfl, by intro Z _; go_simp⟩) (unhide HSt) ?_
                    go_simp
                    refine anyW_take (i := 3) (v := .slice (some ⟨q, 0, none⟩) k k) rfl (by kernel_rfl) (by kernel_rfl) (by kernel_rfl) (by kernel_rfl) (fun _ _ _ h => h) (Or.inl ⟨by rfl, by intro Z _; go_simp⟩) (unhide HSt) ?_
                    refine anyW_take (i := 4) (v := .slice (some ⟨gl, ol, none⟩) l.length c1') rfl (by kernel_rfl) (by kernel_rfl) (by kernel_rfl) (by kernel_rfl) (fun _ _ _ h => h) (Or.inl ⟨by rfl, by intro Z _; go_simp⟩) (unhide HSt) ?_
                    refine anyW_take (i := 5) (v := .int .i64 m) rfl (by kernel_rfl) (by kernel_rfl) (by kernel_rfl) (by kernel_rfl) (fun _ _ _ h => h) (Or.inl ⟨by rfl, by intro Z _; go_simp⟩) (unhide HSt) ?_
                    go_simp
                    refine anyW_take (i := 6) (v := .pointer (some ⟨gl, ol + m * 2, none⟩)) rfl (by kernel_rfl) (by kernel_rfl) (by kernel_rfl) (by kernel_rfl) (fun _ _ _ h => h) (Or.inl ⟨by rfl, by intro Z _; go_simp⟩) (unhide HSt) ?_
                    go_simp
                    refine anyW_take (i := 7) (v := .agg (sbA (xa, xb))) rfl (by kernel_rfl) (by kernel_rfl) (by kernel_rfl) (by kernel_rfl) (fun _ _ _ h => h) (Or.inl ⟨by rfl, by intro Z hs; have h8 := hs.1; have h9 := hs.2; go_simp⟩) (unhide HSt) ?_
                    refine anyW_free (i := 10) (v := .slice (some ⟨E, 0, none⟩) 0 0) rfl (by kernel_rfl) (by kernel_rfl) (by kernel_rfl) (fun _ _ _ h => h) (Or.inl ⟨by rfl, by intro Z _; go_simp⟩) ?_
                    go_simp
                    refine anyW_one (i := 8) (by kernel_rfl) rfl (fun K hK => ?_)
                    rw [if_pos (by rfl)]
                    refine wp_build1 22 33 _ rfl (sbA (xa, xb)) i0 zz 2 Try.underlying22 (unhide HI0) (unhide HIA) (unhide HIB) (by decide) (by decide) (unhide HID) rfl rfl ?_
                    have b3 := (Below.refl WE.drew.heap.size WE.drew).alloc (Nat.le_refl _) (.cells (sbA (xa, xb)) 33)
                    have hn3 := World.news_of_block (heap_alloc_new WE.drew (.cells (sbA (xa, xb)) 33))
                    have HS3 := hide (show (WE.drew.alloc (.cells (sbA (xa, xb)) 33)).cell? ⟨gl, ol + m * 2, none⟩ = some (.int .i64 xa) ∧ (WE.drew.alloc (.cells (sbA (xa, xb)) 33)).cell? ⟨gl, ol + m * 2 + 1, none⟩ = some (.int .i64 xb) from ⟨kept b3 (unhide HSt).1, kept b3 (unhide HSt).2⟩)
                    refine hK _ _ ⟨fun _ => unhide HS3, ?_⟩
                    clear hK K HS3
                    obtain ⟨W3, hW3⟩ : ∃ W3 : World, WE.drew.alloc (.cells (sbA (xa, xb)) 33) = W3 := ⟨_, rfl⟩
                    rw [hW3] at b3 hn3
                    obtain ⟨F, hF⟩ : ∃ F, WE.drew.heap.size = F := ⟨_, rfl⟩
                    rw [hF] at hn3
                    have HN3 := hide hn3
                    have HX3 := hide (show ∀ (j : Nat) (u : Value), wz.cell? ⟨q, j, none⟩ = some u → W3.cell? ⟨q, j, none⟩ = some u from fun j u hc => kept b3 (show WE.drew.cell? _ = _ from (unhide HX1).2 _ _ hc))
                    have HB3 := hide (onward (Below.drew (unhide HB2)) b3)
                    have HR3 := hide (owns_later (owns_later (unhide HR1) ((Below.refl _ WE).drew)) b3)
                    clear b3 hn3 HR1
                    rw [hW3, hF]
                    clear hF hW3
                    refine anyW_one (i := 9) (by kernel_rfl) rfl (fun K hK => ?_)
                    rw [if_pos (by rfl)]
                    refine wp_append_grows _ _ _ 22 rfl 33 i0 zz 2 16 Try.underlying22 (unhide HI0) (unhide HIA) (unhide HIB) (unhide HIC) (unhide HID) (by decide) ⟨q, 0, none⟩ k k ((o.take k).flatMap sbC) rfl (by rw [flatK_len sbC 2 sbC_len, List.length_take, unhide HL, Nat.min_eq_left (unhide HKi)]) (fun j u hu => by rw [Addr.add_lit, Nat.zero_add]; exact unhide HX3 _ _ (unhide HCe j u (by rw [← (flat_take sbC 2 sbC_len o k (by rw [unhide HL]; exact unhide HKi)).1, List.getElem?_take] at hu; split at hu <;> first | exact hu | cases hu))) ⟨F, 0, none⟩ 1 1 (sbC (xa, xb)) rfl rfl (unhide HN3) (by omega) (by have := unhide HKi; unfold maxLen; omega) (by have := unhide HKi; omega) ?_
                    intro v4 w4 hown4 hg4
                    have HO4 := hide (show w4.ownsRow w.heap.size 33 2 v4 (k + 1) ((o.take k ++ [(xa, xb)]).flatMap sbC) from by rw [List.flatMap_append]; simpa using own_base hown4 (unhide HB3).size)
                    have HB4 := hide ((unhide HB3).grown hg4 (unhide HB3).size (fun j e => by cases e))
                    have HR4 := hide ((unhide HR3).kept hg4 (Classical.em _))
                    refine hK _ _ ⟨fun _ => unhide HKS _ (unhide HB4), ?_⟩
                    clear hK K hown4 hg4
                    go_simp
                    refine anyW_one (i := 11) (by kernel_rfl) rfl (fun K hK => ?_)
                    rw [if_pos (by rfl)]
                    refine wp_append_any _ _ 22 rfl w.heap.size 33 i0 zz 2 16 Try.underlying22 (unhide HI0) (unhide HIA) (unhide HIB) (unhide HIC) (unhide HID) (by decide) v4 (k + 1) _ rfl (unhide HO4) (some ⟨E, 0, none⟩) 0 0 [] rfl rfl (fun hp => absurd hp (Nat.lt_irrefl _)) (fun u hu => by cases hu) (by unfold maxLen; omega) (by omega) (unhide HB4).size ?_
                    intro v5 w5 hown5 hg5 _
                    have HZ := hide (show w5.ownsRow w.heap.size 33 2 v5 (k + 1) ((o.take k ++ [(xa, xb)] ++ o.drop k).flatMap sbC) from by rw [unhide HDr, List.append_nil]; simpa using hown5)
                    have HBz := hide ((unhide HB4).grown hg5 (unhide HB4).size (fun j e => ((unhide HO4).lt j e).1))
                    refine hK _ _ ⟨fun _ => unhide HKS _ (unhide HBz), ?_⟩
                    clear hK K hown5 hg5
                    go_simp
                    refine anyW_one (i := 12) (by kernel_rfl) rfl (fun K hK => ?_)
                    obtain ⟨A5, c5, rfl⟩ := own_form (unhide HZ)
                    go_simp
                    refine hK _ _ ⟨fun _ => unhide HKS _ (unhide HBz), ?_⟩
                    clear hK K
                    refine anyW_done (by kernel_rfl) ?_ _
                    go_simp
                    go_wp2
                    go_roundw
                    case rel => exact ⟨m + 1, k + 1, o.take k ++ [(xa, xb)] ++ o.drop k, A5, c5, by omega, by omega, rfl, by go_num, hide (unhide HNext), hide ⟨unhide HBz, unhide HZ⟩⟩
                    case measure => simp [intOf]; omega
            · have d1f : decide (xb < yb) = false := by rw [decide_eq_false_iff_not]; exact d1
              have d2f : (yb == xb) = false := by rw [beq_eq_false_iff_ne]; exact d2
              have d2h := Lib.hid d2
              clear d2
              have d2 := d2h.out
              have HStop := hide (show 0 < k ∧ leS (o.getD (k - 1) (0, 0)) (xa, xb) from ⟨hk0, by rw [unhide HPe, unhide HYe]; unfold leS; simp only []; omega⟩)
              go_wp2_with fail
              refine wp_region_after (by kernel_rfl) (by kernel_rfl) ?_
              repeat (go_big_quiet_step (fail))
              refine wpQuiet_nil ?_
              rintro _ ⟨t, rfl⟩
              clear a0 a1 b0 b1
              have HNext := hide (show IsRk (l.take (m + 1)) (o.take k ++ [(xa, xb)] ++ o.drop k) from rk_snoc_yes (unhide HM) (unhide HRk) (by rw [unhide HXe]; exact unhide HCn) (by rw [unhide HXe]; exact ins_permS) (ins_rk (unhide HRk).asc (by rw [unhide HL]; exact unhide HKi) (fun q h1 h2 => unhide HK q h1 (by rw [unhide HL] at h2; exact h2)) (.inr (unhide HStop))))
              have HOn := hide (owns_later (unhide HJ).2 t.is)
              have HBn := hide (onward (unhide HJ).1 t.is)
              generalize t.to = wz at HOn HBn ⊢
              clear t HJ
              clear HStop hpk wp q0 p0 pn
              have him : i ≤ 1000 := by omega
              rcases own_openS (unhide HOn) with ⟨hl, ⟨eN, _, _, _⟩ | ⟨q9, e9, _, _, hcells⟩⟩
              · cases eN
              · injection e9 with e9
                injection e9 with e9
                subst e9
                clear hl
                have k1 : (k : Int) ≤ (i : Int) := by have := unhide HKi; omega
                have k2 : (k : Int) ≤ (c : Int) := by have := unhide HKi; omega
                have HCe := hide (show ∀ j u, (o.flatMap sbC)[j]? = some u → wz.cell? ⟨q, j, none⟩ = some u from hcells)
                have HQ := hide (show q < wz.heap.size from ((unhide HOn).lt q rfl).2)
                clear hcells
                rcases Nat.lt_or_ge k c with hkc | hkc
                · have hkc2 : (k : Int) < (c : Int) := by omega
                  have bE := (Below.refl wz.heap.size wz).alloc (Nat.le_refl _) (.cells #[] 33)
                  obtain ⟨WE, hWE⟩ : ∃ WE : World, wz.alloc (.cells #[] 33) = WE := ⟨_, rfl⟩
                  obtain ⟨E, hE⟩ : ∃ E, wz.heap.size = E := ⟨_, rfl⟩
                  have HEm := hide (show WE.ownsRow (w.heap.size) 33 2 (.slice (some ⟨E, 0, none⟩) 0 0) 0 [] from by
                    rw [← hWE, ← hE]
                    exact ⟨rfl, .inr ⟨wz.heap.size, 0, #[], rfl, by have := (unhide HBn).size; omega, heap_alloc_new wz _, Nat.le_refl _, Nat.zero_le _, rfl, rfl⟩⟩)
                  have HX1 := hide (show Below wz.heap.size wz WE ∧ ∀ (a : Addr) (u : Value), wz.cell? a = some u → WE.cell? a = some u from by rw [← hWE]; exact ⟨bE, fun a u h => kept bE h⟩)
                  have HBE := hide (show w.heap.size ≤ WE.heap.size ∧ E < WE.heap.size by rw [← hWE, ← hE, World.size_alloc]; have := (unhide HBn).size; omega)
                  have HE := hide hE
                  clear bE
                  go_wp2_with (at_builtin; refine wpList_copyG (H := w.heap.size) (e := E) (A := some ⟨q, k * 2, none⟩) (xs := (o.drop k).flatMap sbC) rfl _ _ rfl rfl rfl rfl Try.underlying22 (unhide HI0) (unhide HIA) (unhide HIB) (unhide HIC) (unhide HID) (by decide) (by rw [flatK_len sbC 2 sbC_len, List.length_drop, unhide HL]) (by unfold maxLen; omega) (by omega) sb_one (unhide HBE).1 (unhide HEm) (fun _ => ⟨q, k * 2, rfl, fun j u hu => (unhide HX1).2 _ _ (unhide HCe (k * 2 + j) u (by rw [← (flat_take sbC 2 sbC_len o k (by rw [unhide HL]; exact unhide HKi)).2, List.getElem?_drop] at hu; exact hu))⟩) ?_)
                  intro A1 c1 w2 hown1 hg1
                  have HR1 := hide (show w2.ownsRow (w.heap.size) 33 2 (.slice A1 (i - k) c1) (i - k) ((o.drop k).flatMap sbC) from hown1)
                  have HG1 := hide (show ∀ (a : Addr) (u : Value), a.block ≠ E → wz.cell? a = some u → w2.cell? a = some u from fun a u hne hc => hg1.cell ((unhide HX1).2 a u hc) (by simpa using hne))
                  have HB2 := hide ((onward (unhide HBn) (unhide HX1).1).grown hg1 (onward (unhide HBn) (unhide HX1).1).size (fun j e => by injection e with e; have := unhide HE; have := (unhide HBn).size; omega))
                  clear hown1 hg1 HEm hWE hE
                  have HKS := hide (fun (Z : World) (hZ : Below w.heap.size w Z) => show Z.cell? ⟨gl, ol + m * 2, none⟩ = some (.int .i64 xa) ∧ Z.cell? ⟨gl, ol + m * 2 + 1, none⟩ = some (.int .i64 xb) from by
                    obtain ⟨gs, os, eA2, hld⟩ := sb_get ((unhide HSb).keep hZ) (unhide HM)
                    injection eA2 with eA2
                    injection eA2 with ea2 eb2
                    subst ea2
                    subst eb2
                    rw [unhide HXe] at hld
                    exact ⟨hld 0 _ rfl, hld 1 _ rfl⟩)
                  have HSt := hide (unhide HKS w2.drew (unhide HB2).drew)
                  go_upto_region 10 with fail
                  refine wp_region_anyW [] (fun Z => Z.cell? ⟨gl, ol + m * 2, none⟩ = some (.int .i64 xa) ∧ Z.cell? ⟨gl, ol + m * 2 + 1, none⟩ = some (.int .i64 xb)) (by kernel_rfl) ?_
                  refine anyW_take (i := 0) (v := .slice (some ⟨q, 0, none⟩) i c) rfl (by kernel_rfl) (by kernel_rfl) (by kernel_rfl) (by kernel_rfl) (fun _ _ _ h => h) (Or.inl ⟨by rfl, by intro Z _; go_simp⟩) (unhide HSt) ?_
                  refine anyW_take (i := 1) (v := .int .i64 k) rfl (by kernel_rfl) (by kernel_rfl) (by kernel_rfl) (by kernel_rfl) (fun _ _ _ h => h) (Or.inl ⟨by rfl, by intro Z _; go_simp⟩) (unhide HSt) ?_
                  refine anyW_take (i := 2) (v := .int .i64 k) rfl (by kernel_rfl) (by kernel_rfl) (by kernel_rfl) (by kernel_rfl) (fun _ _ _ h => h) (Or.inl ⟨by rfl, by intro Z _; go_simp⟩) (unhide HSt) ?_
                  go_simp
                  refine anyW_take (i := 3) (v := .slice (some ⟨q, 0, none⟩) k k) rfl (by kernel_rfl) (by kernel_rfl) (by kernel_rfl) (by kernel_rfl) (fun _ _ _ h => h) (Or.inl ⟨by rfl, by intro Z _; go_simp⟩) (unhide HSt) ?_
                  refine anyW_take (i := 4) (v := .slice (some ⟨gl, ol, none⟩) l.length c1') rfl (by kernel_rfl) (by kernel_rfl) (by kernel_rfl) (by kernel_rfl) (fun _ _ _ h => h) (Or.inl ⟨by rfl, by intro Z _; go_simp⟩) (unhide HSt) ?_
                  refine anyW_take (i := 5) (v := .int .i64 m) rfl (by kernel_rfl) (by kernel_rfl) (by kernel_rfl) (by kernel_rfl) (fun _ _ _ h => h) (Or.inl ⟨by rfl, by intro Z _; go_simp⟩) (unhide HSt) ?_
                  go_simp
                  refine anyW_take (i := 6) (v := .pointer (some ⟨gl, ol + m * 2, none⟩)) rfl (by kernel_rfl) (by kernel_rfl) (by kernel_rfl) (by kernel_rfl) (fun _ _ _ h => h) (Or.inl ⟨by rfl, by intro Z _; go_simp⟩) (unhide HSt) ?_
                  go_simp
                  refine anyW_take (i := 7) (v := .agg (sbA (xa, xb))) rfl (by kernel_rfl) (by kernel_rfl) (by kernel_rfl) (by kernel_rfl) (fun _ _ _ h => h) (Or.inl ⟨by rfl, by intro Z hs; have h8 := hs.1; have h9 := hs.2; go_simp⟩) (unhide HSt) ?_
                  refine anyW_free (i := 10) (v := .slice A1 (i - k) c1) rfl (by kernel_rfl) (by kernel_rfl) (by kernel_rfl) (fun _ _ _ h => h) (Or.inl ⟨by rfl, by intro Z _; go_simp⟩) ?_
                  go_simp
                  refine anyW_one (i := 8) (by kernel_rfl) rfl (fun K hK => ?_)
                  rw [if_pos (by rfl)]
                  refine wp_build1 22 33 _ rfl (sbA (xa, xb)) i0 zz 2 Try.underlying22 (unhide HI0) (unhide HIA) (unhide HIB) (by decide) (by decide) (unhide HID) rfl rfl ?_
                  have b3 := (Below.refl w2.drew.heap.size w2.drew).alloc (Nat.le_refl _) (.cells (sbA (xa, xb)) 33)
                  have hn3 := World.news_of_block (heap_alloc_new w2.drew (.cells (sbA (xa, xb)) 33))
                  have HS3 := hide (show (w2.drew.alloc (.cells (sbA (xa, xb)) 33)).cell? ⟨gl, ol + m * 2, none⟩ = some (.int .i64 xa) ∧ (w2.drew.alloc (.cells (sbA (xa, xb)) 33)).cell? ⟨gl, ol + m * 2 + 1, none⟩ = some (.int .i64 xb) from ⟨kept b3 (unhide HSt).1, kept b3 (unhide HSt).2⟩)
                  refine hK _ _ ⟨fun _ => unhide HS3, ?_⟩
                  clear hK K HS3
                  obtain ⟨W3, hW3⟩ : ∃ W3 : World, w2.drew.alloc (.cells (sbA (xa, xb)) 33) = W3 := ⟨_, rfl⟩
                  rw [hW3] at b3 hn3
                  obtain ⟨F, hF⟩ : ∃ F, w2.drew.heap.size = F := ⟨_, rfl⟩
                  rw [hF] at hn3
                  have HN3 := hide hn3
                  have HX3 := hide (show ∀ (j : Nat) (u : Value), wz.cell? ⟨q, j, none⟩ = some u → W3.cell? ⟨q, j, none⟩ = some u from fun j u hc => kept b3 (show w2.drew.cell? _ = _ from unhide HG1 _ _ (by have := unhide HQ; have := unhide HE; simp only []; omega) hc))
                  have HB3 := hide (onward (Below.drew (unhide HB2)) b3)
                  have HR3 := hide (owns_later (owns_later (unhide HR1) ((Below.refl _ w2).drew)) b3)
                  clear b3 hn3 HR1
                  rw [hW3, hF]
                  clear hF hW3
                  refine anyW_one (i := 9) (by kernel_rfl) rfl (fun K hK => ?_)
                  rw [if_pos (by rfl)]
                  refine wp_append_grows _ _ _ 22 rfl 33 i0 zz 2 16 Try.underlying22 (unhide HI0) (unhide HIA) (unhide HIB) (unhide HIC) (unhide HID) (by decide) ⟨q, 0, none⟩ k k ((o.take k).flatMap sbC) rfl (by rw [flatK_len sbC 2 sbC_len, List.length_take, unhide HL, Nat.min_eq_left (unhide HKi)]) (fun j u hu => by rw [Addr.add_lit, Nat.zero_add]; exact unhide HX3 _ _ (unhide HCe j u (by rw [← (flat_take sbC 2 sbC_len o k (by rw [unhide HL]; exact unhide HKi)).1, List.getElem?_take] at hu; split at hu <;> first | exact hu | cases hu))) ⟨F, 0, none⟩ 1 1 (sbC (xa, xb)) rfl rfl (unhide HN3) (by omega) (by have := unhide HKi; unfold maxLen; omega) (by have := unhide HKi; omega) ?_
                  intro v4 w4 hown4 hg4
                  have HO4 := hide (show w4.ownsRow w.heap.size 33 2 v4 (k + 1) ((o.take k ++ [(xa, xb)]).flatMap sbC) from by rw [List.flatMap_append]; simpa using own_base hown4 (unhide HB3).size)
                  have HB4 := hide ((unhide HB3).grown hg4 (unhide HB3).size (fun j e => by cases e))
                  have HR4 := hide ((unhide HR3).kept hg4 (Classical.em _))
                  refine hK _ _ ⟨fun _ => unhide HKS _ (unhide HB4), ?_⟩
                  clear hK K hown4 hg4
                  go_simp
                  refine anyW_one (i := 11) (by kernel_rfl) rfl (fun K hK => ?_)
                  rw [if_pos (by rfl)]
                  refine wp_append_any _ _ 22 rfl w.heap.size 33 i0 zz 2 16 Try.underlying22 (unhide HI0) (unhide HIA) (unhide HIB) (unhide HIC) (unhide HID) (by decide) v4 (k + 1) _ rfl (unhide HO4) A1 (i - k) c1 ((o.drop k).flatMap sbC) rfl (by rw [flatK_len sbC 2 sbC_len, List.length_drop, unhide HL]) (fun hp => by rcases own_openS (unhide HR4) with ⟨_, ⟨_, e0, _, _⟩ | ⟨q1, e1, _, _, hc1⟩⟩ <;> first | omega | exact ⟨q1, 0, e1, fun j u hu => by rw [Nat.zero_add]; exact hc1 j u hu⟩) sb_one (by have := unhide HKi; unfold maxLen; omega) (by have := unhide HKi; omega) (unhide HB4).size ?_
                  intro v5 w5 hown5 hg5 _
                  have HZ := hide (show w5.ownsRow w.heap.size 33 2 v5 (i + 1) ((o.take k ++ [(xa, xb)] ++ o.drop k).flatMap sbC) from by rw [List.flatMap_append]; have e9 : i + 1 = k + 1 + (i - k) := (by have := unhide HKi; omega); rw [e9]; exact hown5)
                  have HBz := hide ((unhide HB4).grown hg5 (unhide HB4).size (fun j e => ((unhide HO4).lt j e).1))
                  refine hK _ _ ⟨fun _ => unhide HKS _ (unhide HBz), ?_⟩
                  clear hK K hown5 hg5
                  go_simp
                  refine anyW_one (i := 12) (by kernel_rfl) rfl (fun K hK => ?_)
                  obtain ⟨A5, c5, rfl⟩ := own_form (unhide HZ)
                  go_simp
                  refine hK _ _ ⟨fun _ => unhide HKS _ (unhide HBz), ?_⟩
                  clear hK K
                  refine anyW_done (by kernel_rfl) ?_ _
                  go_simp
                  go_wp2
                  go_roundw
                  case rel => exact ⟨m + 1, i + 1, o.take k ++ [(xa, xb)] ++ o.drop k, A5, c5, by omega, by omega, rfl, by go_num, hide (unhide HNext), hide ⟨unhide HBz, unhide HZ⟩⟩
                  case measure => simp [intOf]; omega
                · have e1 : k = i := by have := unhide HKi; omega
                  have e2 : k = c := by have := unhide HKi; omega
                  subst e1
                  subst e2
                  have bE := (Below.refl wz.heap.size wz).alloc (Nat.le_refl _) (.cells #[] 33)
                  obtain ⟨WE, hWE⟩ : ∃ WE : World, wz.alloc (.cells #[] 33) = WE := ⟨_, rfl⟩
                  obtain ⟨E, hE⟩ : ∃ E, wz.heap.size = E := ⟨_, rfl⟩
                  have HEm := hide (show WE.ownsRow (w.heap.size) 33 2 (.slice (some ⟨E, 0, none⟩) 0 0) 0 [] from by
                    rw [← hWE, ← hE]
                    exact ⟨rfl, .inr ⟨wz.heap.size, 0, #[], rfl, by have := (unhide HBn).size; omega, heap_alloc_new wz _, Nat.le_refl _, Nat.zero_le _, rfl, rfl⟩⟩)
                  have HX1 := hide (show Below wz.heap.size wz WE ∧ ∀ (a : Addr) (u : Value), wz.cell? a = some u → WE.cell? a = some u from by rw [← hWE]; exact ⟨bE, fun a u h => kept bE h⟩)
                  have HBE := hide (show w.heap.size ≤ WE.heap.size ∧ E < WE.heap.size by rw [← hWE, ← hE, World.size_alloc]; have := (unhide HBn).size; omega)
                  have HE := hide hE
                  clear bE
                  have HR1 := hide (show WE.ownsRow (w.heap.size) 33 2 (.slice (some ⟨E, 0, none⟩) 0 0) 0 [] from unhide HEm)
                  have HB2 := hide (onward (unhide HBn) (unhide HX1).1)
                  have hDr : o.drop k = [] := List.drop_eq_nil_of_le (by rw [unhide HL]; exact Nat.le_refl _)
                  have HDr := hide hDr
                  clear hDr
                  clear HEm
                  have HKS := hide (fun (Z : World) (hZ : Below w.heap.size w Z) => show Z.cell? ⟨gl, ol + m * 2, none⟩ = some (.int .i64 xa) ∧ Z.cell? ⟨gl, ol + m * 2 + 1, none⟩ = some (.int .i64 xb) from by
                    obtain ⟨gs, os, eA2, hld⟩ := sb_get ((unhide HSb).keep hZ) (unhide HM)
                    injection eA2 with eA2
                    injection eA2 with ea2 eb2
                    subst ea2
                    subst eb2
                    rw [unhide HXe] at hld
                    exact ⟨hld 0 _ rfl, hld 1 _ rfl⟩)
                  have HSt := hide (unhide HKS WE.drew (unhide HB2).drew)
                  go_upto_region 10 with fail
                  refine wp_region_anyW [] (fun Z => Z.cell? ⟨gl, ol + m * 2, none⟩ = some (.int .i64 xa) ∧ Z.cell? ⟨gl, ol + m * 2 + 1, none⟩ = some (.int .i64 xb)) (by kernel_rfl) ?_
                  refine anyW_take (i := 0) (v := .slice (some ⟨q, 0, none⟩) k k) rfl (by kernel_rfl) (by kernel_rfl) (by kernel_rfl) (by kernel_rfl) (fun _ _ _ h => h) (Or.inl ⟨by rfl, by intro Z _; go_simp⟩) (unhide HSt) ?_
                  refine anyW_take (i := 1) (v := .int .i64 k) rfl (by kernel_rfl) (by kernel_rfl) (by kernel_rfl) (by kernel_rfl) (fun _ _ _ h => h) (Or.inl ⟨by rfl, by intro Z _; go_simp⟩) (unhide HSt) ?_
                  refine anyW_take (i := 2) (v := .int .i64 k) rfl (by kernel_rfl) (by kernel_rfl) (by kernel_rfl) (by kernel_rfl) (fun _ _ _ h => h) (Or.inl ⟨by rfl, by intro Z _; go_simp⟩) (unhide HSt) ?_
                  go_simp
                  refine anyW_take (i := 3) (v := .slice (some ⟨q, 0, none⟩) k k) rfl (by kernel_rfl) (by kernel_rfl) (by kernel_rfl) (by kernel_rfl) (fun _ _ _ h => h) (Or.inl ⟨by rfl, by intro Z _; go_simp⟩) (unhide HSt) ?_
                  refine anyW_take (i := 4) (v := .slice (some ⟨gl, ol, none⟩) l.length c1') rfl (by kernel_rfl) (by kernel_rfl) (by kernel_rfl) (by kernel_rfl) (fun _ _ _ h => h) (Or.inl ⟨by rfl, by intro Z _; go_simp⟩) (unhide HSt) ?_
                  refine anyW_take (i := 5) (v := .int .i64 m) rfl (by kernel_rfl) (by kernel_rfl) (by kernel_rfl) (by kernel_rfl) (fun _ _ _ h => h) (Or.inl ⟨by rfl, by intro Z _; go_simp⟩) (unhide HSt) ?_
                  go_simp
                  refine anyW_take (i := 6) (v := .pointer (some ⟨gl, ol + m * 2, none⟩)) rfl (by kernel_rfl) (by kernel_rfl) (by kernel_rfl) (by kernel_rfl) (fun _ _ _ h => h) (Or.inl ⟨by rfl, by intro Z _; go_simp⟩) (unhide HSt) ?_
                  go_simp
                  refine anyW_take (i := 7) (v := .agg (sbA (xa, xb))) rfl (by kernel_rfl) (by kernel_rfl) (by kernel_rfl) (by kernel_rfl) (fun _ _ _ h => h) (Or.inl ⟨by rfl, by intro Z hs; have h8 := hs.1; have h9 := hs.2; go_simp⟩) (unhide HSt) ?_
                  refine anyW_free (i := 10) (v := .slice (some ⟨E, 0, none⟩) 0 0) rfl (by kernel_rfl) (by kernel_rfl) (by kernel_rfl) (fun _ _ _ h => h) (Or.inl ⟨by rfl, by intro Z _; go_simp⟩) ?_
                  go_simp
                  refine anyW_one (i := 8) (by kernel_rfl) rfl (fun K hK => ?_)
                  rw [if_pos (by rfl)]
                  refine wp_build1 22 33 _ rfl (sbA (xa, xb)) i0 zz 2 Try.underlying22 (unhide HI0) (unhide HIA) (unhide HIB) (by decide) (by decide) (unhide HID) rfl rfl ?_
                  have b3 := (Below.refl WE.drew.heap.size WE.drew).alloc (Nat.le_refl _) (.cells (sbA (xa, xb)) 33)
                  have hn3 := World.news_of_block (heap_alloc_new WE.drew (.cells (sbA (xa, xb)) 33))
                  have HS3 := hide (show (WE.drew.alloc (.cells (sbA (xa, xb)) 33)).cell? ⟨gl, ol + m * 2, none⟩ = some (.int .i64 xa) ∧ (WE.drew.alloc (.cells (sbA (xa, xb)) 33)).cell? ⟨gl, ol + m * 2 + 1, none⟩ = some (.int .i64 xb) from ⟨kept b3 (unhide HSt).1, kept b3 (unhide HSt).2⟩)
                  refine hK _ _ ⟨fun _ => unhide HS3, ?_⟩
                  clear hK K HS3
                  obtain ⟨W3, hW3⟩ : ∃ W3 : World, WE.drew.alloc (.cells (sbA (xa, xb)) 33) = W3 := ⟨_, rfl⟩
                  rw [hW3] at b3 hn3
                  obtain ⟨F, hF⟩ : ∃ F, WE.drew.heap.size = F := ⟨_, rfl⟩
                  rw [hF] at hn3
                  have HN3 := hide hn3
                  have HX3 := hide (show ∀ (j : Nat) (u : Value), wz.cell? ⟨q, j, none⟩ = some u → W3.cell? ⟨q, j, none⟩ = some u from fun j u hc => kept b3 (show WE.drew.cell? _ = _ from (unhide HX1).2 _ _ hc))
                  have HB3 := hide (onward (Below.drew (unhide HB2)) b3)
                  have HR3 := hide (owns_later (owns_later (unhide HR1) ((Below.refl _ WE).drew)) b3)
                  clear b3 hn3 HR1
                  rw [hW3, hF]
                  clear hF hW3
                  refine anyW_one (i := 9) (by kernel_rfl) rfl (fun K hK => ?_)
                  rw [if_pos (by rfl)]
                  refine wp_append_grows _ _ _ 22 rfl 33 i0 zz 2 16 Try.underlying22 (unhide HI0) (unhide HIA) (unhide HIB) (unhide HIC) (unhide HID) (by decide) ⟨q, 0, none⟩ k k ((o.take k).flatMap sbC) rfl (by rw [flatK_len sbC 2 sbC_len, List.length_take, unhide HL, Nat.min_eq_left (unhide HKi)]) (fun j u hu => by rw [Addr.add_lit, Nat.zero_add]; exact unhide HX3 _ _ (unhide HCe j u (by rw [← (flat_take sbC 2 sbC_len o k (by rw [unhide HL]; exact unhide HKi)).1, List.getElem?_take] at hu; split at hu <;> first | exact hu | cases hu))) ⟨F, 0, none⟩ 1 1 (sbC (xa, xb)) rfl rfl (unhide HN3) (by omega) (by have := unhide HKi; unfold maxLen; omega) (by have := unhide HKi; omega) ?_
                  intro v4 w4 hown4 hg4
                  have HO4 := hide (show w4.ownsRow w.heap.size 33 2 v4 (k + 1) ((o.take k ++ [(xa, xb)]).flatMap sbC) from by rw [List.flatMap_append]; simpa using own_base hown4 (unhide HB3).size)
                  have HB4 := hide ((unhide HB3).grown hg4 (unhide HB3).size (fun j e => by cases e))
                  have HR4 := hide ((unhide HR3).kept hg4 (Classical.em _))
                  refine hK _ _ ⟨fun _ => unhide HKS _ (unhide HB4), ?_⟩
                  clear hK K hown4 hg4
                  go_simp
                  refine anyW_one (i := 11) (by kernel_rfl) rfl (fun K hK => ?_)
                  rw [if_pos (by rfl)]
                  refine wp_append_any _ _ 22 rfl w.heap.size 33 i0 zz 2 16 Try.underlying22 (unhide HI0) (unhide HIA) (unhide HIB) (unhide HIC) (unhide HID) (by decide) v4 (k + 1) _ rfl (unhide HO4) (some ⟨E, 0, none⟩) 0 0 [] rfl rfl (fun hp => absurd hp (Nat.lt_irrefl _)) (fun u hu => by cases hu) (by unfold maxLen; omega) (by omega) (unhide HB4).size ?_
                  intro v5 w5 hown5 hg5 _
                  have HZ := hide (show w5.ownsRow w.heap.size 33 2 v5 (k + 1) ((o.take k ++ [(xa, xb)] ++ o.drop k).flatMap sbC) from by rw [unhide HDr, List.append_nil]; simpa using hown5)
                  have HBz := hide ((unhide HB4).grown hg5 (unhide HB4).size (fun j e => ((unhide HO4).lt j e).1))
                  refine hK _ _ ⟨fun _ => unhide HKS _ (unhide HBz), ?_⟩
                  clear hK K hown5 hg5
                  go_simp
                  refine anyW_one (i := 12) (by kernel_rfl) rfl (fun K hK => ?_)
                  obtain ⟨A5, c5, rfl⟩ := own_form (unhide HZ)
                  go_simp
                  refine hK _ _ ⟨fun _ => unhide HKS _ (unhide HBz), ?_⟩
                  clear hK K
                  refine anyW_done (by kernel_rfl) ?_ _
                  go_simp
                  go_wp2
                  go_roundw
                  case rel => exact ⟨m + 1, k + 1, o.take k ++ [(xa, xb)] ++ o.drop k, A5, c5, by omega, by omega, rfl, by go_num, hide (unhide HNext), hide ⟨unhide HBz, unhide HZ⟩⟩
                  case measure => simp [intOf]; omega
        · have q0 : ¬ (0 : Int) < (k : Int) := by omega
          have HK0 := hide (show k = 0 by omega)
          have HXx := hide hxx
          clear hxx
          go_wp2_with fail
          refine wp_region_after (by kernel_rfl) (by kernel_rfl) ?_
          repeat (go_big_quiet_step (fail))
          refine wpQuiet_nil ?_
          rintro _ ⟨t, rfl⟩
          have HNext := hide (show IsRk (l.take (m + 1)) (o.take k ++ [(xa, xb)] ++ o.drop k) from rk_snoc_yes (unhide HM) (unhide HRk) (by rw [unhide HXe]; exact unhide HCn) (by rw [unhide HXe]; exact ins_permS) (ins_rk (unhide HRk).asc (by rw [unhide HL]; exact unhide HKi) (fun q h1 h2 => unhide HK q h1 (by rw [unhide HL] at h2; exact h2)) (.inl (unhide HK0))))
          have HOn := hide (owns_later (unhide HJ).2 t.is)
          have HBn := hide (onward (unhide HJ).1 t.is)
          generalize t.to = wz at HOn HBn ⊢
          clear t HJ
          clear q0 hk0
          have him : i ≤ 1000 := by omega
          rcases own_openS (unhide HOn) with ⟨hl, ⟨rfl, rfl, rfl, rfl⟩ | ⟨q, rfl, hic, hcm, hcells⟩⟩
          · have hk00 : k = 0 := by have := unhide HKi; omega
            subst hk00
            have bE := (Below.refl wz.heap.size wz).alloc (Nat.le_refl _) (.cells #[] 33)
            obtain ⟨WE, hWE⟩ : ∃ WE : World, wz.alloc (.cells #[] 33) = WE := ⟨_, rfl⟩
            obtain ⟨E, hE⟩ : ∃ E, wz.heap.size = E := ⟨_, rfl⟩
            have HEm := hide (show WE.ownsRow (w.heap.size) 33 2 (.slice (some ⟨E, 0, none⟩) 0 0) 0 [] from by
              rw [← hWE, ← hE]
              exact ⟨rfl, .inr ⟨wz.heap.size, 0, #[], rfl, by have := (unhide HBn).size; omega, heap_alloc_new wz _, Nat.le_refl _, Nat.zero_le _, rfl, rfl⟩⟩)
            have HX1 := hide (show Below wz.heap.size wz WE ∧ ∀ (a : Addr) (u : Value), wz.cell? a = some u → WE.cell? a = some u from by rw [← hWE]; exact ⟨bE, fun a u h => kept bE h⟩)
            have HBE := hide (show w.heap.size ≤ WE.heap.size ∧ E < WE.heap.size by rw [← hWE, ← hE, World.size_alloc]; have := (unhide HBn).size; omega)
            have HE := hide hE
            clear bE
            have HR1 := hide (show WE.ownsRow (w.heap.size) 33 2 (.slice (some ⟨E, 0, none⟩) 0 0) 0 [] from unhide HEm)
            have HB2 := hide (onward (unhide HBn) (unhide HX1).1)
            clear HEm
            have HKS := hide (fun (Z : World) (hZ : Below w.heap.size w Z) => show Z.cell? ⟨gl, ol + m * 2, none⟩ = some (.int .i64 xa) ∧ Z.cell? ⟨gl, ol + m * 2 + 1, none⟩ = some (.int .i64 xb) from by
              obtain ⟨gs, os, eA2, hld⟩ := sb_get ((unhide HSb).keep hZ) (unhide HM)
              injection eA2 with eA2
              injection eA2 with ea2 eb2
              subst ea2
              subst eb2
              rw [unhide HXe] at hld
              exact ⟨hld 0 _ rfl, hld 1 _ rfl⟩)
            have HSt := hide (unhide HKS WE.drew (unhide HB2).drew)
            go_upto_region 10 with fail
            refine wp_region_anyW [] (fun Z => Z.cell? ⟨gl, ol + m * 2, none⟩ = some (.int .i64 xa) ∧ Z.cell? ⟨gl, ol + m * 2 + 1, none⟩ = some (.int .i64 xb)) (by kernel_rfl) ?_
            refine anyW_take (i := 0) (v := .slice none 0 0) rfl (by kernel_rfl) (by kernel_rfl) (by kernel_rfl) (by kernel_rfl) (fun _ _ _ h => h) (Or.inl ⟨by rfl, by intro Z _; go_simp⟩) (unhide HSt) ?_
            refine anyW_take (i := 1) (v := .int .i64 0) rfl (by kernel_rfl) (by kernel_rfl) (by kernel_rfl) (by kernel_rfl) (fun _ _ _ h => h) (Or.inl ⟨by rfl, by intro Z _; go_simp⟩) (unhide HSt) ?_
            refine anyW_take (i := 2) (v := .int .i64 0) rfl (by kernel_rfl) (by kernel_rfl) (by kernel_rfl) (by kernel_rfl) (fun _ _ _ h => h) (Or.inl ⟨by rfl, by intro Z _; go_simp⟩) (unhide HSt) ?_
            go_simp
            refine anyW_take (i := 3) (v := .slice none 0 0) rfl (by kernel_rfl) (by kernel_rfl) (by kernel_rfl) (by kernel_rfl) (fun _ _ _ h => h) (Or.inl ⟨by rfl, by intro Z _; go_simp⟩) (unhide HSt) ?_
            refine anyW_take (i := 4) (v := .slice (some ⟨gl, ol, none⟩) l.length c1') rfl (by kernel_rfl) (by kernel_rfl) (by kernel_rfl) (by kernel_rfl) (fun _ _ _ h => h) (Or.inl ⟨by rfl, by intro Z _; go_simp⟩) (unhide HSt) ?_
            refine anyW_take (i := 5) (v := .int .i64 m) rfl (by kernel_rfl) (by kernel_rfl) (by kernel_rfl) (by kernel_rfl) (fun _ _ _ h => h) (Or.inl ⟨by rfl, by intro Z _; go_simp⟩) (unhide HSt) ?_
            go_simp
            refine anyW_take (i := 6) (v := .pointer (some ⟨gl, ol + m * 2, none⟩)) rfl (by kernel_rfl) (by kernel_rfl) (by kernel_rfl) (by kernel_rfl) (fun _ _ _ h => h) (Or.inl ⟨by rfl, by intro Z _; go_simp⟩) (unhide HSt) ?_
            go_simp
            refine anyW_take (i := 7) (v := .agg (sbA (xa, xb))) rfl (by kernel_rfl) (by kernel_rfl) (by kernel_rfl) (by kernel_rfl) (fun _ _ _ h => h) (Or.inl ⟨by rfl, by intro Z hs; have h8 := hs.1; have h9 := hs.2; go_simp⟩) (unhide HSt) ?_
            refine anyW_free (i := 10) (v := .slice (some ⟨E, 0, none⟩) 0 0) rfl (by kernel_rfl) (by kernel_rfl) (by kernel_rfl) (fun _ _ _ h => h) (Or.inl ⟨by rfl, by intro Z _; go_simp⟩) ?_
            go_simp
            refine anyW_one (i := 8) (by kernel_rfl) rfl (fun K hK => ?_)
            rw [if_pos (by rfl)]
            refine wp_build1 22 33 _ rfl (sbA (xa, xb)) i0 zz 2 Try.underlying22 (unhide HI0) (unhide HIA) (unhide HIB) (by decide) (by decide) (unhide HID) rfl rfl ?_
            have b3 := (Below.refl WE.drew.heap.size WE.drew).alloc (Nat.le_refl _) (.cells (sbA (xa, xb)) 33)
            have hn3 := World.news_of_block (heap_alloc_new WE.drew (.cells (sbA (xa, xb)) 33))
            have HS3 := hide (show (WE.drew.alloc (.cells (sbA (xa, xb)) 33)).cell? ⟨gl, ol + m * 2, none⟩ = some (.int .i64 xa) ∧ (WE.drew.alloc (.cells (sbA (xa, xb)) 33)).cell? ⟨gl, ol + m * 2 + 1, none⟩ = some (.int .i64 xb) from ⟨kept b3 (unhide HSt).1, kept b3 (unhide HSt).2⟩)
            refine hK _ _ ⟨fun _ => unhide HS3, ?_⟩
            clear hK K HS3
            obtain ⟨W3, hW3⟩ : ∃ W3 : World, WE.drew.alloc (.cells (sbA (xa, xb)) 33) = W3 := ⟨_, rfl⟩
            rw [hW3] at b3 hn3
            obtain ⟨F, hF⟩ : ∃ F, WE.drew.heap.size = F := ⟨_, rfl⟩
            rw [hF] at hn3
            have HN3 := hide hn3
            have HB3 := hide (onward (Below.drew (unhide HB2)) b3)
            have HR3 := hide (owns_later (owns_later (unhide HR1) ((Below.refl _ WE).drew)) b3)
            clear b3 hn3 HR1
            rw [hW3, hF]
            clear hF hW3
            refine anyW_one (i := 9) (by kernel_rfl) rfl (fun K hK => ?_)
            rw [if_pos (by rfl)]
            refine wp_append_any _ _ 22 rfl w.heap.size 33 i0 zz 2 16 Try.underlying22 (unhide HI0) (unhide HIA) (unhide HIB) (unhide HIC) (unhide HID) (by decide) (.slice none 0 0) 0 [] rfl (World.ownsRow_nil _ _ _ _) (some ⟨F, 0, none⟩) 1 1 (sbC (xa, xb)) rfl rfl (fun _ => ⟨F, 0, rfl, fun j u hu => by have := unhide HN3 j u hu; rwa [Addr.add_lit] at this⟩) sb_one1 (by unfold maxLen; omega) (by omega) (unhide HB3).size ?_
            intro v4 w4 hown4 hg4 _
            have HO4 := hide (show w4.ownsRow w.heap.size 33 2 v4 1 ([(xa, xb)].flatMap sbC) from by simpa using hown4)
            have HB4 := hide ((unhide HB3).grown hg4 (unhide HB3).size (fun j e => by cases e))
            have HR4 := hide ((unhide HR3).kept hg4 (Classical.em _))
            refine hK _ _ ⟨fun _ => unhide HKS _ (unhide HB4), ?_⟩
            clear hK K hown4 hg4
            go_simp
            refine anyW_one (i := 11) (by kernel_rfl) rfl (fun K hK => ?_)
            rw [if_pos (by rfl)]
            refine wp_append_any _ _ 22 rfl w.heap.size 33 i0 zz 2 16 Try.underlying22 (unhide HI0) (unhide HIA) (unhide HIB) (unhide HIC) (unhide HID) (by decide) v4 1 _ rfl (unhide HO4) (some ⟨E, 0, none⟩) 0 0 [] rfl rfl (fun hp => absurd hp (Nat.lt_irrefl _)) (fun u hu => by cases hu) (by unfold maxLen; omega) (by omega) (unhide HB4).size ?_
            intro v5 w5 hown5 hg5 _
            have HZ := hide (show w5.ownsRow w.heap.size 33 2 v5 1 (([] ++ [(xa, xb)] ++ ([] : List Sb)).flatMap sbC) from by simpa using hown5)
            have HBz := hide ((unhide HB4).grown hg5 (unhide HB4).size (fun j e => ((unhide HO4).lt j e).1))
            refine hK _ _ ⟨fun _ => unhide HKS _ (unhide HBz), ?_⟩
            clear hK K hown5 hg5
            go_simp
            refine anyW_one (i := 12) (by kernel_rfl) rfl (fun K hK => ?_)
            obtain ⟨A5, c5, rfl⟩ := own_form (unhide HZ)
            go_simp
            refine hK _ _ ⟨fun _ => unhide HKS _ (unhide HBz), ?_⟩
            clear hK K
            refine anyW_done (by kernel_rfl) ?_ _
            go_simp
            go_wp2
            go_roundw
            case rel => exact ⟨m + 1, 1, [] ++ [(xa, xb)] ++ [], A5, c5, by omega, by omega, rfl, by go_num, hide (unhide HNext), hide ⟨unhide HBz, unhide HZ⟩⟩
            case measure => simp [intOf]; omega
          · clear hl
            have k1 : (k : Int) ≤ (i : Int) := by have := unhide HKi; omega
            have k2 : (k : Int) ≤ (c : Int) := by have := unhide HKi; omega
            have HCe := hide (show ∀ j u, (o.flatMap sbC)[j]? = some u → wz.cell? ⟨q, j, none⟩ = some u from hcells)
            have HQ := hide (show q < wz.heap.size from ((unhide HOn).lt q rfl).2)
            clear hcells
            rcases Nat.lt_or_ge k c with hkc | hkc
            · have hkc2 : (k : Int) < (c : Int) := by omega
              have bE := (Below.refl wz.heap.size wz).alloc (Nat.le_refl _) (.cells #[] 33)
              obtain ⟨WE, hWE⟩ : ∃ WE : World, wz.alloc (.cells #[] 33) = WE := ⟨_, rfl⟩
              obtain ⟨E, hE⟩ : ∃ E, wz.heap.size = E := ⟨_, rfl⟩
              have HEm := hide (show WE.ownsRow (w.heap.size) 33 2 (.slice (some ⟨E, 0, none⟩) 0 0) 0 [] from by
                rw [← hWE, ← hE]
                exact ⟨rfl, .inr ⟨wz.heap.size, 0, #[], rfl, by have := (unhide HBn).size; omega, heap_alloc_new wz _, Nat.le_refl _, Nat.zero_le _, rfl, rfl⟩⟩)
              have HX1 := hide (show Below wz.heap.size wz WE ∧ ∀ (a : Addr) (u : Value), wz.cell? a = some u → WE.cell? a = some u from by rw [← hWE]; exact ⟨bE, fun a u h => kept bE h⟩)
              have HBE := hide (show w.heap.size ≤ WE.heap.size ∧ E < WE.heap.size by rw [← hWE, ← hE, World.size_alloc]; have := (unhide HBn).size; omega)
              have HE := hide hE
              clear bE
              go_wp2_with (at_builtin; refine wpList_copyG (H := w.heap.size) (e := E) (A := some ⟨q, k * 2, none⟩) (xs := (o.drop k).flatMap sbC) rfl _ _ rfl rfl rfl rfl Try.underlying22 (unhide HI0) (unhide HIA) (unhide HIB) (unhide HIC) (unhide HID) (by decide) (by rw [flatK_len sbC 2 sbC_len, List.length_drop, unhide HL]) (by unfold maxLen; omega) (by omega) sb_one (unhide HBE).1 (unhide HEm) (fun _ => ⟨q, k * 2, rfl, fun j u hu => (unhide HX1).2 _ _ (unhide HCe (k * 2 + j) u (by rw [← (flat_take sbC 2 sbC_len o k (by rw [unhide HL]; exact unhide HKi)).2, List.getElem?_drop] at hu; exact hu))⟩) ?_)
              intro A1 c1 w2 hown1 hg1
              have HR1 := hide (show w2.ownsRow (w.heap.size) 33 2 (.slice A1 (i - k) c1) (i - k) ((o.drop k).flatMap sbC) from hown1)
              have HG1 := hide (show ∀ (a : Addr) (u : Value), a.block ≠ E → wz.cell? a = some u → w2.cell? a = some u from fun a u hne hc => hg1.cell ((unhide HX1).2 a u hc) (by simpa using hne))
              have HB2 := hide ((onward (unhide HBn) (unhide HX1).1).grown hg1 (onward (unhide HBn) (unhide HX1).1).size (fun j e => by injection e with e; have := unhide HE; have := (unhide HBn).size; omega))
              clear hown1 hg1 HEm hWE hE
              have HKS := hide (fun (Z : World) (hZ : Below w.heap.size w Z) => show Z.cell? ⟨gl, ol + m * 2, none⟩ = some (.int .i64 xa) ∧ Z.cell? ⟨gl, ol + m * 2 + 1, none⟩ = some (.int .i64 xb) from by
                obtain ⟨gs, os, eA2, hld⟩ := sb_get ((unhide HSb).keep hZ) (unhide HM)
                injection eA2 with eA2
                injection eA2 with ea2 eb2
                subst ea2
                subst eb2
                rw [unhide HXe] at hld
                exact ⟨hld 0 _ rfl, hld 1 _ rfl⟩)
              have HSt := hide (unhide HKS w2.drew (unhide HB2).drew)
              go_upto_region 10 with fail
              refine wp_region_anyW [] (fun Z => Z.cell? ⟨gl, ol + m * 2, none⟩ = some (.int .i64 xa) ∧ Z.cell? ⟨gl, ol + m * 2 + 1, none⟩ = some (.int .i64 xb)) (by kernel_rfl) ?_
              refine anyW_take (i := 0) (v := .slice (some ⟨q, 0, none⟩) i c) rfl (by kernel_rfl) (by kernel_rfl) (by kernel_rfl) (by kernel_rfl) (fun _ _ _ h => h) (Or.inl ⟨by rfl, by intro Z _; go_simp⟩) (unhide HSt) ?_
              refine anyW_take (i := 1) (v := .int .i64 k) rfl (by kernel_rfl) (by kernel_rfl) (by kernel_rfl) (by kernel_rfl) (fun _ _ _ h => h) (Or.inl ⟨by rfl, by intro Z _; go_simp⟩) (unhide HSt) ?_
              refine anyW_take (i := 2) (v := .int .i64 k) rfl (by kernel_rfl) (by kernel_rfl) (by kernel_rfl) (by kernel_rfl) (fun _ _ _ h => h) (Or.inl ⟨by rfl, by intro Z _; go_simp⟩) (unhide HSt) ?_
              go_simp
              refine anyW_take (i := 3) (v := .slice (some ⟨q, 0, none⟩) k k) rfl (by kernel_rfl) (by kernel_rfl) (by kernel_rfl) (by kernel_rfl) (fun _ _ _ h => h) (Or.inl ⟨by rfl, by intro Z _; go_simp⟩) (unhide HSt) ?_
              refine anyW_take (i := 4) (v := .slice (some ⟨gl, ol, none⟩) l.length c1') rfl (by kernel_rfl) (by kernel_rfl) (by kernel_rfl) (by kernel_rfl) (fun _ _ _ h => h) (Or.inl ⟨by rfl, by intro Z _; go_simp⟩) (unhide HSt) ?_
              refine anyW_take (i := 5) (v := .int .i64 m) rfl (by kernel_rfl) (by kernel_rfl) (by kernel_rfl) (by kernel_rfl) (fun _ _ _ h => h) (Or.inl ⟨by rfl, by intro Z _; go_simp⟩) (unhide HSt) ?_
              go_simp
              refine anyW_take (i := 6) (v := .pointer (some ⟨gl, ol + m * 2, none⟩)) rfl (by kernel_rfl) (by kernel_rfl) (by kernel_rfl) (by kernel_rfl) (fun _ _ _ h => h) (Or.inl ⟨by rfl, by intro Z _; go_simp⟩) (unhide HSt) ?_
              go_simp
              refine anyW_take (i := 7) (v := .agg (sbA (xa, xb))) rfl (by kernel_rfl) (by kernel_rfl) (by kernel_rfl) (by kernel_rfl) (fun _ _ _ h => h) (Or.inl ⟨by rfl, by intro Z hs; have h8 := hs.1; have h9 := hs.2; go_simp⟩) (unhide HSt) ?_
              refine anyW_free (i := 10) (v := .slice A1 (i - k) c1) rfl (by kernel_rfl) (by kernel_rfl) (by kernel_rfl) (fun _ _ _ h => h) (Or.inl ⟨by rfl, by intro Z _; go_simp⟩) ?_
              go_simp
              refine anyW_one (i := 8) (by kernel_rfl) rfl (fun K hK => ?_)
              rw [if_pos (by rfl)]
              refine wp_build1 22 33 _ rfl (sbA (xa, xb)) i0 zz 2 Try.underlying22 (unhide HI0) (unhide HIA) (unhide HIB) (by decide) (by decide) (unhide HID) rfl rfl ?_
              have b3 := (Below.refl w2.drew.heap.size w2.drew).alloc (Nat.le_refl _) (.cells (sbA (xa, xb)) 33)
              have hn3 := World.news_of_block (heap_alloc_new w2.drew (.cells (sbA (xa, xb)) 33))
              have HS3 := hide (show (w2.drew.alloc (.cells (sbA (xa, xb)) 33)).cell? ⟨gl, ol + m * 2, none⟩ = some (.int .i64 xa) ∧ (w2.drew.alloc (.cells (sbA (xa, xb)) 33)).cell? ⟨gl, ol + m * 2 + 1, none⟩ = some (.int .i64 xb) from ⟨kept b3 (unhide HSt).1, kept b3 (unhide HSt).2⟩)
              refine hK _ _ ⟨fun _ => unhide HS3, ?_⟩
              clear hK K HS3
              obtain ⟨W3, hW3⟩ : ∃ W3 : World, w2.drew.alloc (.cells (sbA (xa, xb)) 33) = W3 := ⟨_, rfl⟩
              rw [hW3] at b3 hn3
              obtain ⟨F, hF⟩ : ∃ F, w2.drew.heap.size = F := ⟨_, rfl⟩
              rw [hF] at hn3
              have HN3 := hide hn3
              have HX3 := hide (show ∀ (j : Nat) (u : Value), wz.cell? ⟨q, j, none⟩ = some u → W3.cell? ⟨q, j, none⟩ = some u from fun j u hc => kept b3 (show w2.drew.cell? _ = _ from unhide HG1 _ _ (by have := unhide HQ; have := unhide HE; simp only []; omega) hc))
              have HB3 := hide (onward (Below.drew (unhide HB2)) b3)
              have HR3 := hide (owns_later (owns_later (unhide HR1) ((Below.refl _ w2).drew)) b3)
              clear b3 hn3 HR1
              rw [hW3, hF]
              clear hF hW3
              refine anyW_one (i := 9) (by kernel_rfl) rfl (fun K hK => ?_)
              rw [if_pos (by rfl)]
              refine wp_append_grows _ _ _ 22 rfl 33 i0 zz 2 16 Try.underlying22 (unhide HI0) (unhide HIA) (unhide HIB) (unhide HIC) (unhide HID) (by decide) ⟨q, 0, none⟩ k k ((o.take k).flatMap sbC) rfl (by rw [flatK_len sbC 2 sbC_len, List.length_take, unhide HL, Nat.min_eq_left (unhide HKi)]) (fun j u hu => by rw [Addr.add_lit, Nat.zero_add]; exact unhide HX3 _ _ (unhide HCe j u (by rw [← (flat_take sbC 2 sbC_len o k (by rw [unhide HL]; exact unhide HKi)).1, List.getElem?_take] at hu; split at hu <;> first | exact hu | cases hu))) ⟨F, 0, none⟩ 1 1 (sbC (xa, xb)) rfl rfl (unhide HN3) (by omega) (by have := unhide HKi; unfold maxLen; omega) (by have := unhide HKi; omega) ?_
              intro v4 w4 hown4 hg4
              have HO4 := hide (show w4.ownsRow w.heap.size 33 2 v4 (k + 1) ((o.take k ++ [(xa, xb)]).flatMap sbC) from by rw [List.flatMap_append]; simpa using own_base hown4 (unhide HB3).size)
              have HB4 := hide ((unhide HB3).grown hg4 (unhide HB3).size (fun j e => by cases e))
              have HR4 := hide ((unhide HR3).kept hg4 (Classical.em _))
              refine hK _ _ ⟨fun _ => unhide HKS _ (unhide HB4), ?_⟩
              clear hK K hown4 hg4
              go_simp
              refine anyW_one (i := 11) (by kernel_rfl) rfl (fun K hK => ?_)
              rw [if_pos (by rfl)]
              refine wp_append_any _ _ 22 rfl w.heap.size 33 i0 zz 2 16 Try.underlying22 (unhide HI0) (unhide HIA) (unhide HIB) (unhide HIC) (unhide HID) (by decide) v4 (k + 1) _ rfl (unhide HO4) A1 (i - k) c1 ((o.drop k).flatMap sbC) rfl (by rw [flatK_len sbC 2 sbC_len, List.length_drop, unhide HL]) (fun hp => by rcases own_openS (unhide HR4) with ⟨_, ⟨_, e0, _, _⟩ | ⟨q1, e1, _, _, hc1⟩⟩ <;> first | omega | exact ⟨q1, 0, e1, fun j u hu => by rw [Nat.zero_add]; exact hc1 j u hu⟩) sb_one (by have := unhide HKi; unfold maxLen; omega) (by have := unhide HKi; omega) (unhide HB4).size ?_
              intro v5 w5 hown5 hg5 _
              have HZ := hide (show w5.ownsRow w.heap.size 33 2 v5 (i + 1) ((o.take k ++ [(xa, xb)] ++ o.drop k).flatMap sbC) from by rw [List.flatMap_append]; have e9 : i + 1 = k + 1 + (i - k) := (by have := unhide HKi; omega); rw [e9]; exact hown5)
              have HBz := hide ((unhide HB4).grown hg5 (unhide HB4).size (fun j e => ((unhide HO4).lt j e).1))
              refine hK _ _ ⟨fun _ => unhide HKS _ (unhide HBz), ?_⟩
              clear hK K hown5 hg5
              go_simp
              refine anyW_one (i := 12) (by kernel_rfl) rfl (fun K hK => ?_)
              obtain ⟨A5, c5, rfl⟩ := own_form (unhide HZ)
              go_simp
              refine hK _ _ ⟨fun _ => unhide HKS _ (unhide HBz), ?_⟩
              clear hK K
              refine anyW_done (by kernel_rfl) ?_ _
              go_simp
              go_wp2
              go_roundw
              case rel => exact ⟨m + 1, i + 1, o.take k ++ [(xa, xb)] ++ o.drop k, A5, c5, by omega, by omega, rfl, by go_num, hide (unhide HNext), hide ⟨unhide HBz, unhide HZ⟩⟩
              case measure => simp [intOf]; omega
            · have e1 : k = i := by have := unhide HKi; omega
              have e2 : k = c := by have := unhide HKi; omega
              subst e1
              subst e2
              have bE := (Below.refl wz.heap.size wz).alloc (Nat.le_refl _) (.cells #[] 33)
              obtain ⟨WE, hWE⟩ : ∃ WE : World, wz.alloc (.cells #[] 33) = WE := ⟨_, rfl⟩
              obtain ⟨E, hE⟩ : ∃ E, wz.heap.size = E := ⟨_, rfl⟩
              have HEm := hide (show WE.ownsRow (w.heap.size) 33 2 (.slice (some ⟨E, 0, none⟩) 0 0) 0 [] from by
                rw [← hWE, ← hE]
                exact ⟨rfl, .inr ⟨wz.heap.size, 0, #[], rfl, by have := (unhide HBn).size; omega, heap_alloc_new wz _, Nat.le_refl _, Nat.zero_le _, rfl, rfl⟩⟩)
              have HX1 := hide (show Below wz.heap.size wz WE ∧ ∀ (a : Addr) (u : Value), wz.cell? a = some u → WE.cell? a = some u from by rw [← hWE]; exact ⟨bE, fun a u h => kept bE h⟩)
              have HBE := hide (show w.heap.size ≤ WE.heap.size ∧ E < WE.heap.size by rw [← hWE, ← hE, World.size_alloc]; have := (unhide HBn).size; omega)
              have HE := hide hE
              clear bE
              have HR1 := hide (show WE.ownsRow (w.heap.size) 33 2 (.slice (some ⟨E, 0, none⟩) 0 0) 0 [] from unhide HEm)
              have HB2 := hide (onward (unhide HBn) (unhide HX1).1)
              have hDr : o.drop k = [] := List.drop_eq_nil_of_le (by rw [unhide HL]; exact Nat.le_refl _)
              have HDr := hide hDr
              clear hDr
              clear HEm
              have HKS := hide (fun (Z : World) (hZ : Below w.heap.size w Z) => show Z.cell? ⟨gl, ol + m * 2, none⟩ = some (.int .i64 xa) ∧ Z.cell? ⟨gl, ol + m * 2 + 1, none⟩ = some (.int .i64 xb) from by
                obtain ⟨gs, os, eA2, hld⟩ := sb_get ((unhide HSb).keep hZ) (unhide HM)
                injection eA2 with eA2
                injection eA2 with ea2 eb2
                subst ea2
                subst eb2
                rw [unhide HXe] at hld
                exact ⟨hld 0 _ rfl, hld 1 _ rfl⟩)
              have HSt := hide (unhide HKS WE.drew (unhide HB2).drew)
              go_upto_region 10 with fail
              refine wp_region_anyW [] (fun Z => Z.cell? ⟨gl, ol + m * 2, none⟩ = some (.int .i64 xa) ∧ Z.cell? ⟨gl, ol + m * 2 + 1, none⟩ = some (.int .i64 xb)) (by kernel_rfl) ?_
              refine anyW_take (i := 0) (v := .slice (some ⟨q, 0, none⟩) k k) rfl (by kernel_rfl) (by kernel_rfl) (by kernel_rfl) (by kernel_rfl) (fun _ _ _ h => h) (Or.inl ⟨by rfl, by intro Z _; go_simp⟩) (unhide HSt) ?_
              refine anyW_take (i := 1) (v := .int .i64 k) rfl (by kernel_rfl) (by kernel_rfl) (by kernel_rfl) (by kernel_rfl) (fun _ _ _ h => h) (Or.inl ⟨by rfl, by intro Z _; go_simp⟩) (unhide HSt) ?_
              refine anyW_take (i := 2) (v := .int .i64 k) rfl (by kernel_rfl) (by kernel_rfl) (by kernel_rfl) (by kernel_rfl) (fun _ _ _ h => h) (Or.inl ⟨by rfl, by intro Z _; go_simp⟩) (unhide HSt) ?_
              go_simp
              refine anyW_take (i := 3) (v := .slice (some ⟨q, 0, none⟩) k k) rfl (by kernel_rfl) (by kernel_rfl) (by kernel_rfl) (by kernel_rfl) (fun _ _ _ h => h) (Or.inl ⟨by rfl, by intro Z _; go_simp⟩) (unhide HSt) ?_
              refine anyW_take (i := 4) (v := .slice (some ⟨gl, ol, none⟩) l.length c1') rfl (by kernel_rfl) (by kernel_rfl) (by kernel_rfl) (by kernel_rfl) (fun _ _ _ h => h) (Or.inl ⟨by rfl, by intro Z _; go_simp⟩) (unhide HSt) ?_
              refine anyW_take (i := 5) (v := .int .i64 m) rfl (by kernel_rfl) (by kernel_rfl) (by kernel_rfl) (by kernel_rfl) (fun _ _ _ h => h) (Or.inl ⟨by rfl, by intro Z _; go_simp⟩) (unhide HSt) ?_
              go_simp
              refine anyW_take (i := 6) (v := .pointer (some ⟨gl, ol + m * 2, none⟩)) rfl (by kernel_rfl) (by kernel_rfl) (by kernel_rfl) (by kernel_rfl) (fun _ _ _ h => h) (Or.inl ⟨by rfl, by intro Z _; go_simp⟩) (unhide HSt) ?_
              go_simp
              refine anyW_take (i := 7) (v := .agg (sbA (xa, xb))) rfl (by kernel_rfl) (by kernel_rfl) (by kernel_rfl) (by kernel_rfl) (fun _ _ _ h => h) (Or.inl ⟨by rfl, by intro Z hs; have h8 := hs.1; have h9 := hs.2; go_simp⟩) (unhide HSt) ?_
              refine anyW_free (i := 10) (v := .slice (some ⟨E, 0, none⟩) 0 0) rfl (by kernel_rfl) (by kernel_rfl) (by kernel_rfl) (fun _ _ _ h => h) (Or.inl ⟨by rfl, by intro Z _; go_simp⟩) ?_
              go_simp
              refine anyW_one (i := 8) (by kernel_rfl) rfl (fun K hK => ?_)
              rw [if_pos (by rfl)]
              refine wp_build1 22 33 _ rfl (sbA (xa, xb)) i0 zz 2 Try.underlying22 (unhide HI0) (unhide HIA) (unhide HIB) (by decide) (by decide) (unhide HID) rfl rfl ?_
              have b3 := (Below.refl WE.drew.heap.size WE.drew).alloc (Nat.le_refl _) (.cells (sbA (xa, xb)) 33)
              have hn3 := World.news_of_block (heap_alloc_new WE.drew (.cells (sbA (xa, xb)) 33))
              have HS3 := hide (show (WE.drew.alloc (.cells (sbA (xa, xb)) 33)).cell? ⟨gl, ol + m * 2, none⟩ = some (.int .i64 xa) ∧ (WE.drew.alloc (.cells (sbA (xa, xb)) 33)).cell? ⟨gl, ol + m * 2 + 1, none⟩ = some (.int .i64 xb) from ⟨kept b3 (unhide HSt).1, kept b3 (unhide HSt).2⟩)
              refine hK _ _ ⟨fun _ => unhide HS3, ?_⟩
              clear hK K HS3
              obtain ⟨W3, hW3⟩ : ∃ W3 : World, WE.drew.alloc (.cells (sbA (xa, xb)) 33) = W3 := ⟨_, rfl⟩
              rw [hW3] at b3 hn3
              obtain ⟨F, hF⟩ : ∃ F, WE.drew.heap.size = F := ⟨_, rfl⟩
              rw [hF] at hn3
              have HN3 := hide hn3
              have HX3 := hide (show ∀ (j : Nat) (u : Value), wz.cell? ⟨q, j, none⟩ = some u → W3.cell? ⟨q, j, none⟩ = some u from fun j u hc => kept b3 (show WE.drew.cell? _ = _ from (unhide HX1).2 _ _ hc))
              have HB3 := hide (onward (Below.drew (unhide HB2)) b3)
              have HR3 := hide (owns_later (owns_later (unhide HR1) ((Below.refl _ WE).drew)) b3)
              clear b3 hn3 HR1
              rw [hW3, hF]
              clear hF hW3
              refine anyW_one (i := 9) (by kernel_rfl) rfl (fun K hK => ?_)
              rw [if_pos (by rfl)]
              refine wp_append_grows _ _ _ 22 rfl 33 i0 zz 2 16 Try.underlying22 (unhide HI0) (unhide HIA) (unhide HIB) (unhide HIC) (unhide HID) (by decide) ⟨q, 0, none⟩ k k ((o.take k).flatMap sbC) rfl (by rw [flatK_len sbC 2 sbC_len, List.length_take, unhide HL, Nat.min_eq_left (unhide HKi)]) (fun j u hu => by rw [Addr.add_lit, Nat.zero_add]; exact unhide HX3 _ _ (unhide HCe j u (by rw [← (flat_take sbC 2 sbC_len o k (by rw [unhide HL]; exact unhide HKi)).1, List.getElem?_take] at hu; split at hu <;> first | exact hu | cases hu))) ⟨F, 0, none⟩ 1 1 (sbC (xa, xb)) rfl rfl (unhide HN3) (by omega) (by have := unhide HKi; unfold maxLen; omega) (by have := unhide HKi; omega) ?_
              intro v4 w4 hown4 hg4
              have HO4 := hide (show w4.ownsRow w.heap.size 33 2 v4 (k + 1) ((o.take k ++ [(xa, xb)]).flatMap sbC) from by rw [List.flatMap_append]; simpa using own_base hown4 (unhide HB3).size)
              have HB4 := hide ((unhide HB3).grown hg4 (unhide HB3).size (fun j e => by cases e))
              have HR4 := hide ((unhide HR3).kept hg4 (Classical.em _))
              refine hK _ _ ⟨fun _ => unhide HKS _ (unhide HB4), ?_⟩
              clear hK K hown4 hg4
              go_simp
              refine anyW_one (i := 11) (by kernel_rfl) rfl (fun K hK => ?_)
              rw [if_pos (by rfl)]
              refine wp_append_any _ _ 22 rfl w.heap.size 33 i0 zz 2 16 Try.underlying22 (unhide HI0) (unhide HIA) (unhide HIB) (unhide HIC) (unhide HID) (by decide) v4 (k + 1) _ rfl (unhide HO4) (some ⟨E, 0, none⟩) 0 0 [] rfl rfl (fun hp => absurd hp (Nat.lt_irrefl _)) (fun u hu => by cases hu) (by unfold maxLen; omega) (by omega) (unhide HB4).size ?_
              intro v5 w5 hown5 hg5 _
              have HZ := hide (show w5.ownsRow w.heap.size 33 2 v5 (k + 1) ((o.take k ++ [(xa, xb)] ++ o.drop k).flatMap sbC) from by rw [unhide HDr, List.append_nil]; simpa using hown5)
              have HBz := hide ((unhide HB4).grown hg5 (unhide HB4).size (fun j e => ((unhide HO4).lt j e).1))
              refine hK _ _ ⟨fun _ => unhide HKS _ (unhide HBz), ?_⟩
              clear hK K hown5 hg5
              go_simp
              refine anyW_one (i := 12) (by kernel_rfl) rfl (fun K hK => ?_)
              obtain ⟨A5, c5, rfl⟩ := own_form (unhide HZ)
              go_simp
              refine hK _ _ ⟨fun _ => unhide HKS _ (unhide HBz), ?_⟩
              clear hK K
              refine anyW_done (by kernel_rfl) ?_ _
              go_simp
              go_wp2
              go_roundw
              case rel => exact ⟨m + 1, k + 1, o.take k ++ [(xa, xb)] ++ o.drop k, A5, c5, by omega, by omega, rfl, by go_num, hide (unhide HNext), hide ⟨unhide HBz, unhide HZ⟩⟩
              case measure => simp [intOf]; omega
    · obtain rfl : m = l.length := by omega
      have ml : ¬ (l.length : Int) < (l.length : Int) := by omega
      have hl := (own_openS (unhide HP).2).1
      go_wp2
      go_ret
      have hr := unhide HRk
      rw [List.take_length] at hr
      subst hl
      exact ⟨o, A, c, rfl, hr, (unhide HP).2, (unhide HP).1⟩
end Go.Proofs.Ytbajmbegkacbbaa
