/-
  Contract of the reader's Telegram: one of a few telegrams.
-/
import Derived.Test.YtmdjdhfchigekaaDoorTelK
import Derived.Deep.RegionLaw
namespace Go.Proofs.YtmdjdhfchigekaaDoor
open Go.RowKit

set_option maxHeartbeats 4000000 in
theorem telegram_any (B b : Nat) (w : World) (hS : Src B b w) :
    Calls Tryd.prog 11 #[.pointer (some ⟨b, 0, none⟩)] w fun e w' => ∃ t A c, e = .returned (.agg #[.string t.kind, .string t.change, .slice A t.els.length c]) ∧ FewT t ∧ ElsIn b w' A t.els ∧ Src B b w' ∧ w.grownBy w' (some b) := by
  have hlt := hS.lt
  obtain ⟨i0, hi, hz0, hz1, hz2⟩ := info_parts info_strE
  have HI0 := hide hi
  have HZ0 := hide hz0
  have HZ1 := hide hz1
  have HZ2 := hide hz2
  obtain ⟨i2, ki, kz0, kz1, kz2⟩ := info_parts info_el
  have KI0 := hide ki
  have KZ0 := hide kz0
  have KZ1 := hide kz1
  have KZ2 := hide kz2
  clear hi hz0 hz1 hz2 ki kz0 kz1 kz2
  have R := (Rd.start (hS.keep ((Below.refl _ _).alloc (Nat.le_refl _) (.cells #[.string ⟨#[]⟩, .string ⟨#[]⟩, .slice none 0 0] 24)))).alloc (.cells #[.string ⟨#[66, 83, 77]⟩, .string ⟨#[66, 84, 77]⟩, .string ⟨#[88, 89, 90]⟩] 9)
  go_enter Tryd.func11, Tryd.ntmps11
  go_wp2_with fail
  have q := three_strs (w := w.alloc (.cells #[.string ⟨#[]⟩, .string ⟨#[]⟩, .slice none 0 0] 24)) (f := kindS) (t := 9) rfl rfl rfl
  have hne : some (w.heap.size + 1) ≠ some b := by simp; omega
  rw [World.size_alloc] at q
  refine (text_any B b _ 3 kindS _ R.src (by omega) (by omega) hne q).mono ?_
  rintro e w1 ⟨i, _, rfl, hs1, hg1⟩
  have R1 := R.step hs1 hg1
  clear q R hs1 hg1 hne
  go_wp2_with fail
  have q := three_strs (w := w1) (f := chngS) (t := 9) (x := ⟨#[]⟩) (y := ⟨#[67, 72, 71]⟩) (z := ⟨#[68, 69, 76]⟩) rfl rfl rfl
  have R2 := R1.alloc (.cells #[.string ⟨#[]⟩, .string ⟨#[67, 72, 71]⟩, .string ⟨#[68, 69, 76]⟩] 9)
  refine (text_any B b _ 3 chngS _ R2.src (by omega) (by omega) R1.ne q).mono ?_
  rintro e w2 ⟨j, _, rfl, hs1, hg1⟩
  have R3 := R2.step hs1 hg1
  clear q R1 R2 hs1 hg1
  go_wp2_with fail
  have hrt : w.heap.size + 1 ≤ w2.heap.size := by have := R3.gr.size; rwa [World.size_alloc] at this
  have R4 := R3.alloc (.cells #[.string (kindS i), .string (chngS j), .slice none 0 0] 24)
  have hT4 := heap_alloc_new w2 (.cells #[.string (kindS i), .string (chngS j), .slice none 0 0] 24)
  generalize hRT : w2.heap.size = rt at *
  have HRT := Lib.hid hRT
  clear hRT
  generalize w2.alloc (.cells #[.string (kindS i), .string (chngS j), .slice none 0 0] 24) = W2 at *
  refine (n_any B b 5 _ R4.src (by omega) (by omega)).mono ?_
  rintro e w3 ⟨x, rfl, hx1, hx2, hs1, hg1⟩
  obtain ⟨X, rfl⟩ := Int.eq_ofNat_of_zero_le hx1
  have hX : X ≤ 4 := by omega
  have hT3 := (hg1.block rt (Array.getElem?_eq_some_iff.1 hT4).1 (by simp; omega)).trans hT4
  have R5 := R4.step hs1 hg1
  have HR5 := hide R5
  have HT3 := hide hT3
  clear hs1 hg1 R3 R4 R5 hT4 hT3 hx1 hx2
  go_wp2_with fail
  go_loopw [4] (fun v wr => ∃ (k : Nat) (xs : List ElS) (A : Option Addr) (c : Nat), k + xs.length = X ∧ v = .int .i64 k ∧ (xs.map (·.1)).all okEl = true ∧ Fin b wr xs ∧ wr.ownsRow (w.heap.size + 1) 34 2 (.slice A xs.length c) xs.length (xs.flatMap elCells) ∧ wr.heap[rt]? = some (.cells #[.string (kindS i), .string (chngS j), .slice A xs.length c] 24 (0, 0)) ∧ Rd (w.alloc (.cells #[.string ⟨#[]⟩, .string ⟨#[]⟩, .slice none 0 0] 24)) B b wr) (fun v _ => (intOf v).toNat)
  case atStart => exact ⟨X, [], none, 0, rfl, rfl, rfl, (fun _ h => by cases h), World.ownsRow_nil _ _ _ _, unhide HT3, unhide HR5⟩
  case round =>
    obtain ⟨k, xs, A, c, hk, rfl, hall, hfin, hown, htb, hrd⟩ := hrel
    obtain ⟨wo, rfl⟩ : ∃ wo : World, wo = wr := ⟨_, rfl⟩
    have HAll := hide hall
    have HFin := hide hfin
    have HOwn := hide hown
    have HTB := hide htb
    have HRd := hide hrd
    clear hall hfin hown htb hrd
    have hkl : xs.length ≤ 4 := by omega
    by_cases hkp : 0 < k
    · have kp : (0 : Int) < (k : Int) := by omega
      go_wp2_with fail
      refine (rletters_any B b 1 1 _ (unhide HRd).src (by omega) (by omega) (by omega)).mono ?_
      rintro e w4 ⟨S, rfl, hS1, hS2, hS3, hs1, hg1⟩
      have hSl : letN S 1 = true := by unfold letN; rw [hS3, Bool.and_true, decide_eq_true_eq]; omega
      have HSl := hide hSl
      have HFin4 := hide ((unhide HFin).step (KeepS.reads hg1))
      have HOwn4 := hide (owns_reads (unhide HOwn) hg1 (by omega))
      have HTB4 := hide ((hg1.block rt (Array.getElem?_eq_some_iff.1 (unhide HTB)).1 (by simp; omega)).trans (unhide HTB))
      have HRd4 := hide ((unhide HRd).step hs1 hg1)
      clear hS1 hS2 hS3 hs1 hg1 hSl
      go_wp2_with fail
      have hE5 := heap_alloc_new w4 (.cells #[.string S, .slice none 0 0] 34)
      have HA5 := hide (World.grownBy_alloc w4 (.cells #[.string S, .slice none 0 0] 34) (some b))
      have hs5 := (unhide HRd4).src.keep ((Below.refl _ _).alloc (Nat.le_refl _) (.cells #[.string S, .slice none 0 0] 34))
      have hb4 : b < w4.heap.size := (unhide HRd4).src.lt
      generalize w4.alloc (.cells #[.string S, .slice none 0 0] 34) = W4 at *
      refine (range_any B b 1 3 _ hs5 (by omega) (by omega) (by omega)).mono ?_
      rintro e w5 ⟨y, rfl, hy1, hy2, hs6, hg6⟩
      obtain ⟨M, rfl⟩ := Int.eq_ofNat_of_zero_le (show 0 ≤ y by omega)
      have hE6 := (hg6.block w4.heap.size (Array.getElem?_eq_some_iff.1 hE5).1 (by simp; omega)).trans hE5
      have HE6 := hide hE6
      have HG6 := hide (Lib.grownBy_trans (unhide HA5) hg6)
      have HS6 := hide hs6
      have hM : 1 ≤ M ∧ M ≤ 3 := by omega
      clear hE5 hE6 hs5 hs6 hg6 hy1 hy2
      go_wp2_with fail
      go_loopw [6] (fun v wr => ∃ (q : Nat) (ps : List ByteArray) (A' : Option Addr) (c' : Nat), q + ps.length = M ∧ v = .int .i64 q ∧ ps.all okPart = true ∧ wr.ownsRow (w4.heap.size + 1) 9 1 (.slice A' ps.length c') ps.length (ps.map Value.string) ∧ wr.heap[w4.heap.size]? = some (.cells #[.string S, .slice A' ps.length c'] 34 (0, 0)) ∧ Src B b wr ∧ w4.grownBy wr (some b)) (fun v _ => (intOf v).toNat)
      case atStart => exact ⟨M, [], none, 0, rfl, rfl, rfl, World.ownsRow_nil _ _ _ _, unhide HE6, unhide HS6, unhide HG6⟩
      case round =>
        obtain ⟨q, ps, A', c', hq, rfl, hpall, hpown, hpe, hps, hpg⟩ := hrel
        obtain ⟨wi, rfl⟩ : ∃ wi : World, wi = wr := ⟨_, rfl⟩
        have HPAll := hide hpall
        have HPOwn := hide hpown
        have HPE := hide hpe
        have HPS := hide hps
        have HPG := hide hpg
        clear hpall hpown hpe hps hpg
        have hpl : ps.length ≤ 3 := by omega
        by_cases hqp : 0 < q
        · have qp : (0 : Int) < (q : Int) := by omega
          have e1 : wi.cell? ⟨w4.heap.size, 1, none⟩ = some (.slice A' ps.length c') := by rw [Lib.cell_of_heap (unhide HPE)]; rfl
          have hbi : b < wi.heap.size := (unhide HPS).lt
          have hei : w4.heap.size < wi.heap.size := (Array.getElem?_eq_some_iff.1 (unhide HPE)).1
          have hq5 := five_strs (w := wi) (f := partS) (t := 9) (x := ⟨#[]⟩) (y := ⟨#[65, 49]⟩) (z := ⟨#[83, 75, 48, 49, 50, 51]⟩) (u := ⟨#[74, 45, 32, 43]⟩) (v := ⟨#[48, 49, 50, 51, 52, 53, 54, 55, 56, 57, 65, 66, 67, 68, 69, 70, 71, 72, 73, 74]⟩) rfl rfl rfl rfl rfl
          have b5 := ((Below.refl wi.heap.size wi).alloc (Nat.le_refl _) (.cells #[.string ⟨#[]⟩, .string ⟨#[65, 49]⟩, .string ⟨#[83, 75, 48, 49, 50, 51]⟩, .string ⟨#[74, 45, 32, 43]⟩, .string ⟨#[48, 49, 50, 51, 52, 53, 54, 55, 56, 57, 65, 66, 67, 68, 69, 70, 71, 72, 73, 74]⟩] 9)).drew
          have hq5' : ∀ i, i < 5 → (wi.alloc (.cells #[.string ⟨#[]⟩, .string ⟨#[65, 49]⟩, .string ⟨#[83, 75, 48, 49, 50, 51]⟩, .string ⟨#[74, 45, 32, 43]⟩, .string ⟨#[48, 49, 50, 51, 52, 53, 54, 55, 56, 57, 65, 66, 67, 68, 69, 70, 71, 72, 73, 74]⟩] 9)).drew.cell? ⟨wi.heap.size, i, none⟩ = some (.string (partS i)) := hq5
          have HQ5 := hide hq5'
          have HS5 := hide ((unhide HPS).keep b5)
          have hE5 : (wi.alloc (.cells #[.string ⟨#[]⟩, .string ⟨#[65, 49]⟩, .string ⟨#[83, 75, 48, 49, 50, 51]⟩, .string ⟨#[74, 45, 32, 43]⟩, .string ⟨#[48, 49, 50, 51, 52, 53, 54, 55, 56, 57, 65, 66, 67, 68, 69, 70, 71, 72, 73, 74]⟩] 9)).drew.heap[w4.heap.size]? = some (.cells #[.string S, .slice A' ps.length c'] 34 (0, 0)) := (b5.block w4.heap.size hei).trans (unhide HPE)
          have e1a := (Lib.cell_of_heap hE5 1)
          have HE5 := hide hE5
          have HO5 := hide (show (wi.alloc (.cells #[.string ⟨#[]⟩, .string ⟨#[65, 49]⟩, .string ⟨#[83, 75, 48, 49, 50, 51]⟩, .string ⟨#[74, 45, 32, 43]⟩, .string ⟨#[48, 49, 50, 51, 52, 53, 54, 55, 56, 57, 65, 66, 67, 68, 69, 70, 71, 72, 73, 74]⟩] 9)).drew.ownsRow (w4.heap.size + 1) 9 1 (.slice A' ps.length c') ps.length (ps.map Value.string) from (unhide HPOwn).alloc _)
          have HG5 := hide (show w4.grownBy (wi.alloc (.cells #[.string ⟨#[]⟩, .string ⟨#[65, 49]⟩, .string ⟨#[83, 75, 48, 49, 50, 51]⟩, .string ⟨#[74, 45, 32, 43]⟩, .string ⟨#[48, 49, 50, 51, 52, 53, 54, 55, 56, 57, 65, 66, 67, 68, 69, 70, 71, 72, 73, 74]⟩] 9)).drew (some b) from grown_draws (Lib.grownBy_allocR (unhide HPG) _) 1)
          have hne5 : some wi.heap.size ≠ some b := by simp; omega
          clear hq5 hq5' b5 hE5
          go_wp2_with fail
          go_region_law
            (first
              | (refine step_append_lies _ rfl _ _ 32 rfl (w4.heap.size + 1) 9 i0 (.string ByteArray.empty) 1 16 Tryd.underlying32 (unhide HI0) (unhide HZ0) (unhide HZ1) (unhide HZ2) rfl (by decide) _ _ _ rfl (unhide HO6) ⟨wp.heap.size, 0, none⟩ 1 1 [.string (partS l)] rfl rfl (World.news_of_block (heap_alloc_new wp _)) (by intro u hu; rw [List.mem_singleton.1 hu]; rfl) (by omega) (by unfold maxLen; omega) (by omega) hbase6 _ rfl ?_
                 intro g cap w7 hown7 hgrow hat hlt7
                 have hE7 := (hgrow.block w4.heap.size hei6 (fun e => by have := ((unhide HO6).lt _ e.symm).1; omega)).trans (unhide HE6')
                 have e1d := Lib.cell_of_heap hE7 1
                 have f1d := Lib.frozen_of_heap hE7 1
                 have HE7 := hide hE7
                 have HOwn7 := hide hown7
                 have HS7 := hide ((unhide HS6').grown hgrow (fun k hk => by have := ((unhide HO6).lt _ hk).1; omega))
                 have HG7 := hide (grown_new (unhide HG6') hgrow (fun k hk => by have := ((unhide HO6).lt _ hk).1; omega))
                 clear hE7 hown7 hgrow hat hlt7)
              | (go_simp; go_at_call 22
                 refine (text_any B b _ 5 partS _ (unhide HS5) (by omega) (by omega) hne5 (unhide HQ5)).mono ?_
                 rintro e wp ⟨l, _, rfl, hs, hg⟩
                 have hEp := (hg.block w4.heap.size (Array.getElem?_eq_some_iff.1 (unhide HE5)).1 (by simp; omega)).trans (unhide HE5)
                 have e1b := Lib.cell_of_heap hEp 1
                 have hep := (Array.getElem?_eq_some_iff.1 hEp).1
                 have bp := (Below.refl wp.heap.size wp).alloc (Nat.le_refl _) (.cells #[.string (partS l)] 9)
                 have hE6 := (bp.block w4.heap.size hep).trans hEp
                 have e1c := Lib.cell_of_heap hE6 1
                 have HE6' := hide hE6
                 have hei6 := (Array.getElem?_eq_some_iff.1 hE6).1
                 have HO6 := hide ((owns_reads (unhide HO5) hg (by omega)).alloc (.cells #[.string (partS l)] 9))
                 have HS6' := hide (hs.keep bp)
                 have HG6' := hide (Lib.grownBy_allocR (Lib.grownBy_trans (unhide HG5) hg) (.cells #[.string (partS l)] 9))
                 have hbase6 : w4.heap.size + 1 ≤ (wp.alloc (.cells #[.string (partS l)] 9)).heap.size := by omega
                 clear hs hg hEp hep bp hE6))
          all_goals
            have HEf := hide (heap_set1 (y := .slice (some ⟨g, 0, none⟩) (ps.length + 1) cap) (unhide HE7))
            have hg8 := Lib.grownBy_setB (World.grownBy.refl w7 (some w4.heap.size)) 1 (.slice (some ⟨g, 0, none⟩) (ps.length + 1) cap)
            have HS8 := hide ((unhide HS7).grown hg8 (fun k hk => by cases hk; omega))
            have HOwn8 := hide ((unhide HOwn7).kept hg8 (Or.inr fun e => by have := ((unhide HOwn7).lt _ e).1; omega))
            have HG8 := hide ((unhide HG7).setNew (Nat.le_refl _) 1 (.slice (some ⟨g, 0, none⟩) (ps.length + 1) cap))
            clear hg8
            go_wp2
            go_roundw
            case rel =>
              refine ⟨q - 1, ps ++ [partS l], some ⟨g, 0, none⟩, cap, by rw [List.length_append, List.length_singleton]; omega, by go_num, ?_, ?_, ?_, unhide HS8, unhide HG8⟩
              · rw [List.all_append, unhide HPAll]; simp [partS_ok]
              · rw [List.length_append, List.length_singleton, List.map_append]; exact unhide HOwn8
              · rw [List.length_append, List.length_singleton]; exact unhide HEf
            case measure => simp [intOf]; omega
        · obtain rfl : q = 0 := by omega
          have qp : ¬ (0 : Int) < ((0 : Nat) : Int) := by omega
          have htb := (((unhide HPG)).block rt (Array.getElem?_eq_some_iff.1 (unhide HTB4)).1 (by simp; omega)).trans (unhide HTB4)
          have t2 : wi.cell? ⟨rt, 2, none⟩ = some (.slice A xs.length c) := by rw [Lib.cell_of_heap htb]; rfl
          have tf : wi.frozen? ⟨rt, 2, none⟩ = false := Lib.frozen_of_heap htb 2
          have e0 : wi.cell? ⟨w4.heap.size, 0, none⟩ = some (.string S) := by rw [Lib.cell_of_heap (unhide HPE)]; rfl
          have e1 : wi.cell? ⟨w4.heap.size, 1, none⟩ = some (.slice A' ps.length c') := by rw [Lib.cell_of_heap (unhide HPE)]; rfl
          have bq := (Below.refl wi.heap.size wi).alloc (Nat.le_refl _) (.cells #[.string S, .slice A' ps.length c'] 34)
          have htb1 := (bq.block rt (Array.getElem?_eq_some_iff.1 htb).1).trans htb
          have HO1 := hide ((owns_reads (unhide HOwn4) (unhide HPG) (by omega)).alloc (.cells #[.string S, .slice A' ps.length c'] 34))
          have HF1 := hide (((unhide HFin4).step (KeepS.reads (unhide HPG))).step (KeepS.below bq))
          have HP1 := hide ((StrRow.own (unhide HPOwn) (by omega)).step (KeepS.below (b := b) bq))
          have HR1 := hide (((unhide HRd4).step (unhide HPS) (unhide HPG)).alloc (.cells #[.string S, .slice A' ps.length c'] 34))
          have hsz1 : w.heap.size + 1 ≤ (wi.alloc (.cells #[.string S, .slice A' ps.length c'] 34)).heap.size := by
            have := (unhide HR1).gr.size
            rwa [World.size_alloc] at this
          have HTB1 := hide htb1
          clear bq htb1 htb
          go_wp2_with (at_builtin; refine wpList_append_lies _ rfl _ _ 22 rfl (w.heap.size + 1) 34 i2 (.agg #[.string ByteArray.empty, .slice none 0 0]) 2 40 Tryd.underlying22 (unhide KI0) (unhide KZ0) (unhide KZ1) (unhide KZ2) rfl (by decide) _ _ _ rfl (unhide HO1) ⟨wi.heap.size, 0, none⟩ 1 1 [.string S, .slice A' ps.length c'] rfl rfl (World.news_of_block (heap_alloc_new wi _)) (by
              intro u hu
              simp at hu
              rcases hu with rfl | rfl <;> rfl) (by omega) (by unfold maxLen; omega) (by omega) hsz1 _ rfl ?_)
          intro g cap w7 hown7 hgrow hat hlt7
          have hT7 := (hgrow.block rt (Array.getElem?_eq_some_iff.1 (unhide HTB1)).1 (own_ne (unhide HO1) (unhide HTB1) (by decide))).trans (unhide HTB1)
          have t27 := Lib.cell_of_heap hT7 2
          have tf7 := Lib.frozen_of_heap hT7 2
          have HT8 := hide (heap_set2 (y := .slice (some ⟨g, 0, none⟩) (xs.length + 1) cap) hT7)
          have hg8 := Lib.grownBy_setB (World.grownBy.refl w7 (some rt)) 2 (.slice (some ⟨g, 0, none⟩) (xs.length + 1) cap)
          have hrow := fun k hk => ((unhide HO1).lt k hk).1
          have hK7 := (KeepS.grow (b := b) (unhide HO1) (by decide) hgrow).trans (KeepS.other hg8 hT7 (by decide))
          have HF8 := hide (((unhide HF1).step hK7).snoc (x := ((S, ps), A', c')) ((unhide HP1).step hK7))
          have HO8 := hide (hown7.kept hg8 (Or.inr fun e => own_ne hown7 hT7 (by decide) e.symm))
          have HS8 := hide (((unhide HR1).src.grown hgrow (fun k hk => by have := hrow k hk; omega)).grown hg8 (fun k hk => by cases hk; have := HRT.out; omega))
          have HG8 := hide ((grown_new (unhide HR1).gr hgrow (fun k hk => by have := hrow k hk; rw [World.size_alloc]; omega)).setNew (g := rt) (by have := HRT.out; rw [World.size_alloc]; omega) 2 (.slice (some ⟨g, 0, none⟩) (xs.length + 1) cap))
          clear hown7 hgrow hat hlt7 hT7 hg8 hrow hK7
          go_wp2
          go_roundw
          case rel =>
            refine ⟨k - 1, xs ++ [((S, ps), A', c')], some ⟨g, 0, none⟩, cap, by rw [List.length_append, List.length_singleton]; omega, by go_num, ?_, unhide HF8, ?_, ?_, ⟨unhide HS8, unhide HG8⟩⟩
            · rw [List.map_append, List.all_append, unhide HAll]
              have h1 := unhide HPAll
              have h2 := unhide HSl
              simp [okEl, h1, h2]
              omega
            · rw [List.length_append, List.length_singleton, List.flatMap_append]
              have := unhide HO8
              simpa [elCells] using this
            · rw [List.length_append, List.length_singleton]; exact unhide HT8
          case measure => simp [intOf]; omega
    · obtain rfl : k = 0 := by omega
      have kp : ¬ (0 : Int) < ((0 : Nat) : Int) := by omega
      have t0 : wo.cell? ⟨rt, 0, none⟩ = some (.string (kindS i)) := by rw [Lib.cell_of_heap (unhide HTB)]; rfl
      have t1 : wo.cell? ⟨rt, 1, none⟩ = some (.string (chngS j)) := by rw [Lib.cell_of_heap (unhide HTB)]; rfl
      have t2 : wo.cell? ⟨rt, 2, none⟩ = some (.slice A xs.length c) := by rw [Lib.cell_of_heap (unhide HTB)]; rfl
      have hr0 := ((unhide HRd).gr.block w.heap.size (by rw [World.size_alloc]; omega) (by simp; omega)).trans (heap_alloc_new w _)
      have c0 := Lib.cell_of_heap hr0 0
      have c1 := Lib.cell_of_heap hr0 1
      have c2 := Lib.cell_of_heap hr0 2
      have f0 := Lib.frozen_of_heap hr0 0
      have f1 := Lib.frozen_of_heap hr0 1
      have f2 := Lib.frozen_of_heap hr0 2
      have HR0 := hide hr0
      clear hr0
      go_wp2
      refine bodyPost_ret (v := .agg #[.string (kindS i), .string (chngS j), .slice A xs.length c]) (by simp [results, go_sem, c0, c1, c2]) rfl ?_
      have hg8 := Lib.grownBy_setB (Lib.grownBy_setB (Lib.grownBy_setB (World.grownBy.refl wo (some w.heap.size)) 0 (.string (kindS i))) 1 (.string (chngS j))) 2 (.slice A xs.length c)
      refine ⟨⟨kindS i, chngS j, xs.map (·.1)⟩, A, ⟨c, by simp only [List.length_map]⟩, ⟨⟨i, rfl⟩, ⟨j, rfl⟩, by simp only [List.length_map]; omega, unhide HAll⟩, ?_, (unhide HRd).src.grown hg8 (fun k hk => by cases hk; omega), ?_⟩
      · exact ((unhide HFin).step (KeepS.other hg8 (unhide HR0) (by decide))).els ((unhide HOwn).kept hg8 (Or.inr fun e => by have := ((unhide HOwn).lt _ e).1; omega)) (by omega)
      · have hgw := Lib.grownBy_trans (World.grownBy_alloc w (.cells #[.string ⟨#[]⟩, .string ⟨#[]⟩, .slice none 0 0] 24) (some b)) (unhide HRd).gr
        exact ((hgw.setNew (Nat.le_refl _) 0 _).setNew (Nat.le_refl _) 1 _).setNew (Nat.le_refl _) 2 _
end Go.Proofs.YtmdjdhfchigekaaDoor
