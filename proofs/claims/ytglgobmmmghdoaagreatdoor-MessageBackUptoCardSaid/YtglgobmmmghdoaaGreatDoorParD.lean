/-
  Contract of Parse of telegrams.
-/
import Derived.Test.YtglgobmmmghdoaaGreatDoorParC
import Derived.Test.YtglgobmmmghdoaaGreatDoorParS
import Derived.Deep.RegionLaw
namespace Go.Proofs.YtglgobmmmghdoaaGreatDoor
open Go.RowKit

def szOf : Value → Nat
  | .string s => s.size
  | _ => 0

/-- What Parse returns: a telegram in memory, a line, an error. -/
def TParsed (b : Nat) (R : Res) (w : World) (e : Ending) (w' : World) : Prop :=
  ∃ A c, e = .returned (.tuple #[.agg #[.string R.tel.kind, .string R.tel.change, .slice A R.tel.els.length c], .int .i64 R.line, .int .i64 R.err]) ∧ ElsIn b w' A R.tel.els ∧ Below w.heap.size w w'
theorem rstep_kind {q : St} {l : ByteArray} (hk : q.kind.size ≤ 2048) (hl : l.size ≤ 2048) : (rstep q l).2.next.kind.size ≤ 2048 := by
  unfold rstep St.next
  repeat' split
  all_goals first | exact hk | exact hl

theorem Rdr.out {b rb : Nat} {w : World} {q : St} (h : Rdr b rb w q) : ∃ A c, w.cell? ⟨rb, 2, none⟩ = some (.slice A q.els.length c) ∧
    ∀ (w' : World) (x : Nat) (cs : Array Value) (fz : Nat × Nat), w.grownBy w' (some x) → w.heap[x]? = some (.cells cs 25 fz) → ElsIn b w' A q.els := by
  obtain ⟨h0, xs, A, c, h1, h2, h3, h4, h5⟩ := h
  have hl : q.els.length = xs.length := by rw [← h4, List.length_map]
  refine ⟨A, c, by rw [hl]; exact Lib.cell_of_heap h1 2, fun w' x cs fz hg hx => ?_⟩
  rw [← h4]
  exact (h3.step (KeepS.other hg hx (by decide))).els (h2.kept hg (Or.inr fun e => own_ne h2 hx (by decide) e.symm)) h0

set_option maxHeartbeats 4000000 in
theorem tparse_any (b : Nat) (s : ByteArray) (w : World) (hb : b < w.heap.size) :
    Calls Tryz.prog 10 #[.string s] w (TParsed b (parse s) w) := by
  have b0 := (Below.refl w.heap.size w).alloc (Nat.le_refl _) (.cells #[.string ⟨#[]⟩, .string ⟨#[]⟩, .slice none 0 0] 25)
  have h0 := heap_alloc_new w (.cells #[.string ⟨#[]⟩, .string ⟨#[]⟩, .slice none 0 0] 25)
  have r0 := Lib.cell_of_heap h0 0
  have r1 := Lib.cell_of_heap h0 1
  have r2 := Lib.cell_of_heap h0 2
  have f0 := Lib.frozen_of_heap h0 0
  have f1 := Lib.frozen_of_heap h0 1
  have f2 := Lib.frozen_of_heap h0 2
  by_cases hs : 2048 < s.size
  · have HR := hide (show parse s = ⟨tel0, 0, 2⟩ by unfold parse; rw [if_pos hs])
    have i0 : (2048 : Int) < (s.size : Int) := by omega
    have B0 := hide b0
    clear hs h0 b0
    go_enter Tryz.func10, Tryz.ntmps10
    go_wp2
    refine bodyPost_ret (v := .tuple #[.agg #[.string ⟨#[]⟩, .string ⟨#[]⟩, .slice none 0 0], .int .i64 0, .int .i64 2]) (by simp [results, go_sem]) rfl ?_
    refine ⟨none, 0, ?_, ?_, unhide B0⟩
    · rw [unhide HR]; rfl
    · rw [unhide HR]; exact fun h => absurd h (by decide)
  · have HR := hide (show parse s = prun s.size st0 s by unfold parse; rw [if_neg hs])
    have i0 : ¬ (2048 : Int) < (s.size : Int) := by omega
    have hs2 : s.size ≤ 2048 := by omega
    go_enter Tryz.func10, Tryz.ntmps10
    go_wp2
    have b1 := b0.alloc b0.size (.cells #[.string ⟨#[]⟩, .string ⟨#[]⟩, .slice none 0 0, .int .i64 0, .bool false] 75)
    have hr1 := heap_alloc_new (w.alloc (.cells #[.string ⟨#[]⟩, .string ⟨#[]⟩, .slice none 0 0] 25)) (.cells #[.string ⟨#[]⟩, .string ⟨#[]⟩, .slice none 0 0, .int .i64 0, .bool false] 75)
    have hz := ((Below.refl _ _).alloc (Nat.le_refl _) (.cells #[.string ⟨#[]⟩, .string ⟨#[]⟩, .slice none 0 0, .int .i64 0, .bool false] 75) : Below (w.alloc (.cells #[.string ⟨#[]⟩, .string ⟨#[]⟩, .slice none 0 0] 25)).heap.size _ _).block w.heap.size (by rw [World.size_alloc]; omega)
    have h02 := hz.trans h0
    rw [World.size_alloc] at hr1
    have hsz2 : ((w.alloc (.cells #[.string ⟨#[]⟩, .string ⟨#[]⟩, .slice none 0 0] 25)).alloc (.cells #[.string ⟨#[]⟩, .string ⟨#[]⟩, .slice none 0 0, .int .i64 0, .bool false] 75)).heap.size = w.heap.size + 2 := by rw [World.size_alloc, World.size_alloc]
    have HRd0 := hide (show Rdr b (w.heap.size + 1) ((w.alloc (.cells #[.string ⟨#[]⟩, .string ⟨#[]⟩, .slice none 0 0] 25)).alloc (.cells #[.string ⟨#[]⟩, .string ⟨#[]⟩, .slice none 0 0, .int .i64 0, .bool false] 75)) st0 from
      ⟨by omega, [], none, 0, hr1, World.ownsRow_nil _ _ _ _, (fun _ h => by cases h), rfl, by decide⟩)
    have B1 := hide b1
    have H02 := hide h02
    clear b0 h0 r0 r1 r2 f0 f1 f2 b1 hr1 hz h02
    generalize (w.alloc (.cells #[.string ⟨#[]⟩, .string ⟨#[]⟩, .slice none 0 0] 25)).alloc (.cells #[.string ⟨#[]⟩, .string ⟨#[]⟩, .slice none 0 0, .int .i64 0, .bool false] 75) = W2 at *
    have HSZ := Lib.hid hsz2
    clear hsz2
    go_loopw [0] (fun v wr => ∃ (n : Nat) (q : St) (S : ByteArray), v = .string S ∧ S.size ≤ n ∧ q.lines + S.size ≤ 2048 ∧ q.kind.size ≤ 2048 ∧ Hid (prun n q S = parse s) ∧ Rdr b (w.heap.size + 1) wr q ∧ Below (w.heap.size + 1) W2 wr) (fun v _ => szOf v)
    case atStart => exact ⟨s.size, st0, s, rfl, Nat.le_refl _, by show 0 + s.size ≤ 2048; omega, by decide, Lib.hid (unhide HR).symm, unhide HRd0, Below.refl _ _⟩
    case round =>
      obtain ⟨n, q, S, rfl, hn, hls, hk, hrun, hrd, hbw⟩ := hrel
      obtain ⟨wo, rfl⟩ : ∃ wo : World, wo = wr := ⟨_, rfl⟩
      have HRd := hide hrd
      have HBw := hide hbw
      have hr0 := (hbw.block w.heap.size (by omega)).trans (unhide H02)
      have r0 := Lib.cell_of_heap hr0 0
      have r1 := Lib.cell_of_heap hr0 1
      have r2 := Lib.cell_of_heap hr0 2
      have f0 := Lib.frozen_of_heap hr0 0
      have f1 := Lib.frozen_of_heap hr0 1
      have f2 := Lib.frozen_of_heap hr0 2
      obtain ⟨c0, c1, c3, c4, hf⟩ := hrd.cells
      have g3 := hf 3
      clear hrd hbw hf
      by_cases h0 : S.size = 0
      · have i1 : S.toList.isEmpty = true := by
          rw [ByteArray.toList_eq, List.isEmpty_iff]
          apply List.eq_nil_of_length_eq_zero
          rw [slen]; exact h0
        have hB := Lib.hid ((unhide B1).trans ((unhide HBw).mono (by omega)))
        have hwrap : IntKind.i64.wrap ((q.lines : Int) + 1) = (q.lines : Int) + 1 := by go_arith
        cases hen : q.ended with
        | false =>
          have HF := hide (show parse s = ⟨tel0, q.lines + 1, 3⟩ by rw [← hrun.out, prun_end h0]; unfold pfin; rw [hen]; rfl)
          rw [hen] at c4
          clear hrun hen
          go_wp2_with fail
          first | go_region_law (fail) | fail
          all_goals
            go_wp2
            refine bodyPost_ret (v := .tuple #[.agg #[.string ⟨#[]⟩, .string ⟨#[]⟩, .slice none 0 0], .int .i64 ((q.lines : Int) + 1), .int .i64 3]) (by simp [results, go_sem, r0, r1, r2]) rfl ?_
            refine ⟨none, 0, by rw [unhide HF]; rfl, by rw [unhide HF]; exact fun h => absurd h (Nat.lt_irrefl 0), ?_⟩
            exact (((hB.out.setCell (p := ⟨w.heap.size, 0, none⟩) (Nat.le_refl _) _).setCell (p := ⟨w.heap.size, 1, none⟩) (Nat.le_refl _) _).setCell (p := ⟨w.heap.size, 2, none⟩) (Nat.le_refl _) _).drew
        | true =>
          have HF := hide (show parse s = ⟨q.tel, 0, 0⟩ by rw [← hrun.out, prun_end h0]; unfold pfin; rw [hen]; rfl)
          rw [hen] at c4
          clear hrun hen
          obtain ⟨A, c, c2, hout⟩ := (unhide HRd).out
          have HOut := hide (hout _ w.heap.size _ _ (Lib.grownBy_setB (Lib.grownBy_setB (Lib.grownBy_setB (World.grownBy.refl wo (some w.heap.size)) 0 (.string q.kind)) 1 (.string q.change)) 2 (.slice A q.els.length c)) hr0)
          clear hout
          go_wp2
          refine bodyPost_ret (v := .tuple #[.agg #[.string q.kind, .string q.change, .slice A q.els.length c], .int .i64 0, .int .i64 0]) (by simp [results, go_sem, r0, r1, r2]) rfl ?_
          refine ⟨A, c, by rw [unhide HF]; rfl, by rw [unhide HF]; exact unhide HOut, ?_⟩
          exact ((hB.out.setCell (p := ⟨w.heap.size, 0, none⟩) (Nat.le_refl _) _).setCell (p := ⟨w.heap.size, 1, none⟩) (Nat.le_refl _) _).setCell (p := ⟨w.heap.size, 2, none⟩) (Nat.le_refl _) _
      · have i1 : S.toList.isEmpty = false := not_empty (by omega)
        rcases cutC_cases 10 S with hc | ⟨k, hc, hkk⟩
        · have HF := hide (hrun.out.symm.trans (prun_miss hn h0 hc))
          go_wp2_with fail
          refine (cutc_miss 10 S _ hc).mono ?_
          rintro e w1 ⟨rfl, hb1⟩
          have hr0 := (hb1.block w.heap.size (Array.getElem?_eq_some_iff.1 hr0).1).trans hr0
          have r0 := Lib.cell_of_heap hr0 0
          have r1 := Lib.cell_of_heap hr0 1
          have r2 := Lib.cell_of_heap hr0 2
          have f0 := Lib.frozen_of_heap hr0 0
          have f1 := Lib.frozen_of_heap hr0 1
          have f2 := Lib.frozen_of_heap hr0 2
          have c3 := kept hb1 c3
          have HB1 := hide ((unhide HBw).trans (hb1.mono (by have := (unhide HRd).lt; omega)))
          clear hb1
          have hB := Lib.hid ((unhide B1).trans ((unhide HB1).mono (by omega)))
          have hwrap : IntKind.i64.wrap ((q.lines : Int) + 1) = (q.lines : Int) + 1 := by go_arith
          go_wp2_with fail
          first | go_region_law (fail) | fail
          all_goals
            go_wp2
            refine bodyPost_ret (v := .tuple #[.agg #[.string ⟨#[]⟩, .string ⟨#[]⟩, .slice none 0 0], .int .i64 ((q.lines : Int) + 1), .int .i64 3]) (by simp [results, go_sem, r0, r1, r2]) rfl ?_
            refine ⟨none, 0, by rw [unhide HF]; rfl, by rw [unhide HF]; exact fun h => absurd h (Nat.lt_irrefl 0), ?_⟩
            exact (((hB.out.setCell (p := ⟨w.heap.size, 0, none⟩) (Nat.le_refl _) _).setCell (p := ⟨w.heap.size, 1, none⟩) (Nat.le_refl _) _).setCell (p := ⟨w.heap.size, 2, none⟩) (Nat.le_refl _) _).drew
        · rw [prun_hit hn hkk hc] at hrun
          have hl : (S.extract 0 k).size ≤ 2048 := by simp; omega
          have HC := hide (cutc_hit 10 S k wo (by unfold maxLen; omega) hc hkk)
          have hR2 : (S.extract (k + 1) S.size).size + 1 ≤ S.size := by simp; omega
          generalize hL : S.extract 0 k = L at *
          generalize hT : S.extract (k + 1) S.size = T at *
          clear hL hT
          have HK2 := hide (rstep_kind (q := q) (l := L) hk hl)
          have hlin : (rstep q L).2.lines = q.lines := by
            unfold rstep
            repeat' split
            all_goals rfl
          go_wp2_with fail
          refine (unhide HC).mono ?_
          rintro e w1 ⟨rfl, hb1⟩
          have HRd1 := hide ((unhide HRd).below hb1)
          have HB1 := hide ((unhide HBw).trans (hb1.mono (by have := (unhide HRd).lt; omega)))
          clear hb1 r0 r1 r2 f0 f1 f2 c0 c1 c3 c4 g3 hr0 hc HC
          go_wp2_with fail
          refine (read_any b (w.heap.size + 1) q L _ (unhide HRd1) hl hk (pe_small hl)).mono ?_
          obtain ⟨er, q', hq⟩ : ∃ er q', rstep q L = (er, q') := ⟨_, _, rfl⟩
          rw [hq] at hrun hlin HK2 ⊢
          clear hq
          simp only [] at hrun hlin
          rintro e w2 ⟨rfl, hr2, hb2⟩
          have HB2 := hide ((unhide HB1).trans hb2)
          have hr0 := ((unhide HB2).block w.heap.size (by omega)).trans (unhide H02)
          have r0 := Lib.cell_of_heap hr0 0
          have r1 := Lib.cell_of_heap hr0 1
          have r2 := Lib.cell_of_heap hr0 2
          have f0 := Lib.frozen_of_heap hr0 0
          have f1 := Lib.frozen_of_heap hr0 1
          have f2 := Lib.frozen_of_heap hr0 2
          obtain ⟨c0, c1, c3, c4, hf⟩ := hr2.cells
          have g3 := hf 3
          rw [hlin] at c3
          have HR2 := hide hr2
          clear hr2 hb2 hf
          by_cases he : er = 0
          · have j0 : (er != 0) = false := by rw [he]; rfl
            have hrun2 := Lib.hid (show prun (n - 1) q'.next T = parse s by rw [← hrun.out, if_pos he])
            have HR3 := hide ((unhide HR2).line (q.lines + 1))
            have HB3 := hide ((unhide HB2).setCell (p := ⟨w.heap.size + 1, 3, none⟩) (Nat.le_refl _) (.int .i64 ((q.lines + 1 : Nat) : Int)))
            have hwrap : IntKind.i64.wrap ((q.lines : Int) + 1) = (q.lines : Int) + 1 := by go_arith
            clear hrun he
            go_wp2
            go_roundw
            case rel =>
              refine ⟨n - 1, q'.next, T, rfl, by omega, ?_, unhide HK2, hrun2, ?_, ?_⟩
              · show q'.lines + 1 + T.size ≤ 2048
                omega
              · have h := unhide HR3
                unfold St.next
                rw [hlin]
                exact h
              · exact unhide HB3
            case measure =>
              show T.size < S.size
              omega
          · have j0 : (er != 0) = true := by rw [bne_iff_ne]; exact he
            have HF := hide (show parse s = ⟨tel0, q.lines + 1, er⟩ by rw [← hrun.out, if_neg he])
            have hB := Lib.hid ((unhide B1).trans ((unhide HB2).mono (by omega)))
            have hwrap : IntKind.i64.wrap ((q.lines : Int) + 1) = (q.lines : Int) + 1 := by go_arith
            clear hrun he
            go_wp2_with fail
            first | go_region_law (fail) | fail
            all_goals
              go_wp2
              refine bodyPost_ret (v := .tuple #[.agg #[.string ⟨#[]⟩, .string ⟨#[]⟩, .slice none 0 0], .int .i64 ((q.lines : Int) + 1), .int .i64 er]) (by simp [results, go_sem, r0, r1, r2]) rfl ?_
              refine ⟨none, 0, by rw [unhide HF]; rfl, by rw [unhide HF]; exact fun h => absurd h (Nat.lt_irrefl 0), ?_⟩
              exact (((hB.out.setCell (p := ⟨w.heap.size, 0, none⟩) (Nat.le_refl _) _).setCell (p := ⟨w.heap.size, 1, none⟩) (Nat.le_refl _) _).setCell (p := ⟨w.heap.size, 2, none⟩) (Nat.le_refl _) _).drew
end Go.Proofs.YtglgobmmmghdoaaGreatDoor
