/-
  Contract of readElement: an element line is added to what the reader knows.
-/
import Derived.Test.YtglgobmmmghdoaaGreatDoorParA
import Derived.Deep.RegionLaw
namespace Go.Proofs.YtglgobmmmghdoaaGreatDoor
open Go.RowKit

/-- The reader in block rb, which knows q; its elements lie in blocks from rb on, and not in b. -/
def Rdr (b rb : Nat) (w : World) (q : St) : Prop := b < rb ∧ ∃ (xs : List ElS) (A : Option Addr) (c : Nat),
  w.heap[rb]? = some (.cells #[.string q.kind, .string q.change, .slice A xs.length c, .int .i64 q.lines, .bool q.ended] 75 (0, 0)) ∧
  w.ownsRow rb 55 2 (.slice A xs.length c) xs.length (xs.flatMap elCells) ∧ Fin b w xs ∧ xs.map (·.1) = q.els ∧ xs.length ≤ 24

theorem Rdr.below {b rb : Nat} {w w' : World} {q : St} (h : Rdr b rb w q) (hb : Below w.heap.size w w') : Rdr b rb w' q := by
  obtain ⟨h0, xs, A, c, h1, h2, h3, h4, h5⟩ := h
  refine ⟨h0, xs, A, c, ?_, ?_, h3.step (KeepS.below hb), h4, h5⟩
  · rw [hb.block rb (Array.getElem?_eq_some_iff.1 h1).1]; exact h1
  · refine ⟨h2.1, ?_⟩
    rcases h2.2 with hn | ⟨g, cap, cur, e, hbg, hgg, rest⟩
    · exact .inl hn
    · exact .inr ⟨g, cap, cur, e, hbg, by rw [hb.block g (Array.getElem?_eq_some_iff.1 hgg).1]; exact hgg, rest⟩
theorem Rdr.lt {b rb : Nat} {w : World} {q : St} (h : Rdr b rb w q) : rb < w.heap.size := by
  obtain ⟨h0, xs, A, c, h1, _⟩ := h
  exact (Array.getElem?_eq_some_iff.1 h1).1
theorem estep_1 {q : St} {l : ByteArray} (h : peOk l = false) : estep q l = (3, q) := by unfold estep; rw [h]; rfl
theorem estep_2 {q : St} {l : ByteArray} (h : peOk l = true) (h2 : belB (peEl l) = false) : estep q l = (2, q) := by unfold estep; rw [h, h2]; rfl
theorem estep_3 {q : St} {l : ByteArray} (h : peOk l = true) (h3 : q.els.length = 24) : estep q l = (2, q) := by unfold estep; rw [h, if_pos rfl, if_neg (by simp [h3])]
theorem estep_4 {q : St} {l : ByteArray} (h : peOk l = true) (h2 : belB (peEl l) = true) (h3 : q.els.length ≠ 24) : estep q l = (0, { q with els := q.els ++ [peEl l] }) := by unfold estep; rw [h, if_pos rfl, if_pos ⟨h2, h3⟩]

theorem bel_ok {b : Nat} {e : El} {g : Nat} {w : World} (hz : e.2.length ≤ 3000) (h : StrRow b w (some ⟨g, 0, none⟩) e.2) :
    Calls Tryz.prog 59 #[.agg #[.string e.1, .slice (some ⟨g, 0, none⟩) e.2.length e.2.length]] w fun y w' => y = .returned (.bool (belB e)) ∧ Below w.heap.size w w' :=
  bel_any b e.1 e.2 (some ⟨g, 0, none⟩) e.2.length w hz h.strs

theorem heap_set5 {w : World} {x : Nat} {u v q r s y : Value} {t : TypeId} (h : w.heap[x]? = some (.cells #[u, v, q, r, s] t (0, 0))) : (w.setCell ⟨x, 2, none⟩ y).heap[x]? = some (.cells #[u, v, y, r, s] t (0, 0)) := by
  simp [World.setCell, Array.getElem?_modify, h]

set_option maxHeartbeats 4000000 in
theorem read_el (b rb : Nat) (q : St) (l : ByteArray) (w : World) (hR : Rdr b rb w q) (hl : l.size ≤ 2048) (hsm : SmallE (peEl l)) :
    Calls Tryz.prog 63 #[.pointer (some ⟨rb, 0, none⟩), .string l] w fun e w' => e = .returned (.int .i64 (estep q l).1) ∧ Rdr b rb w' (estep q l).2 ∧ Below rb w w' := by
  have HR := hide hR
  have hlt := hR.lt
  have hb0 : b < rb := hR.1
  have hz : (peEl l).2.length ≤ 3000 := hsm.1
  have HSM := hide hsm
  clear hsm hR
  have HP := hide (parse_el b l w (by omega) hl (unhide HSM))
  obtain ⟨i2, ki, kz0, kz1, kz2⟩ := info_parts info_el
  have KI0 := hide ki
  have KZ0 := hide kz0
  have KZ1 := hide kz1
  have KZ2 := hide kz2
  clear ki kz0 kz1 kz2
  cases hok : peOk l with
  | false =>
    have HE := hide (estep_1 (q := q) hok)
    have HOK := hide hok
    clear hok
    go_enter Tryz.func63, Tryz.ntmps63
    go_wp2_with fail
    refine (unhide HP).mono ?_
    rw [unhide HOK]
    rintro e w1 ⟨g, rfl, hrow, hb1⟩
    have HR1 := hide (((unhide HR).below hb1).below ((Below.refl _ _).alloc (Nat.le_refl _) (.cells #[.string (peEl l).1, .slice (some ⟨g, 0, none⟩) (peEl l).2.length (peEl l).2.length] 55)))
    have HB1 := Lib.hid ((hb1.alloc hb1.size (.cells #[.string (peEl l).1, .slice (some ⟨g, 0, none⟩) (peEl l).2.length (peEl l).2.length] 55)).mono (Nat.le_of_lt hlt))
    clear hrow hb1
    go_wp2
    go_ret
    rw [unhide HE]
    exact ⟨rfl, unhide HR1, HB1.out⟩
  | true =>
    have HOK := hide hok
    cases hbe : belB (peEl l) with
    | false =>
      have HE := hide (estep_2 (q := q) hok hbe)
      have HBE := hide hbe
      clear hok hbe
      go_enter Tryz.func63, Tryz.ntmps63
      go_wp2_with fail
      refine (unhide HP).mono ?_
      rw [unhide HOK]
      rintro e w1 ⟨g, rfl, hrow, hb1⟩
      have bx := (Below.refl w1.heap.size w1).alloc (Nat.le_refl _) (.cells #[.string (peEl l).1, .slice (some ⟨g, 0, none⟩) (peEl l).2.length (peEl l).2.length] 55)
      have HR1 := hide (((unhide HR).below hb1).below bx)
      have HB1 := Lib.hid ((hb1.alloc hb1.size (.cells #[.string (peEl l).1, .slice (some ⟨g, 0, none⟩) (peEl l).2.length (peEl l).2.length] 55)).mono (Nat.le_of_lt hlt))
      have HROW := hide (hrow.step (KeepS.below (b := b) bx))
      clear hrow hb1 bx
      go_wp2_with fail
      refine (bel_ok hz (unhide HROW)).mono ?_
      rw [unhide HBE]
      rintro e w2 ⟨rfl, hb2⟩
      have HR2 := hide ((unhide HR1).below hb2)
      have HB2 := Lib.hid (HB1.out.trans (hb2.mono (Nat.le_trans (Nat.le_of_lt hlt) HB1.out.size)))
      clear hb2
      go_wp2
      go_ret
      rw [unhide HE]
      exact ⟨rfl, unhide HR2, HB2.out⟩
    | true =>
      have HBE := hide hbe
      go_enter Tryz.func63, Tryz.ntmps63
      go_wp2_with fail
      refine (unhide HP).mono ?_
      rw [unhide HOK]
      rintro e w1 ⟨g, rfl, hrow, hb1⟩
      have bx := (Below.refl w1.heap.size w1).alloc (Nat.le_refl _) (.cells #[.string (peEl l).1, .slice (some ⟨g, 0, none⟩) (peEl l).2.length (peEl l).2.length] 55)
      have hx := heap_alloc_new w1 (.cells #[.string (peEl l).1, .slice (some ⟨g, 0, none⟩) (peEl l).2.length (peEl l).2.length] 55)
      have HR1 := hide (((unhide HR).below hb1).below bx)
      have HB1 := Lib.hid ((hb1.alloc hb1.size (.cells #[.string (peEl l).1, .slice (some ⟨g, 0, none⟩) (peEl l).2.length (peEl l).2.length] 55)).mono (Nat.le_of_lt hlt))
      have HROW := hide (hrow.step (KeepS.below (b := b) bx))
      have HX := hide hx
      clear hrow hb1 bx hx
      go_wp2_with fail
      refine (bel_ok hz (unhide HROW)).mono ?_
      rw [unhide HBE]
      rintro e w2 ⟨rfl, hb2⟩
      have HR2 := hide ((unhide HR1).below hb2)
      have HB2 := Lib.hid (HB1.out.trans (hb2.mono (Nat.le_trans (Nat.le_of_lt hlt) HB1.out.size)))
      have HROW2 := hide ((unhide HROW).step (KeepS.below (b := b) hb2))
      have hx2 := (hb2.block w1.heap.size (Array.getElem?_eq_some_iff.1 (unhide HX)).1).trans (unhide HX)
      have x0 := Lib.cell_of_heap hx2 0
      have x1 := Lib.cell_of_heap hx2 1
      have HX2 := hide hx2
      obtain ⟨_, xs, A, c, h1, h2, h3, h4, h5⟩ := unhide HR2
      have r2 := Lib.cell_of_heap h1 2
      have f2 := Lib.frozen_of_heap h1 2
      have H1 := hide h1
      have H2 := hide h2
      have H3 := hide h3
      have H4 := hide h4
      have hlen : q.els.length = xs.length := by rw [← h4, List.length_map]
      clear hb2 hx2 h1 h2 h3 h4
      generalize w1.heap.size = x at *
      by_cases h24 : xs.length = 24
      · have HE := hide (estep_3 (q := q) hok (by omega))
        have i0 : ((xs.length : Int) == 24) = true := by rw [beq_iff_eq]; omega
        clear hok hbe h24
        go_wp2
        go_ret
        rw [unhide HE]
        exact ⟨rfl, unhide HR2, HB2.out⟩
      · have HE := hide (estep_4 (q := q) hok hbe (by omega))
        have i0 : ((xs.length : Int) == 24) = false := by rw [beq_eq_false_iff_ne]; omega
        clear hok hbe
        have bo := ((Below.refl w2.heap.size w2).alloc (Nat.le_refl _) (.cells #[.string (peEl l).1, .slice (some ⟨g, 0, none⟩) (peEl l).2.length (peEl l).2.length] 55)).drew
        have HO6 := hide (show ((w2.alloc (.cells #[.string (peEl l).1, .slice (some ⟨g, 0, none⟩) (peEl l).2.length (peEl l).2.length] 55)).drew).ownsRow rb 55 2 (.slice A xs.length c) xs.length (xs.flatMap elCells) from (unhide H2).alloc _)
        have HH6 := hide ((bo.block rb (Array.getElem?_eq_some_iff.1 (unhide H1)).1).trans (unhide H1))
        have HK6 := hide (KeepS.below (b := b) bo)
        have HB6 := hide (HB2.out.trans (bo.mono (Nat.le_trans (Nat.le_of_lt hlt) HB2.out.size)))
        have hbase6 : rb ≤ ((w2.alloc (.cells #[.string (peEl l).1, .slice (some ⟨g, 0, none⟩) (peEl l).2.length (peEl l).2.length] 55)).drew).heap.size := Nat.le_trans (Nat.le_of_lt hlt) (unhide HB6).size
        have hnews6 : ∀ j u, [Value.string (peEl l).1, .slice (some ⟨g, 0, none⟩) (peEl l).2.length (peEl l).2.length][j]? = some u → ((w2.alloc (.cells #[.string (peEl l).1, .slice (some ⟨g, 0, none⟩) (peEl l).2.length (peEl l).2.length] 55)).drew).cell? ((⟨w2.heap.size, 0, none⟩ : Addr).add j) = some u := World.news_of_block (heap_alloc_new w2 _)
        have HN6 := hide hnews6
        have r26 : (w2.alloc (.cells #[.string (peEl l).1, .slice (some ⟨g, 0, none⟩) (peEl l).2.length (peEl l).2.length] 55)).cell? ⟨rb, 2, none⟩ = some (.slice A xs.length c) := Lib.cell_of_heap (unhide HH6) 2
        clear bo hnews6
        go_wp2_with fail
        go_region_law (first
              | (refine step_append_lies _ rfl _ _ 23 rfl rb 55 i2 (.agg #[.string ByteArray.empty, .slice none 0 0]) 2 40 Tryz.underlying23 (unhide KI0) (unhide KZ0) (unhide KZ1) (unhide KZ2) rfl (by decide) _ _ _ rfl (unhide HO6) ⟨w2.heap.size, 0, none⟩ 1 1 [.string (peEl l).1, .slice (some ⟨g, 0, none⟩) (peEl l).2.length (peEl l).2.length] rfl rfl (unhide HN6) (by
                  intro u hu
                  simp at hu
                  rcases hu with rfl | rfl <;> rfl) (by omega) (by unfold maxLen; omega) (by omega) hbase6 _ rfl ?_
                 intro g2 cap w7 hown7 hgrow hat hlt7
                 have hH7 := (hgrow.block rb (Array.getElem?_eq_some_iff.1 (unhide HH6)).1 (own_ne (unhide HO6) (unhide HH6) (by decide))).trans (unhide HH6)
                 have r7 := Lib.cell_of_heap hH7 2
                 have f7 := Lib.frozen_of_heap hH7 2
                 have HH7 := hide hH7
                 have HOwn7 := hide hown7
                 have HK7 := hide ((unhide HK6).trans (KeepS.grow (b := b) (unhide HO6) (by decide) hgrow))
                 have HB7 := hide ((unhide HB6).grown hgrow hbase6 (fun k hk => ((unhide HO6).lt k hk).1))
                 clear hH7 hown7 hgrow hat hlt7))
        all_goals
          have hg8 := Lib.grownBy_setB (World.grownBy.refl w7 (some rb)) 2 (.slice (some ⟨g2, 0, none⟩) (xs.length + 1) cap)
          have HK8 := hide ((unhide HK7).trans (KeepS.other hg8 (unhide HH7) (by decide)))
          have HH8 := hide (heap_set5 (y := .slice (some ⟨g2, 0, none⟩) (xs.length + 1) cap) (unhide HH7))
          have HOwn8 := hide ((unhide HOwn7).kept hg8 (Or.inr fun e => own_ne (unhide HOwn7) (unhide HH7) (by decide) e.symm))
          have HB8 := hide ((unhide HB7).setCell (p := ⟨rb, 2, none⟩) (Nat.le_refl _) (.slice (some ⟨g2, 0, none⟩) (xs.length + 1) cap))
          clear hg8 HH7 HOwn7 HB7 HK7
          go_wp2
          go_ret
          rw [unhide HE]
          refine ⟨rfl, ⟨hb0, xs ++ [(peEl l, some ⟨g, 0, none⟩, (peEl l).2.length)], some ⟨g2, 0, none⟩, cap, ?_, ?_, ?_, ?_, ?_⟩, unhide HB8⟩
          · rw [List.length_append, List.length_singleton]; exact unhide HH8
          · rw [List.length_append, List.length_singleton, List.flatMap_append]
            have := unhide HOwn8
            simpa [elCells] using this
          · exact ((unhide H3).step (unhide HK8)).snoc (x := (peEl l, some ⟨g, 0, none⟩, (peEl l).2.length)) ((unhide HROW2).step (unhide HK8))
          · rw [List.map_append, unhide H4]; rfl
          · rw [List.length_append, List.length_singleton]; omega
end Go.Proofs.YtglgobmmmghdoaaGreatDoor
