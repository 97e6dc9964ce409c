/-
  Plain mathematics: a valid telegram is read back from its text, no proper beginning is a text, and what is accepted is the text of the result.
-/
import Derived.Test.YtglgobmmmghdoaaGreatDoorParT
import Derived.Test.YtglgobmmmghdoaaGreatDoorParC
namespace Go.Proofs.YtglgobmmmghdoaaGreatDoor

theorem ch_46 (l : List UInt8) : chB (B (46 :: l)) = false := by
  unfold chB
  rw [ByteArray.toList_eq]
  simp
theorem line_ne_end (K : ByteArray) (l : List UInt8) : B (46 :: l) ≠ endS K := fun e => by
  have h := congrArg (fun s : ByteArray => s.data.toList) e
  unfold endS at h
  simp only [ByteArray.data_append, Array.toList_append] at h
  injection h with h _
  exact absurd h (by decide)
/-- The elements, line by line. -/
theorem ends_els {t : Tel} {rest : List UInt8} : ∀ (es : List El) (q : St), es.all felB = true → es.all belB = true → q.ended = false → q.lines ≠ 0 → q.els.length + es.length ≤ 24 →
    Ends { q with els := q.els ++ es, lines := q.lines + es.length } rest t → Ends q (es.flatMap elX ++ rest) t
  | [], q, _, _, _, _, _, h => by
    have e : ({ q with els := q.els ++ [], lines := q.lines + ([] : List El).length } : St) = q := by simp
    rw [e] at h
    exact h
  | e :: es, q, hf, hb, he, hl, hn, h => by
    rw [List.all_cons, Bool.and_eq_true] at hf hb
    rw [List.length_cons] at hn
    obtain ⟨p1, p2⟩ := pe_line hf.1
    have hst : rstep q (B (lineX e)) = (0, { q with els := q.els ++ [e] }) := by
      have hne : B (lineX e) ≠ endS q.kind := line_ne_end _ _
      have hch : chB (B (lineX e)) = false := ch_46 _
      rw [rstep_6 he hl (by
        rintro ⟨_, h2⟩
        rw [hch] at h2; cases h2) hne, estep_4 p2 (by rw [p1]; exact hb.1) (by omega), p1]
    rw [List.flatMap_cons, elX_line, List.append_assoc, List.append_assoc, List.singleton_append]
    refine ends_line (lineX_not hf.1) hst he rfl ?_
    refine ends_els es _ hf.2 hb.2 he (Nat.succ_ne_zero _) (by show (q.els ++ [e]).length + es.length ≤ 24; rw [List.length_append, List.length_singleton]; omega) ?_
    have e2 : ({ ({ q with els := q.els ++ [e] } : St).next with els := ({ q with els := q.els ++ [e] } : St).next.els ++ es, lines := ({ q with els := q.els ++ [e] } : St).next.lines + es.length } : St) = { q with els := q.els ++ e :: es, lines := q.lines + (e :: es).length } := by
      unfold St.next
      simp only [List.append_assoc, List.singleton_append, List.length_cons]
      congr 1
      omega
    rw [e2]
    exact h
theorem endS_list (K : ByteArray) : (endS K).data.toList = [69, 78, 68] ++ K.data.toList := by
  unfold endS; simp only [ByteArray.data_append, Array.toList_append]
theorem empty_of {s : ByteArray} (h : s.toList.isEmpty = true) : s = ByteArray.empty := by
  apply ba_ext
  rw [ByteArray.toList_eq, List.isEmpty_iff] at h
  rw [h]; rfl
theorem chB_list {s : ByteArray} (h : chB s = true) : s.data.toList = [67, 72, 71] ∨ s.data.toList = [68, 69, 76] := by
  unfold chB at h
  rw [Bool.or_eq_true, beq_iff_eq, beq_iff_eq, ByteArray.toList_eq] at h
  exact h
theorem B_toList (s : ByteArray) : B s.data.toList = s := ba_ext rfl
theorem text_ends {t : Tel} (h : telF t = true) (h2 : telB t = true) : Ends st0 (telX t) t := by
  obtain ⟨K, C, es⟩ := t
  unfold telF at h
  unfold telB at h2
  rw [Bool.and_eq_true, Bool.and_eq_true] at h
  rw [Bool.and_eq_true, decide_eq_true_eq] at h2
  obtain ⟨hK, hC, hF⟩ := h
  obtain ⟨h24, hB⟩ := h2
  simp only [] at hK hC hF h24 hB
  have hKn := let_not (letN_iff.1 hK).2
  have hKz : K.size = 3 := by have := (letN_iff.1 hK).1; omega
  -- the end
  have hend : ∀ q : St, q.kind = K → q.ended = false → q.lines ≠ 0 → Ends q (endX ⟨K, C, es⟩) q.tel := fun q hk he hl => by
    have e1 : endX ⟨K, C, es⟩ = (endS K).data.toList ++ 10 :: [] := by unfold endX; rw [endS_list]
    rw [e1]
    have hn : (10 : UInt8) ∉ (endS K).data.toList := by
      rw [endS_list]
      intro hm
      rcases List.mem_append.1 hm with hm | hm
      · exact absurd hm (by decide)
      · exact hKn.1 hm
    have hch : ¬ (q.lines = 1 ∧ chB (endS K) = true) := by
      rintro ⟨_, hc⟩
      have hz : (endS K).data.toList.length = 6 := by rw [endS_list, List.length_append, slen, hKz]; rfl
      rcases chB_list hc with e | e <;> rw [e] at hz <;> exact absurd hz (by decide)
    refine ends_line (q' := { q with ended := true }) hn (by rw [B_toList]; exact rstep_5 he hl hch (by rw [hk])) he rfl ?_
    exact ends_nil (q := ({ q with ended := true } : St).next) rfl
  -- the elements and the end
  have hels : ∀ q : St, q.kind = K → q.change = C → q.els = [] → q.ended = false → q.lines ≠ 0 → Ends q (es.flatMap elX ++ endX ⟨K, C, es⟩) ⟨K, C, es⟩ := fun q hk hc hq he hl => by
    refine ends_els es q hF hB he hl (by rw [hq]; simp; omega) ?_
    have := hend { q with els := q.els ++ es, lines := q.lines + es.length } hk he (by show q.lines + es.length ≠ 0; omega)
    have e : ({ q with els := q.els ++ es, lines := q.lines + es.length } : St).tel = ⟨K, C, es⟩ := by
      unfold St.tel; simp only [hk, hc, hq, List.nil_append]
    rw [e] at this
    exact this
  unfold telX headX
  simp only []
  rw [List.append_assoc, List.append_assoc, List.singleton_append]
  refine ends_line (q' := { st0 with kind := K }) hKn.1 (by rw [B_toList]; exact rstep_2 rfl rfl hK) rfl rfl ?_
  cases hce : C.toList.isEmpty with
  | true =>
    rw [if_pos rfl, List.nil_append]
    exact hels _ rfl (by rw [empty_of hce]; rfl) rfl rfl (Nat.succ_ne_zero _)
  | false =>
    rw [if_neg Bool.false_ne_true, List.append_assoc, List.singleton_append]
    have hch : chB C = true := by
      unfold okCh at hC
      rw [hce, Bool.false_or] at hC
      exact hC
    have hn : (10 : UInt8) ∉ C.data.toList := by
      rcases chB_list hch with e | e <;> rw [e] <;> decide
    refine ends_line (q' := { ({ st0 with kind := K } : St).next with change := C }) hn (by rw [B_toList]; exact rstep_4 rfl rfl hch) rfl rfl ?_
    exact hels _ rfl rfl rfl rfl (Nat.succ_ne_zero _)
theorem parse_run {s : ByteArray} (h : s.size ≤ 2048) : parse s = run st0 s := by
  unfold parse; rw [if_neg (by omega)]; rfl
/-- A valid telegram is read back from its text. -/
theorem parse_text {t : Tel} (h : telE t = 0) : parse (telS t) = ⟨t, 0, 0⟩ := by
  obtain ⟨h1, h2, h3⟩ := tel_valid h
  rw [telS_0 h, parse_run (by rw [tsize_list rfl]; exact h3)]
  exact (text_ends h1 h2).1
/-- No proper beginning of a text is a text. -/
theorem parse_begin {t : Tel} (h : telE t = 0) {i : Nat} (hi : i < (telX t).length) : parse (B ((telX t).take i)) = ⟨tel0, 1 + ((telX t).take i).count 10, 3⟩ := by
  obtain ⟨h1, h2, h3⟩ := tel_valid h
  rw [parse_run (by rw [tsize_list rfl, List.length_take]; omega)]
  have := (text_ends h1 h2).2 i hi
  rw [this]
  show (⟨tel0, ((0 : Nat) : Int) + 1 + _, 3⟩ : Res) = _
  congr 1

theorem three_ne : ¬ (3 : Int) = 0 := by decide
theorem two_ne : ¬ (2 : Int) = 0 := by decide
/-- What the reader knows behind these bytes. -/
def Inv (q : St) (pre : List UInt8) : Prop := (q = st0 ∧ pre = []) ∨
  (q.lines ≠ 0 ∧ letN q.kind 3 = true ∧ okCh q.change = true ∧ q.els.all felB = true ∧ q.els.all belB = true ∧ q.els.length ≤ 24 ∧ (q.lines = 1 → q.change = ByteArray.empty ∧ q.els = []) ∧
    pre = headX q.tel ++ (q.els.flatMap elX ++ (if q.ended then endX q.tel else [])))
theorem okCh_of {C : ByteArray} (h : chB C = true) : okCh C = true := by unfold okCh; rw [h, Bool.or_true]
theorem ch_ne {C : ByteArray} (h : chB C = true) : C.toList.isEmpty = false := by
  rw [ByteArray.toList_eq]
  rcases chB_list h with e | e <;> rw [e] <;> rfl
theorem inv_step {q : St} {pre : List UInt8} {l : ByteArray} (hi : Inv q pre) (he : (rstep q l).1 = 0) : Inv (rstep q l).2.next (pre ++ (l.data.toList ++ [10])) := by
  have hen : q.ended = false := by
    cases e : q.ended with
    | false => rfl
    | true => rw [rstep_1 e] at he; exact absurd he three_ne
  rcases hi with ⟨rfl, rfl⟩ | ⟨hl, hK, hC, hF, hB, h24, h1, rfl⟩
  · cases hk : letN l 3 with
    | false => rw [rstep_3 rfl rfl hk] at he; exact absurd he three_ne
    | true =>
      rw [rstep_2 rfl rfl hk]
      refine .inr ⟨Nat.succ_ne_zero _, hk, (show okCh ByteArray.empty = true by decide +kernel), rfl, rfl, (show (0 : Nat) ≤ 24 by decide), fun _ => ⟨rfl, rfl⟩, ?_⟩
      unfold headX St.next St.tel st0
      simp [show (ByteArray.empty).toList = [] from by rw [ByteArray.toList_eq]; rfl]
  · rw [hen] 
    simp only [Bool.false_eq_true, if_false, List.append_nil]
    by_cases hch : q.lines = 1 ∧ chB l = true
    · rw [rstep_4 hen hch.1 hch.2]
      obtain ⟨h2, h3⟩ := h1 hch.1
      refine .inr ⟨Nat.succ_ne_zero _, hK, okCh_of hch.2, hF, hB, h24, fun h => absurd h (by show q.lines + 1 ≠ 1; omega), ?_⟩
      have h3' : q.tel.els = [] := h3
      have h2' : q.tel.change = ByteArray.empty := h2
      unfold headX
      simp only [St.next, St.tel, h3, h2, hen, List.flatMap_nil, List.append_nil, Bool.false_eq_true, if_false, ch_ne hch.2]
      simp [show (ByteArray.empty).toList = [] from by rw [ByteArray.toList_eq]; rfl]
    · by_cases hend : l = endS q.kind
      · rw [rstep_5 hen hl hch hend]
        refine .inr ⟨Nat.succ_ne_zero _, hK, hC, hF, hB, h24, fun h => absurd h (by show q.lines + 1 ≠ 1; omega), ?_⟩
        rw [hend, endS_list]
        unfold endX headX
        simp [St.next, St.tel]
      · rw [rstep_6 hen hl hch hend] at he ⊢
        cases hok : peOk l with
        | false => rw [estep_1 hok] at he; exact absurd he three_ne
        | true =>
          cases hbe : belB (peEl l) with
          | false => rw [estep_2 hok hbe] at he; exact absurd he two_ne
          | true =>
            by_cases h24' : q.els.length = 24
            · rw [estep_3 hok h24'] at he; exact absurd he two_ne
            · rw [estep_4 hok hbe h24']
              obtain ⟨e1, e2⟩ := line_pe hok
              refine .inr ⟨Nat.succ_ne_zero _, hK, hC, ?_, ?_, ?_, fun h => absurd h (by show q.lines + 1 ≠ 1; omega), ?_⟩
              · show (q.els ++ [peEl l]).all felB = true
                rw [List.all_append, hF]; simp [e2]
              · show (q.els ++ [peEl l]).all belB = true
                rw [List.all_append, hB]; simp [hbe]
              · show (q.els ++ [peEl l]).length ≤ 24
                rw [List.length_append, List.length_singleton]; omega
              · unfold headX
                simp [St.next, St.tel, hen, List.flatMap_append, e1]
theorem run_back : ∀ (m : Nat) (q : St) (s : ByteArray) (pre : List UInt8), s.size ≤ m → Inv q pre → (run q s).err = 0 →
    telF (run q s).tel = true ∧ telB (run q s).tel = true ∧ telX (run q s).tel = pre ++ s.data.toList ∧ (run q s).line = 0 := by
  intro m
  induction m with
  | zero =>
    intro q s pre hm hi he
    rw [run_nil (by omega)] at he ⊢
    have hs : s.data.toList = [] := List.eq_nil_of_length_eq_zero (by rw [slen]; omega)
    unfold pfin at he ⊢
    cases hen : q.ended with
    | false => rw [hen] at he; exact absurd he (by simp)
    | true =>
      rw [if_pos rfl]
      rcases hi with ⟨rfl, _⟩ | ⟨hl, hK, hC, hF, hB, h24, h1, rfl⟩
      · cases hen
      · refine ⟨?_, ?_, ?_, rfl⟩
        · show (letN q.kind 3 && (okCh q.change && q.els.all felB)) = true
          rw [hK, hC, hF]; rfl
        · show (decide (q.els.length ≤ 24) && q.els.all belB) = true
          rw [hB, Bool.and_true, decide_eq_true_eq]; exact h24
        · rw [hs, hen, if_pos rfl, List.append_nil]; rfl
  | succ m ih =>
    intro q s pre hm hi he
    by_cases h0 : s.size = 0
    · exact ih q s pre (by omega) hi he
    · rcases cutC_cases 10 s with hc | ⟨k, hc, hk⟩
      · have : run q s = ⟨tel0, q.lines + 1, 3⟩ := prun_miss (Nat.le_refl _) h0 hc
        rw [this] at he; exact absurd he (by simp)
      · have hr : run q s = if (rstep q (s.extract 0 k)).1 = 0 then run (rstep q (s.extract 0 k)).2.next (s.extract (k + 1) s.size) else ⟨tel0, q.lines + 1, (rstep q (s.extract 0 k)).1⟩ := by
          have hz : (s.extract (k + 1) s.size).size + 1 ≤ s.size := by simp; omega
          conv => lhs; unfold run
          rw [prun_hit (Nat.le_refl _) hk hc, prun_fuel (s.extract (k + 1) s.size).size _ _ (s.size - 1) (Nat.le_refl _) (by omega)]
        have hz : (s.extract (k + 1) s.size).size + 1 ≤ s.size := by simp; omega
        have hcut := cut_at hc
        by_cases hst : (rstep q (s.extract 0 k)).1 = 0
        · rw [if_pos hst] at hr
          rw [hr] at he ⊢
          obtain ⟨a1, a2, a3, a4⟩ := ih _ _ _ (by omega) (inv_step hi hst) he
          refine ⟨a1, a2, ?_, a4⟩
          rw [a3, hcut]
          simp
        · rw [if_neg hst] at hr
          rw [hr] at he
          exact absurd he hst
/-- What is accepted is the text of the result. -/
theorem tparse_back {s : ByteArray} (h : (parse s).err = 0) : telE (parse s).tel = 0 ∧ telS (parse s).tel = s ∧ (parse s).line = 0 ∧ s.size ≤ 2048 := by
  by_cases hs : 2048 < s.size
  · have : parse s = ⟨tel0, 0, 2⟩ := by unfold parse; rw [if_pos hs]
    rw [this] at h; exact absurd h (by simp)
  · rw [parse_run (by omega)] at h ⊢
    obtain ⟨a1, a2, a3, a4⟩ := run_back s.size st0 s [] (Nat.le_refl _) (.inl ⟨rfl, rfl⟩) h
    rw [List.nil_append] at a3
    have he : telE (run st0 s).tel = 0 := telE_0 a1 a2 (by rw [a3, slen]; omega)
    exact ⟨he, by rw [telS_0 he, a3], a4, by omega⟩
end Go.Proofs.YtglgobmmmghdoaaGreatDoor
