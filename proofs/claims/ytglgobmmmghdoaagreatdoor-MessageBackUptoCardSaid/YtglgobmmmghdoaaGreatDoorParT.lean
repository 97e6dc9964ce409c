/-
  Plain mathematics: texts and telegrams correspond to each other; the beginnings of a text.
-/
import Derived.Test.YtglgobmmmghdoaaGreatDoorParS
namespace Go.Proofs.YtglgobmmmghdoaaGreatDoor

/-- The run on what is left. -/
def run (q : St) (s : ByteArray) : Res := prun s.size q s
theorem prun_fuel : ∀ (m : Nat) (q : St) (s : ByteArray) (n : Nat), s.size ≤ m → s.size ≤ n → prun n q s = run q s := by
  intro m
  induction m with
  | zero =>
    intro q s n hm _
    unfold run
    rw [prun_end (by omega), prun_end (by omega)]
  | succ m ih =>
    intro q s n hm hn
    unfold run
    by_cases h0 : s.size = 0
    · rw [prun_end h0, prun_end h0]
    · rcases cutC_cases 10 s with hc | ⟨k, hc, hk⟩
      · rw [prun_miss hn h0 hc, prun_miss (Nat.le_refl _) h0 hc]
      · rw [prun_hit hn hk hc, prun_hit (Nat.le_refl _) hk hc]
        have hz : (s.extract (k + 1) s.size).size + 1 ≤ s.size := by simp; omega
        rw [ih _ _ (n - 1) (by omega) (by omega), ih _ _ (s.size - 1) (by omega) (by omega)]
theorem run_nil {q : St} {s : ByteArray} (h : s.size = 0) : run q s = pfin q := prun_end h
theorem run_none {q : St} {s : ByteArray} (h0 : s.size ≠ 0) (h : (10 : UInt8) ∉ s.data.toList) : run q s = ⟨tel0, q.lines + 1, 3⟩ := prun_miss (Nat.le_refl _) h0 (cut_not h)
theorem run_line {q : St} {s : ByteArray} {p r : List UInt8} (hp : (10 : UInt8) ∉ p) (hs : s.data.toList = p ++ 10 :: r) :
    run q s = if (rstep q (B p)).1 = 0 then run (rstep q (B p)).2.next (B r) else ⟨tel0, q.lines + 1, (rstep q (B p)).1⟩ := by
  obtain ⟨h1, h2, h3, h4⟩ := cut_app hp hs
  have hz : (B r).size = r.length := tsize_list rfl
  conv => lhs; unfold run
  rw [prun_hit (Nat.le_refl _) (by omega) h1, h2, h3, prun_fuel (B r).size _ _ (s.size - 1) (Nat.le_refl _) (by omega)]

/-- All proper beginnings end without an end; the whole ends well. -/
def Good (q : St) (l : List UInt8) : Prop := ∀ i, i < l.length → run q (B (l.take i)) = ⟨tel0, q.lines + 1 + ((l.take i).count 10 : Nat), 3⟩
def Ends (q : St) (l : List UInt8) (t : Tel) : Prop := run q (B l) = ⟨t, 0, 0⟩ ∧ Good q l
theorem ends_nil {q : St} (h : q.ended = true) : Ends q [] q.tel := by
  refine ⟨?_, fun i hi => absurd hi (Nat.not_lt_zero _)⟩
  rw [run_nil rfl]
  unfold pfin
  rw [if_pos h]
theorem ends_line {q q' : St} {p r : List UInt8} {t : Tel} (hp : (10 : UInt8) ∉ p) (hst : rstep q (B p) = (0, q')) (he : q.ended = false) (hl : q'.lines = q.lines) (h : Ends q'.next r t) : Ends q (p ++ 10 :: r) t := by
  refine ⟨?_, fun i hi => ?_⟩
  · rw [run_line hp rfl, hst, if_pos rfl]; exact h.1
  · by_cases hip : i ≤ p.length
    · have e : (p ++ 10 :: r).take i = p.take i := List.take_append_of_le_length hip
      have hn : (10 : UInt8) ∉ p.take i := fun hm => hp (List.mem_of_mem_take hm)
      rw [e, List.count_eq_zero.2 hn]
      by_cases h0 : i = 0
      · subst h0
        rw [run_nil rfl]
        unfold pfin
        rw [if_neg (by rw [he]; exact Bool.false_ne_true)]
        simp
      · rw [run_none (by rw [tsize_list (l := p.take i) rfl, List.length_take]; omega) hn]
        simp
    · obtain ⟨j, rfl⟩ : ∃ j, i = p.length + 1 + j := ⟨i - p.length - 1, by omega⟩
      have e : (p ++ 10 :: r).take (p.length + 1 + j) = p ++ 10 :: r.take j := by
        rw [show p.length + 1 + j = p.length + (j + 1) by omega, List.take_append, List.take_of_length_le (by omega)]
        rw [show p.length + (j + 1) - p.length = j + 1 by omega, List.take_succ_cons]
      rw [e, run_line hp rfl, hst, if_pos rfl, h.2 j (by simp at hi; omega)]
      rw [List.count_append, List.count_eq_zero.2 hp, List.count_cons_self]
      have : q'.next.lines = q.lines + 1 := by show q'.lines + 1 = _; rw [hl]
      rw [this]
      congr 1
      push_cast
      omega

theorem pc_not {p : ByteArray} (h : pcB p = true) : (10 : UInt8) ∉ p.data.toList ∧ (47 : UInt8) ∉ p.data.toList := by
  unfold pcB at h
  rw [List.all_eq_true] at h
  constructor <;> intro hm <;> have := h _ hm <;> exact absurd this (by decide)
theorem let_not {s : ByteArray} (h : allLet s.data.toList = true) : (10 : UInt8) ∉ s.data.toList ∧ (47 : UInt8) ∉ s.data.toList := by
  unfold allLet at h
  rw [List.all_eq_true] at h
  constructor <;> intro hm <;> have := h _ hm <;> exact absurd this (by decide)
theorem letN_iff {s : ByteArray} {n : Int} : letN s n = true ↔ (s.size : Int) = n ∧ allLet s.data.toList = true := by
  unfold letN; rw [Bool.and_eq_true, decide_eq_true_eq]
/-- A line that stands for an element. -/
def lineX (e : El) : List UInt8 := 46 :: (e.1.data.toList ++ e.2.flatMap partX)
theorem elX_line (e : El) : elX e = lineX e ++ [10] := by unfold elX lineX; simp
theorem fel_iff {e : El} : felB e = true ↔ letN e.1 1 = true ∧ e.2.length ≠ 0 ∧ e.2.all pcB = true := by
  unfold felB
  rw [Bool.and_eq_true, Bool.and_eq_true, Bool.not_eq_true', beq_eq_false_iff_ne]
theorem parts_not {ps : List ByteArray} (h : ps.all pcB = true) : (10 : UInt8) ∉ ps.flatMap partX := by
  rw [List.all_eq_true] at h
  intro hm
  obtain ⟨p, hp, hm⟩ := List.mem_flatMap.1 hm
  unfold partX at hm
  rcases List.mem_cons.1 hm with h2 | h2
  · exact absurd h2 (by decide)
  · exact (pc_not (h p hp)).1 h2
theorem lineX_not {e : El} (h : felB e = true) : (10 : UInt8) ∉ lineX e := by
  obtain ⟨h1, _, h3⟩ := fel_iff.1 h
  unfold lineX
  intro hm
  rcases List.mem_cons.1 hm with h2 | h2
  · exact absurd h2 (by decide)
  · rcases List.mem_append.1 h2 with h2 | h2
    · exact (let_not (letN_iff.1 h1).2).1 h2
    · exact parts_not h3 h2
/-- An element is read back from its line. -/
theorem pe_line {e : El} (h : felB e = true) : peEl (B (lineX e)) = e ∧ peOk (B (lineX e)) = true := by
  obtain ⟨h1, h2, h3⟩ := fel_iff.1 h
  obtain ⟨key, ps⟩ := e
  simp only [] at h1 h2 h3
  obtain ⟨p, ps', rfl⟩ : ∃ p ps', ps = p :: ps' := by
    cases ps with
    | nil => exact absurd rfl h2
    | cons p ps' => exact ⟨p, ps', rfl⟩
  have hk := let_not (letN_iff.1 h1).2
  have hline : (B (lineX (key, p :: ps'))).data.toList = (46 :: key.data.toList) ++ 47 :: (p.data.toList ++ ps'.flatMap partX) := by
    show lineX _ = _
    unfold lineX
    rw [List.flatMap_cons]
    simp [partX]
  have hn : (47 : UInt8) ∉ (46 :: key.data.toList) := fun hm => by
    rcases List.mem_cons.1 hm with h | h
    · exact absurd h (by decide)
    · exact hk.2 h
  obtain ⟨c1, c2, c3, _⟩ := cut_app hn hline
  obtain ⟨p1, p2, p3⟩ := pe_hit c1
  rw [c2] at p1
  rw [c3] at p2
  have hel : peEl (B (lineX (key, p :: ps'))) = (key, p :: ps') := by
    unfold peEl
    rw [p1, p2]
    have k1 : (⟨(Lib.trimPrefix (B (46 :: key.data.toList)).data.toList [46]).toArray⟩ : ByteArray) = key := by
      apply ba_ext
      show Lib.trimPrefix (46 :: key.data.toList) [46] = _
      unfold Lib.trimPrefix Lib.hasPrefix
      simp
    have k2 : splitC 47 (B (p.data.toList ++ ps'.flatMap partX)) = p :: ps' := by
      refine splitC_uniq (fun x hx => ?_) ?_
      · exact (pc_not (List.all_eq_true.1 h3 x hx)).2
      · rw [List.flatMap_cons]; rfl
    rw [k1, k2]
  refine ⟨hel, ?_⟩
  unfold peOk
  rw [hel, p3, h]
  unfold peDot
  rw [p1]
  rfl
/-- A line that is accepted is the line of the element. -/
theorem line_pe {l : ByteArray} (h : peOk l = true) : elX (peEl l) = l.data.toList ++ [10] ∧ felB (peEl l) = true := by
  unfold peOk at h
  rw [Bool.and_eq_true, Bool.and_eq_true] at h
  obtain ⟨h1, h2, h3⟩ := h
  refine ⟨?_, h3⟩
  rcases cutC_cases 47 l with hc | ⟨k, hc, hk⟩
  · rw [(pe_miss hc).2.2] at h2; cases h2
  · obtain ⟨p1, p2, _⟩ := pe_hit hc
    have hcut := cut_at hc
    rw [← p1, ← p2] at hcut
    unfold peDot Lib.hasPrefix at h1
    rw [elX_line]
    unfold lineX
    have e1 : (peEl l).2 = splitC 47 (peRest l) := rfl
    have e2 : (peEl l).1.data.toList = Lib.trimPrefix (peHead l).data.toList [46] := rfl
    rw [e1, e2, splitC_partX]
    unfold Lib.trimPrefix Lib.hasPrefix
    rw [h1, if_pos rfl]
    obtain ⟨t, ht⟩ := List.isPrefixOf_iff_prefix.1 h1
    rw [hcut, ← ht]
    simp
end Go.Proofs.YtglgobmmmghdoaaGreatDoor
