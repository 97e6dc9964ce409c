/-
  Plain mathematics of telegrams: what is formed, what keeps the limits, the text, the error; no program, no world.
-/
import Derived.Test.YtmdjdhfchigekaaDoorLibB
namespace Go.Proofs.YtmdjdhfchigekaaDoor

section
variable {α : Type} {p : α → Bool} {l : List α} {d : α} {k : Nat}
theorem at_k (h : k < l.length) : l.getD k d = l[k] := by rw [List.getD_eq_getElem?_getD, List.getElem?_eq_getElem h]; rfl
theorem all_zero : (l.take 0).all p = true := rfl
theorem all_step (h : k < l.length) (h0 : (l.take k).all p = true) (h1 : p (l.getD k d) = true) : (l.take (k + 1)).all p = true := by
  rw [List.take_succ_eq_append_getElem h, List.all_append, h0]
  rw [at_k h] at h1
  simp [h1]
theorem all_no (h : k < l.length) (h1 : p (l.getD k d) = false) : l.all p = false := by
  rw [List.all_eq_false]
  rw [at_k h] at h1
  exact ⟨l[k], List.getElem_mem _, by rw [h1]; exact Bool.false_ne_true⟩
theorem all_all (h : l.length ≤ k) (h0 : (l.take k).all p = true) : l.all p = true := by
  rwa [List.take_of_length_le h] at h0
theorem all_at (h : l.all p = true) (hk : k < l.length) : p (l.getD k d) = true := by
  rw [at_k hk]; exact List.all_eq_true.1 h _ (List.getElem_mem _)
end

/-- A byte that may stand in a part. -/
def isPc (c : Int) : Bool := isLe c || (isD c || (decide (c = 32) || (decide (c = 45) || decide (c = 43))))
def pcU (c : UInt8) : Bool := isPc (c.toNat : Int)
/-- All bytes of a part are permitted. -/
def pcB (s : ByteArray) : Bool := s.data.toList.all pcU
theorem byte_at {s : ByteArray} {k : Nat} (h : k < s.size) : s.data.toList.getD k 0 = s[k] := by
  rw [at_k (by simpa using h)]; rfl
theorem pc_step {s : ByteArray} {k : Nat} (h : k < s.size) (h0 : (s.data.toList.take k).all pcU = true) (h1 : isPc (s[k].toNat : Int) = true) : (s.data.toList.take (k + 1)).all pcU = true :=
  all_step (d := 0) (by simpa using h) h0 (by rw [byte_at h]; exact h1)
theorem pc_no {s : ByteArray} {k : Nat} (h : k < s.size) (h1 : isPc (s[k].toNat : Int) = false) : pcB s = false :=
  all_no (d := 0) (k := k) (by simpa using h) (by rw [byte_at h]; exact h1)
theorem pc_all {s : ByteArray} {k : Nat} (h : s.size ≤ k) (h0 : (s.data.toList.take k).all pcU = true) : pcB s = true := all_all (by simpa using h) h0

/-- An element: its key, its parts. -/
abbrev El := ByteArray × List ByteArray
def el0 : El := (ByteArray.empty, [])
def felB (e : El) : Bool := letN e.1 1 && (!(e.2.length == 0) && e.2.all pcB)
def shB (s : ByteArray) : Bool := decide (s.size ≤ 20)
def belB (e : El) : Bool := decide (e.2.length ≤ 8) && e.2.all shB
/-- A telegram. -/
structure Tel where
  kind : ByteArray
  change : ByteArray
  els : List El
def chg : ByteArray := ⟨#[67, 72, 71]⟩
def del : ByteArray := ⟨#[68, 69, 76]⟩
def chB (s : ByteArray) : Bool := (s.toList == [67, 72, 71]) || (s.toList == [68, 69, 76])
def okCh (s : ByteArray) : Bool := s.toList.isEmpty || chB s
def telF (t : Tel) : Bool := letN t.kind 3 && (okCh t.change && t.els.all felB)
def telB (t : Tel) : Bool := decide (t.els.length ≤ 24) && t.els.all belB
/-- A part with its slash. -/
def partX (p : ByteArray) : List UInt8 := 47 :: p.data.toList
def elX (e : El) : List UInt8 := 46 :: (e.1.data.toList ++ (e.2.flatMap partX ++ [10]))
def headX (t : Tel) : List UInt8 := t.kind.data.toList ++ [10] ++ (if t.change.toList.isEmpty then [] else t.change.data.toList ++ [10])
def endX (t : Tel) : List UInt8 := [69, 78, 68] ++ t.kind.data.toList ++ [10]
/-- The text. -/
def telX (t : Tel) : List UInt8 := headX t ++ (t.els.flatMap elX ++ endX t)
def telE (t : Tel) : Int := if telF t then (if telB t then (if (telX t).length ≤ 2048 then 0 else 2) else 2) else 3
def telS (t : Tel) : ByteArray := if telE t = 0 then ⟨(telX t).toArray⟩ else ByteArray.empty
theorem telE_1 {t : Tel} (h : telF t = false) : telE t = 3 := by unfold telE; rw [h]; rfl
theorem telE_2 {t : Tel} (h : telF t = true) (h2 : telB t = false) : telE t = 2 := by unfold telE; rw [h, h2]; rfl
theorem telE_3 {t : Tel} (h : telF t = true) (h2 : telB t = true) (h3 : 2048 < (telX t).length) : telE t = 2 := by unfold telE; rw [h, h2, if_pos rfl, if_pos rfl, if_neg (by omega)]
theorem telE_0 {t : Tel} (h : telF t = true) (h2 : telB t = true) (h3 : (telX t).length ≤ 2048) : telE t = 0 := by unfold telE; rw [h, h2, if_pos rfl, if_pos rfl, if_pos h3]
theorem telS_no {t : Tel} (h : telE t ≠ 0) : telS t = ByteArray.empty := by unfold telS; rw [if_neg h]
theorem telS_0 {t : Tel} (h : telE t = 0) : telS t = ⟨(telX t).toArray⟩ := by unfold telS; rw [if_pos h]
theorem tel_valid {t : Tel} (h : telE t = 0) : telF t = true ∧ telB t = true ∧ (telX t).length ≤ 2048 := by
  unfold telE at h
  by_cases h1 : telF t = true
  · by_cases h2 : telB t = true
    · by_cases h3 : (telX t).length ≤ 2048
      · exact ⟨h1, h2, h3⟩
      · rw [if_pos h1, if_pos h2, if_neg h3] at h; omega
    · rw [if_pos h1, if_neg h2] at h; omega
  · rw [if_neg h1] at h; omega

/-- How long a text within the limits can be. -/
theorem parts_len {l : List ByteArray} (h : l.all shB = true) : (l.flatMap partX).length ≤ 21 * l.length := by
  induction l with
  | nil => simp
  | cons x l ih =>
    rw [List.all_cons, Bool.and_eq_true] at h
    have h1 := ih h.2
    have h2 : x.size ≤ 20 := by simpa [shB] using h.1
    rw [List.flatMap_cons, List.length_append]
    have : (partX x).length = x.size + 1 := by simp [partX]
    rw [this, List.length_cons]
    omega
theorem els_len {l : List El} (h : l.all belB = true) (hf : l.all felB = true) : (l.flatMap elX).length ≤ 171 * l.length := by
  induction l with
  | nil => simp
  | cons x l ih =>
    rw [List.all_cons, Bool.and_eq_true] at h hf
    have h1 := ih h.2 hf.2
    have h2 := h.1
    have h3 := hf.1
    unfold belB at h2
    unfold felB at h3
    rw [Bool.and_eq_true] at h2 h3
    have h4 := parts_len h2.2
    have h5 : x.2.length ≤ 8 := by simpa using h2.1
    have h6 : (x.1.size : Int) = 1 := by
      have := h3.1
      unfold letN at this
      rw [Bool.and_eq_true] at this
      simpa using this.1
    rw [List.flatMap_cons, List.length_append]
    have : (elX x).length = 1 + (x.1.size + ((x.2.flatMap partX).length + 1)) := by simp [elX]; omega
    rw [this, List.length_cons]
    omega
theorem tel_len {t : Tel} (h : telF t = true) (h2 : telB t = true) : (telX t).length ≤ 5000 := by
  unfold telF at h
  unfold telB at h2
  rw [Bool.and_eq_true, Bool.and_eq_true] at h
  rw [Bool.and_eq_true] at h2
  have h3 := els_len h2.2 h.2.2
  have h4 : t.els.length ≤ 24 := by simpa using h2.1
  have h5 : (t.kind.size : Int) = 3 := by
    have := h.1
    unfold letN at this
    rw [Bool.and_eq_true] at this
    simpa using this.1
  have h6 : t.change.data.toList.length ≤ 3 := by
    have := h.2.1
    unfold okCh chB at this
    simp only [Bool.or_eq_true, List.isEmpty_iff, beq_iff_eq, ByteArray.toList_eq] at this
    rcases this with h | h | h <;> rw [h] <;> simp
  have h7 : (headX t).length ≤ 8 := by
    unfold headX
    simp only [List.length_append, List.length_cons, List.length_nil]
    have : t.kind.data.toList.length = t.kind.size := by simp
    split <;> simp <;> simp at h6 <;> omega
  have h8 : (endX t).length = 7 := by
    unfold endX
    have : t.kind.data.toList.length = t.kind.size := by simp
    simp only [List.length_append, List.length_cons, List.length_nil]
    omega
  unfold telX
  rw [List.length_append, List.length_append, h8]
  omega
end Go.Proofs.YtmdjdhfchigekaaDoor
