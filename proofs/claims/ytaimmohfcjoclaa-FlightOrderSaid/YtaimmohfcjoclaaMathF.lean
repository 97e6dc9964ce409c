/-
  Plain mathematics for the flights: valid parts, texts, the order.
-/
import Derived.Test.YtaimmohfcjoclaaMathD
import Derived.Sort.Walk0
namespace Go.Proofs.Ytaimmohfcjoclaa

/-- A carrier; a suffix; a valid flight; its designator and its text. -/
def carB (s : ByteArray) : Bool := decide (s.size = 2) && ((isLe (bat s 0) || isD (bat s 0)) && (isLe (bat s 1) || isD (bat s 1)) && (isLe (bat s 0) || isLe (bat s 1)))
def sufB (s : ByteArray) : Bool := s.toList.isEmpty || letN s 1
def fvl (c : ByteArray) (n : Int) (s : ByteArray) (d : Int) : Bool := carB c && (decide (1 ≤ n ∧ n ≤ 9999) && (sufB s && decide (0 ≤ d ∧ d ≤ 99)))
def fdes (c : ByteArray) (n : Int) (s : ByteArray) (d : Int) : ByteArray := if fvl c n s d then c ++ strOfNums (dgs n 4) ++ s else ByteArray.empty
def ftxt (c : ByteArray) (n : Int) (s : ByteArray) (d : Int) : ByteArray := if fvl c n s d then c ++ strOfNums (dgs n 4) ++ s ++ ⟨#[47]⟩ ++ strOfNums (dgs d 2) else ByteArray.empty

theorem fvl_iff {c s : ByteArray} {n d : Int} : fvl c n s d = true ↔ carB c = true ∧ (1 ≤ n ∧ n ≤ 9999) ∧ sufB s = true ∧ 0 ≤ d ∧ d ≤ 99 := by
  unfold fvl; simp
theorem carB_size {s : ByteArray} (h : carB s = true) : s.size = 2 := by
  unfold carB at h
  rw [Bool.and_eq_true] at h
  exact of_decide_eq_true h.1
theorem empty_size {s : ByteArray} (h : s.toList.isEmpty = true) : s.size = 0 := by
  rw [ByteArray.toList_eq] at h
  have e : s.data.toList = [] := List.isEmpty_iff.1 h
  have : s.data.toList.length = s.size := by simp
  rw [e] at this
  exact this.symm
theorem size_empty {s : ByteArray} (h : s.size = 0) : s.toList.isEmpty = true := by
  rw [ByteArray.toList_eq]
  have : s.data.toList.length = s.size := by simp
  rw [h] at this
  rw [List.length_eq_zero_iff.1 this]; rfl
theorem letN_size {s : ByteArray} {n : Int} (h : letN s n = true) : (s.size : Int) = n := by
  unfold letN at h
  rw [Bool.and_eq_true] at h
  exact of_decide_eq_true h.1
theorem sufB_size {s : ByteArray} (h : sufB s = true) : s.size ≤ 1 := by
  unfold sufB at h
  rcases Bool.or_eq_true _ _ |>.mp h with h | h
  · have := empty_size h; omega
  · have := letN_size h; omega
theorem fvl_sizes {c s : ByteArray} {n d : Int} (h : fvl c n s d = true) : c.size = 2 ∧ s.size ≤ 1 := ⟨carB_size (fvl_iff.1 h).1, sufB_size (fvl_iff.1 h).2.2.1⟩
theorem fdes_yes {c s : ByteArray} {n d : Int} (h : fvl c n s d = true) : fdes c n s d = c ++ strOfNums (dgs n 4) ++ s := by unfold fdes; rw [h]; rfl
theorem fdes_no {c s : ByteArray} {n d : Int} (h : fvl c n s d = false) : fdes c n s d = ByteArray.empty := by unfold fdes; rw [h]; rfl
theorem ftxt_yes {c s : ByteArray} {n d : Int} (h : fvl c n s d = true) : ftxt c n s d = fdes c n s d ++ ⟨#[47]⟩ ++ strOfNums (dgs d 2) := by rw [fdes_yes h]; unfold ftxt; rw [h]; rfl
theorem ftxt_no {c s : ByteArray} {n d : Int} (h : fvl c n s d = false) : ftxt c n s d = ByteArray.empty := by unfold ftxt; rw [h]; rfl
theorem fdes_size {c s : ByteArray} {n d : Int} (h : fvl c n s d = true) : 6 ≤ (fdes c n s d).size ∧ (fdes c n s d).size ≤ 7 := by
  obtain ⟨h1, h2⟩ := fvl_sizes h
  rw [fdes_yes h]
  simp only [ByteArray.size_append, strOfNums_size, dgs_length]
  omega

/-- The order of strings, and of flights. -/
def sgnS (a b : ByteArray) : Int := if Op.bytesLess a.toList b.toList then -1 else if a.toList == b.toList then 0 else 1
def or4 (x y z t : Int) : Int := if x ≠ 0 then x else if y ≠ 0 then y else if z ≠ 0 then z else t
def cmpF (c : ByteArray) (n : Int) (s : ByteArray) (d : Int) (c' : ByteArray) (n' : Int) (s' : ByteArray) (d' : Int) : Int := or4 (sgnS c c') (sgn n n') (sgnS s s') (sgn d d')
theorem less_self (x : List UInt8) : Op.bytesLess x x = false := by
  induction x with
  | nil => rfl
  | cons a x ih => unfold Op.bytesLess; rw [ih]; simp
theorem sgnS_bd (a b : ByteArray) : -1 ≤ sgnS a b ∧ sgnS a b ≤ 1 := by unfold sgnS; split <;> (try split) <;> omega
theorem sgn_bds (a b : Int) : -1 ≤ sgn a b ∧ sgn a b ≤ 1 := by unfold sgn; split <;> (try split) <;> omega
theorem cmpF_bd (c : ByteArray) (n : Int) (s : ByteArray) (d : Int) (c' : ByteArray) (n' : Int) (s' : ByteArray) (d' : Int) : -1 ≤ cmpF c n s d c' n' s' d' ∧ cmpF c n s d c' n' s' d' ≤ 1 := by
  have h1 := sgnS_bd c c'
  have h2 := sgn_bds n n'
  have h3 := sgnS_bd s s'
  have h4 := sgn_bds d d'
  unfold cmpF or4
  split <;> (try split) <;> (try split) <;> omega
end Go.Proofs.Ytaimmohfcjoclaa
