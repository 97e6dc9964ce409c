/-
  Plain mathematics: letters and digits, and what ascii.Letters and ascii.Value come to.
-/
import Derived.Test.YtaimmohfcjoclaaMath
namespace Go.Proofs.Ytaimmohfcjoclaa

/-- A letter A to Z; a decimal digit. -/
def isLe (c : Int) : Bool := decide (65 ≤ c ∧ c ≤ 90)
def isD (c : Int) : Bool := decide (48 ≤ c ∧ c ≤ 57)
theorem isDig_isD (c : UInt8) : isDig c = isD (c.toNat : Int) := rfl
theorem isD_iff {c : Int} : isD c = true ↔ 48 ≤ c ∧ c ≤ 57 := by simp [isD]
theorem isLe_iff {c : Int} : isLe c = true ↔ 65 ≤ c ∧ c ≤ 90 := by simp [isLe]
def isLet (c : UInt8) : Bool := isLe (c.toNat : Int)
/-- All bytes are letters. -/
def allLet (l : List UInt8) : Bool := l.all isLet

/-- The byte at a place, as a number. -/
def bat (s : ByteArray) (k : Nat) : Int := ((s.data.toList.getD k 0).toNat : Int)
theorem bat_at (s : ByteArray) (k : Nat) (h : k < s.size) : (s[k].toNat : Int) = bat s k := by
  unfold bat
  rw [List.getD_eq_getElem?_getD, List.getElem?_eq_getElem (by simpa using h)]; rfl
theorem bat_range (s : ByteArray) (k : Nat) : 0 ≤ bat s k ∧ bat s k ≤ 255 := by
  unfold bat
  have := (s.data.toList.getD k 0).toNat_lt
  omega

theorem allLet_step {s : ByteArray} {k : Nat} (h : k < s.size) (h0 : allLet (s.data.toList.take k) = true) (h1 : isLe (s[k].toNat : Int) = true) : allLet (s.data.toList.take (k + 1)) = true := by
  rw [take_snoc s k h]
  unfold allLet at *
  rw [List.all_append, h0]
  simp [isLet, h1]
theorem allLet_no {s : ByteArray} {k : Nat} (h : k < s.size) (h1 : isLe (s[k].toNat : Int) = false) : allLet s.data.toList = false := by
  unfold allLet
  rw [List.all_eq_false]
  refine ⟨s[k], ?_, ?_⟩
  · have : s.data.toList[k]'(by simpa using h) ∈ s.data.toList := List.getElem_mem _
    exact this
  · unfold isLet; rw [h1]; exact Bool.false_ne_true
theorem allLet_all (s : ByteArray) (k : Nat) (h : s.size ≤ k) (h0 : allLet (s.data.toList.take k) = true) : allLet s.data.toList = true := by
  rwa [List.take_of_length_le (by simpa using h)] at h0

/-- n letters. -/
def letN (s : ByteArray) (n : Int) : Bool := decide ((s.size : Int) = n) && allLet s.data.toList
theorem letN_no1 {s : ByteArray} {n : Int} (h : (s.size : Int) ≠ n) : letN s n = false := by unfold letN; simp [h]
theorem letN_of {s : ByteArray} {n : Int} (h : (s.size : Int) = n) : letN s n = allLet s.data.toList := by unfold letN; simp [h]

theorem allDig_pre {s : ByteArray} {k : Nat} (h : k < s.size) (h0 : allDig (s.data.toList.take (k + 1)) = true) : allDig (s.data.toList.take k) = true ∧ 48 ≤ (s[k].toNat : Int) ∧ (s[k].toNat : Int) ≤ 57 := by
  rw [take_snoc s k h] at h0
  unfold allDig at *
  rw [List.all_append, Bool.and_eq_true] at h0
  refine ⟨h0.1, ?_⟩
  have := h0.2
  simpa [isDig] using this
theorem valN_pre (s : ByteArray) (k : Nat) : k ≤ s.size → allDig (s.data.toList.take k) = true → 0 ≤ valN (s.data.toList.take k) ∧ valN (s.data.toList.take k) + 1 ≤ ((10 ^ k : Nat) : Int) := by
  induction k with
  | zero => intro _ _; simp [valN]
  | succ k ih =>
    intro hk hd
    obtain ⟨d0, d1, d2⟩ := allDig_pre (show k < s.size by omega) hd
    obtain ⟨h1, h2⟩ := ih (by omega) d0
    rw [valN_step s k (by omega), Nat.pow_succ]
    omega
theorem valN_pre9 (s : ByteArray) (h9 : s.size ≤ 9) (k : Nat) (hk : k ≤ s.size) (hd : allDig (s.data.toList.take k) = true) : 0 ≤ valN (s.data.toList.take k) ∧ valN (s.data.toList.take k) ≤ 999999999 := by
  obtain ⟨h1, h2⟩ := valN_pre s k hk hd
  have h3 : 10 ^ k ≤ 10 ^ 9 := Nat.pow_le_pow_right (by omega) (by omega)
  omega

/-- 1 to 9 decimal digits, and their number. -/
def numB (s : ByteArray) : Bool := decide (1 ≤ s.size ∧ s.size ≤ 9) && allDig s.data.toList
def numV (s : ByteArray) : Int := if numB s then valN s.data.toList else 0
theorem numB_no1 {s : ByteArray} (h : ¬ (1 ≤ s.size ∧ s.size ≤ 9)) : numB s = false := by unfold numB; simp [h]
theorem numB_no2 {s : ByteArray} (h : allDig s.data.toList = false) : numB s = false := by unfold numB; rw [h]; simp
theorem numB_of {s : ByteArray} (h : 1 ≤ s.size ∧ s.size ≤ 9) : numB s = allDig s.data.toList := by unfold numB; simp [h]
theorem numV_no {s : ByteArray} (h : numB s = false) : numV s = 0 := by unfold numV; rw [h]; rfl
theorem numV_yes {s : ByteArray} (h : numB s = true) : numV s = valN s.data.toList := by unfold numV; rw [h]; rfl
end Go.Proofs.Ytaimmohfcjoclaa
