/-
  Plain mathematics for the plates: no program, no world. What a valid plate is, the digits of a number, the number and the text of a plate, and what Parse, Check, Compare and Matches come to, as functions on integers and byte strings.
-/
import Derived.WalkKit
import Derived.Laws.BytesArg
namespace Go.Proofs.Ytaimmohfcjoclaa

/-- A plate is valid. -/
def vld (l a s : Int) : Bool := decide (0 ≤ l ∧ l ≤ 9 ∧ 1 ≤ a ∧ a ≤ 999 ∧ 0 ≤ s ∧ s ≤ 999999)
theorem vld_iff {l a s : Int} : vld l a s = true ↔ 0 ≤ l ∧ l ≤ 9 ∧ 1 ≤ a ∧ a ≤ 999 ∧ 0 ≤ s ∧ s ≤ 999999 := by simp [vld]
theorem vld_not {l a s : Int} : vld l a s = false ↔ ¬ (0 ≤ l ∧ l ≤ 9 ∧ 1 ≤ a ∧ a ≤ 999 ∧ 0 ≤ s ∧ s ≤ 999999) := by
  unfold vld; exact decide_eq_false_iff_not

/-- -1, 0 or 1. -/
def sgn (a b : Int) : Int := if a < b then -1 else if b < a then 1 else 0
/-- The order of plates. -/
def cmp3 (l a s l' a' s' : Int) : Int := if sgn l l' ≠ 0 then sgn l l' else if sgn a a' ≠ 0 then sgn a a' else sgn s s'

/-- x modulo n, in the range 0 to n-1. -/
def modN (x n : Int) : Int := if n < 1 then 0 else if x.tmod n < 0 then x.tmod n + n else x.tmod n
theorem modN_range (x n : Int) (h : 1 ≤ n) : 0 ≤ modN x n ∧ modN x n < n := by
  unfold modN
  rw [if_neg (by omega)]
  have h1 : x.tmod n < n := Int.tmod_lt_of_pos x (by omega)
  have h2 : -n < x.tmod n := by
    have := Int.tmod_lt_of_pos (-x) (by omega : 0 < n)
    rw [Int.neg_tmod] at this
    omega
  split <;> omega

/-- The number of a plate. -/
def num (l a s : Int) : Int := (l * 1000 + a) * 1000000 + s

/-- k decimal digits of n, as bytes, the most significant one first. -/
def dgs (n : Int) : Nat → List Int
  | 0 => []
  | k + 1 => dgs (n / 10) k ++ [48 + n % 10]
theorem dgs_length (n : Int) (k : Nat) : (dgs n k).length = k := by
  induction k generalizing n with
  | zero => rfl
  | succ k ih => simp [dgs, ih]

/-- The text of a plate. -/
def txt (l a s : Int) : ByteArray := if vld l a s then strOfNums (dgs (num l a s) 10) else ByteArray.empty

/-- The remainder that Check returns. -/
def chk (l a s : Int) : Int := if vld l a s then num l a s % 7 else -1

/-- A decimal digit. -/
def isDig (c : UInt8) : Bool := decide (48 ≤ (c.toNat : Int) ∧ (c.toNat : Int) ≤ 57)
def allDig (l : List UInt8) : Bool := l.all isDig
theorem take_snoc (s : ByteArray) (k : Nat) (h : k < s.size) : s.data.toList.take (k + 1) = s.data.toList.take k ++ [s[k]] := by
  rw [List.take_succ_eq_append_getElem (by simpa using h)]; rfl
theorem allDig_step {s : ByteArray} {k : Nat} (h : k < s.size) (h0 : allDig (s.data.toList.take k) = true) (h1 : 48 ≤ (s[k].toNat : Int)) (h2 : (s[k].toNat : Int) ≤ 57) : allDig (s.data.toList.take (k + 1)) = true := by
  rw [take_snoc s k h]
  unfold allDig at *
  rw [List.all_append, h0]
  simp [isDig, h1, h2]
theorem allDig_no {s : ByteArray} {k : Nat} (h : k < s.size) (h1 : (s[k].toNat : Int) < 48 ∨ 57 < (s[k].toNat : Int)) : allDig s.data.toList = false := by
  unfold allDig
  rw [List.all_eq_false]
  refine ⟨s[k], ?_, ?_⟩
  · have : s.data.toList[k]'(by simpa using h) ∈ s.data.toList := List.getElem_mem _
    exact this
  · simp only [isDig, Bool.not_eq_true, decide_eq_false_iff_not]; omega
theorem allDig_at {s : ByteArray} (h : allDig s.data.toList = true) {k : Nat} (hk : k < s.size) : 48 ≤ (s[k].toNat : Int) ∧ (s[k].toNat : Int) ≤ 57 := by
  unfold allDig at h
  have := List.all_eq_true.1 h (s.data.toList[k]'(by simpa using hk)) (List.getElem_mem _)
  have e : s.data.toList[k]'(by simpa using hk) = s[k] := rfl
  rw [e] at this
  simpa [isDig] using this
theorem allDig_all (s : ByteArray) (k : Nat) (h : s.size ≤ k) (h0 : allDig (s.data.toList.take k) = true) : allDig s.data.toList = true := by
  rwa [List.take_of_length_le (by simpa using h)] at h0

/-- The number of some digits. -/
def valN (l : List UInt8) : Int := l.foldl (fun n c => n * 10 + ((c.toNat : Int) - 48)) 0
theorem valN_snoc (l : List UInt8) (c : UInt8) : valN (l ++ [c]) = valN l * 10 + ((c.toNat : Int) - 48) := by
  unfold valN; rw [List.foldl_append]; rfl
theorem valN_step (s : ByteArray) (k : Nat) (h : k < s.size) : valN (s.data.toList.take (k + 1)) = valN (s.data.toList.take k) * 10 + ((s[k].toNat : Int) - 48) := by
  rw [take_snoc s k h, valN_snoc]
theorem valN_all (s : ByteArray) (k : Nat) (h : s.size ≤ k) : valN (s.data.toList.take k) = valN s.data.toList := by
  rw [List.take_of_length_le (by simpa using h)]
theorem valN_bd (s : ByteArray) (h : allDig s.data.toList = true) (k : Nat) : k ≤ s.size → 0 ≤ valN (s.data.toList.take k) ∧ valN (s.data.toList.take k) + 1 ≤ ((10 ^ k : Nat) : Int) := by
  induction k with
  | zero => intro _; simp [valN]
  | succ k ih =>
    intro hk
    obtain ⟨h1, h2⟩ := ih (by omega)
    have h3 := allDig_at h (show k < s.size by omega)
    rw [valN_step s k (by omega), Nat.pow_succ]
    omega
theorem valN_bd6 (s : ByteArray) (h : allDig s.data.toList = true) (h6 : s.size ≤ 6) (k : Nat) (hk : k ≤ s.size) : 0 ≤ valN (s.data.toList.take k) ∧ valN (s.data.toList.take k) ≤ 999999 := by
  obtain ⟨h1, h2⟩ := valN_bd s h k hk
  have h3 : 10 ^ k ≤ 10 ^ 6 := Nat.pow_le_pow_right (by omega) (by omega)
  omega

/-- What k rounds of writing the digits of n have laid at the places off + len - k .. off + len - 1; elsewhere g. -/
def wrd (g : Nat → Int) (off len : Nat) (n : Int) (k : Nat) : Nat → Int := fun j => if off + len ≤ j + k ∧ j < off + len then 48 + n / ((10 ^ (off + len - 1 - j) : Nat) : Int) % 10 else g j
theorem wrd_zero (g : Nat → Int) (off len : Nat) (n : Int) (j : Nat) : g j = wrd g off len n 0 j := by
  unfold wrd; rw [if_neg (by omega)]
theorem wrd_step (g : Nat → Int) (off len : Nat) (n m : Int) (k : Nat) (hk : k < len) (hm : m = n / ((10 ^ k : Nat) : Int)) (j : Nat) :
    (if j = off + (len - 1 - k) then 48 + m % 10 else wrd g off len n k j) = wrd g off len n (k + 1) j := by
  unfold wrd
  by_cases e : j = off + (len - 1 - k)
  · rw [if_pos e, if_pos (by omega), hm, show off + len - 1 - j = k by omega]
  · rw [if_neg e]
    by_cases h : off + len ≤ j + k ∧ j < off + len
    · rw [if_pos h, if_pos (by omega)]
    · rw [if_neg h, if_neg (by omega)]
theorem div_step (n : Int) (k : Nat) : n / ((10 ^ k : Nat) : Int) / 10 = n / ((10 ^ (k + 1) : Nat) : Int) := by
  rw [Int.ediv_ediv_of_nonneg (Int.natCast_nonneg _), Nat.pow_succ]; rfl
theorem dgs_at (n : Int) (k : Nat) : ∀ i, i < k → (dgs n k).getD i 0 = 48 + n / ((10 ^ (k - 1 - i) : Nat) : Int) % 10 := by
  induction k generalizing n with
  | zero => intro i hi; omega
  | succ k ih =>
    intro i hi
    unfold dgs
    by_cases e : i = k
    · subst e
      have h1 : (dgs (n / 10) i).length = i := dgs_length _ _
      rw [List.getD_eq_getElem?_getD, List.getElem?_append_right (by omega)]
      simp [h1]
    · have h1 : (dgs (n / 10) k).length = k := dgs_length _ _
      have h2 := ih (n / 10) i (by omega)
      rw [List.getD_eq_getElem?_getD] at h2 ⊢
      rw [List.getElem?_append_left (by omega), h2]
      have h3 : k + 1 - 1 - i = k - 1 - i + 1 := by omega
      rw [h3, Nat.pow_succ, Int.ediv_ediv_of_nonneg (by omega)]
      congr 3
      simp [Int.mul_comm]

/-- The number of some digits, as integers. -/
def valI (l : List Int) : Int := l.foldl (fun n c => n * 10 + (c - 48)) 0
theorem valI_snoc (l : List Int) (c : Int) : valI (l ++ [c]) = valI l * 10 + (c - 48) := by unfold valI; rw [List.foldl_append]; rfl
theorem valI_dgs (k : Nat) : ∀ n : Int, 0 ≤ n → n < ((10 ^ k : Nat) : Int) → valI (dgs n k) = n := by
  induction k with
  | zero => intro n h0 h1; simp at h1; have : n = 0 := by omega
            subst this; rfl
  | succ k ih =>
    intro n h0 h1
    rw [Nat.pow_succ] at h1
    unfold dgs
    rw [valI_snoc, ih (n / 10) (by omega) (by omega)]
    omega
theorem dgs_mem (k : Nat) : ∀ n x : Int, x ∈ dgs n k → 48 ≤ x ∧ x ≤ 57 := by
  induction k with
  | zero => intro n x h; simp [dgs] at h
  | succ k ih =>
    intro n x h
    unfold dgs at h
    rcases List.mem_append.1 h with h | h
    · exact ih _ _ h
    · have := List.mem_singleton.1 h; omega
theorem valN_ofNums : ∀ xs : List Int, (∀ x ∈ xs, 48 ≤ x ∧ x ≤ 57) → valN (strOfNums xs).data.toList = valI xs := by
  intro xs h
  rw [strOfNums_data]
  unfold valN valI
  rw [List.foldl_map]
  have : ∀ (l : List Int) (z : Int), (∀ x ∈ l, 48 ≤ x ∧ x ≤ 57) → l.foldl (fun n c => n * 10 + (((UInt8.ofNat c.toNat).toNat : Int) - 48)) z = l.foldl (fun n c => n * 10 + (c - 48)) z := by
    intro l
    induction l with
    | nil => intro z _; rfl
    | cons c l ih =>
      intro z hl
      have hc := hl c (List.mem_cons_self ..)
      have e : ((UInt8.ofNat c.toNat).toNat : Int) = c := by simp; omega
      rw [List.foldl_cons, List.foldl_cons, e]
      exact ih _ (fun x hx => hl x (List.mem_cons_of_mem _ hx))
  exact this xs 0 h
theorem allDig_ofNums (xs : List Int) (h : ∀ x ∈ xs, 48 ≤ x ∧ x ≤ 57) : allDig (strOfNums xs).data.toList = true := by
  rw [strOfNums_data]
  unfold allDig
  rw [List.all_map, List.all_eq_true]
  intro x hx
  have := h x hx
  simp [isDig]
  omega

theorem num_lt {l a s : Int} (h : vld l a s = true) : 0 ≤ num l a s ∧ num l a s < ((10 ^ 10 : Nat) : Int) := by
  obtain ⟨h1, h2, h3, h4, h5, h6⟩ := vld_iff.1 h
  unfold num; omega
theorem txt_yes {l a s : Int} (h : vld l a s = true) : txt l a s = strOfNums (dgs (num l a s) 10) := by unfold txt; rw [h]; rfl
theorem txt_no {l a s : Int} (h : vld l a s = false) : txt l a s = ByteArray.empty := by unfold txt; rw [h]; rfl
theorem txt_size {l a s : Int} (h : vld l a s = true) : (txt l a s).size = 10 := by rw [txt_yes h, strOfNums_size, dgs_length]
theorem txt_dig {l a s : Int} (h : vld l a s = true) : allDig (txt l a s).data.toList = true := by rw [txt_yes h]; exact allDig_ofNums _ (dgs_mem _ _)
theorem txt_val {l a s : Int} (h : vld l a s = true) : valN (txt l a s).data.toList = num l a s := by
  rw [txt_yes h, valN_ofNums _ (dgs_mem _ _)]
  exact valI_dgs 10 _ (num_lt h).1 (num_lt h).2
theorem not_empty {s : ByteArray} (h : 1 ≤ s.size) : s.toList.isEmpty = false := by
  rw [ByteArray.toList_eq]
  cases e : s.data.toList with
  | nil => have : s.data.toList.length = s.size := by simp
           rw [e] at this; simp at this; omega
  | cons _ _ => rfl
theorem txt_ne {l a s : Int} (h : vld l a s = true) : (txt l a s).toList.isEmpty = false := not_empty (by rw [txt_size h]; omega)

end Go.Proofs.Ytaimmohfcjoclaa
