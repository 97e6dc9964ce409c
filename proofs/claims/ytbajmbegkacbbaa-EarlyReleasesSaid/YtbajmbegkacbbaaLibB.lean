/-
  The base: plain mathematics of digits and letters; contracts of keep.Mod and of package ascii; regions that draw; the reader of numbers and of texts.
-/
import Derived.WalkKit
import Derived.Laws.BytesArg
import Derived.Test.YtbajmbegkacbbaaRows
import Derived.WalkSpells
import Derived.WalkLawsBesides
import Derived.Handy
import Derived.Lib.Hide
import Derived.ProofKit
import Derived.Deep.OwnRows
import Derived.Lib.BufferOwn
import Derived.StillTailTactics
import Derived.Deep.RegionHeld3
import Derived.BigQuiet
import Derived.StillTail

/- Math: Plain mathematics for the plates: no program, no world. What a valid plate is, the digits of a number, the number and the text of a plate, and what Parse, Check, Compare and Matches come to, as functions on integers and byte strings. -/
namespace Go.Proofs.Ytbajmbegkacbbaa

/-- A plate is valid. -/
def vld (l a s : Int) : Bool := decide (0 ≤ l ∧ l ≤ 9 ∧ 1 ≤ a ∧ a ≤ 999 ∧ 0 ≤ s ∧ s ≤ 999999)
theorem vld_iff {l a s : Int} : vld l a s = true ↔ 0 ≤ l ∧ l ≤ 9 ∧ 1 ≤ a ∧ a ≤ 999 ∧ 0 ≤ s ∧ s ≤ 999999 := by simp [vld]
theorem vld_not {l a s : Int} : vld l a s = false ↔ ¬ (0 ≤ l ∧ l ≤ 9 ∧ 1 ≤ a ∧ a ≤ 999 ∧ 0 ≤ s ∧ s ≤ 999999) := by
  unfold vld; exact decide_eq_false_iff_not

/-- -1, 0 or 1. -/
def sgn (a b : Int) : Int := if a < b then -1 else if b < a then 1 else 0
/-- The order of plates. -/
def cmp3 (l a s l' a' s' : Int) : Int := if sgn l l' ≠ 0 then sgn l l' else if sgn a a' ≠ 0 then sgn a a' else sgn s s'

/-- x modulo n, in the range 0 to n-1. -/
def modN (x n : Int) : Int := if n < 1 then 0 else if x.tmod n < 0 then x.tmod n + n else x.tmod n
theorem modN_range (x n : Int) (h : 1 ≤ n) : 0 ≤ modN x n ∧ modN x n < n := by
  unfold modN
  rw [if_neg (by omega)]
  have h1 : x.tmod n < n := Int.tmod_lt_of_pos x (by omega)
  have h2 : -n < x.tmod n := by
    have := Int.tmod_lt_of_pos (-x) (by omega : 0 < n)
    rw [Int.neg_tmod] at this
    omega
  split <;> omega

/-- The number of a plate. -/
def num (l a s : Int) : Int := (l * 1000 + a) * 1000000 + s

/-- k decimal digits of n, as bytes, the most significant one first. -/
def dgs (n : Int) : Nat → List Int
  | 0 => []
  | k + 1 => dgs (n / 10) k ++ [48 + n % 10]
theorem dgs_length (n : Int) (k : Nat) : (dgs n k).length = k := by
  induction k generalizing n with
  | zero => rfl
  | succ k ih => simp [dgs, ih]

/-- The text of a plate. -/
def txt (l a s : Int) : ByteArray := if vld l a s then strOfNums (dgs (num l a s) 10) else ByteArray.empty

/-- The remainder that Check returns. -/
def chk (l a s : Int) : Int := if vld l a s then num l a s % 7 else -1

/-- A decimal digit. -/
def isDig (c : UInt8) : Bool := decide (48 ≤ (c.toNat : Int) ∧ (c.toNat : Int) ≤ 57)
def allDig (l : List UInt8) : Bool := l.all isDig
theorem take_snoc (s : ByteArray) (k : Nat) (h : k < s.size) : s.data.toList.take (k + 1) = s.data.toList.take k ++ [s[k]] := by
  rw [List.take_succ_eq_append_getElem (by simpa using h)]; rfl
theorem allDig_step {s : ByteArray} {k : Nat} (h : k < s.size) (h0 : allDig (s.data.toList.take k) = true) (h1 : 48 ≤ (s[k].toNat : Int)) (h2 : (s[k].toNat : Int) ≤ 57) : allDig (s.data.toList.take (k + 1)) = true := by
  rw [take_snoc s k h]
  unfold allDig at *
  rw [List.all_append, h0]
  simp [isDig, h1, h2]
theorem allDig_no {s : ByteArray} {k : Nat} (h : k < s.size) (h1 : (s[k].toNat : Int) < 48 ∨ 57 < (s[k].toNat : Int)) : allDig s.data.toList = false := by
  unfold allDig
  rw [List.all_eq_false]
  refine ⟨s[k], ?_, ?_⟩
  · have : s.data.toList[k]'(by simpa using h) ∈ s.data.toList := List.getElem_mem _
    exact this
  · simp only [isDig, Bool.not_eq_true, decide_eq_false_iff_not]; omega
theorem allDig_at {s : ByteArray} (h : allDig s.data.toList = true) {k : Nat} (hk : k < s.size) : 48 ≤ (s[k].toNat : Int) ∧ (s[k].toNat : Int) ≤ 57 := by
  unfold allDig at h
  have := List.all_eq_true.1 h (s.data.toList[k]'(by simpa using hk)) (List.getElem_mem _)
  have e : s.data.toList[k]'(by simpa using hk) = s[k] := rfl
  rw [e] at this
  simpa [isDig] using this
theorem allDig_all (s : ByteArray) (k : Nat) (h : s.size ≤ k) (h0 : allDig (s.data.toList.take k) = true) : allDig s.data.toList = true := by
  rwa [List.take_of_length_le (by simpa using h)] at h0

/-- The number of some digits. -/
def valN (l : List UInt8) : Int := l.foldl (fun n c => n * 10 + ((c.toNat : Int) - 48)) 0
theorem valN_snoc (l : List UInt8) (c : UInt8) : valN (l ++ [c]) = valN l * 10 + ((c.toNat : Int) - 48) := by
  unfold valN; rw [List.foldl_append]; rfl
theorem valN_step (s : ByteArray) (k : Nat) (h : k < s.size) : valN (s.data.toList.take (k + 1)) = valN (s.data.toList.take k) * 10 + ((s[k].toNat : Int) - 48) := by
  rw [take_snoc s k h, valN_snoc]
theorem valN_all (s : ByteArray) (k : Nat) (h : s.size ≤ k) : valN (s.data.toList.take k) = valN s.data.toList := by
  rw [List.take_of_length_le (by simpa using h)]
theorem valN_bd (s : ByteArray) (h : allDig s.data.toList = true) (k : Nat) : k ≤ s.size → 0 ≤ valN (s.data.toList.take k) ∧ valN (s.data.toList.take k) + 1 ≤ ((10 ^ k : Nat) : Int) := by
  induction k with
  | zero => intro _; simp [valN]
  | succ k ih =>
    intro hk
    obtain ⟨h1, h2⟩ := ih (by omega)
    have h3 := allDig_at h (show k < s.size by omega)
    rw [valN_step s k (by omega), Nat.pow_succ]
    omega
theorem valN_bd6 (s : ByteArray) (h : allDig s.data.toList = true) (h6 : s.size ≤ 6) (k : Nat) (hk : k ≤ s.size) : 0 ≤ valN (s.data.toList.take k) ∧ valN (s.data.toList.take k) ≤ 999999 := by
  obtain ⟨h1, h2⟩ := valN_bd s h k hk
  have h3 : 10 ^ k ≤ 10 ^ 6 := Nat.pow_le_pow_right (by omega) (by omega)
  omega

/-- What k rounds of writing the digits of n have laid at the places off + len - k .. off + len - 1; elsewhere g. -/
def wrd (g : Nat → Int) (off len : Nat) (n : Int) (k : Nat) : Nat → Int := fun j => if off + len ≤ j + k ∧ j < off + len then 48 + n / ((10 ^ (off + len - 1 - j) : Nat) : Int) % 10 else g j
theorem wrd_zero (g : Nat → Int) (off len : Nat) (n : Int) (j : Nat) : g j = wrd g off len n 0 j := by
  unfold wrd; rw [if_neg (by omega)]
theorem wrd_step (g : Nat → Int) (off len : Nat) (n m : Int) (k : Nat) (hk : k < len) (hm : m = n / ((10 ^ k : Nat) : Int)) (j : Nat) :
    (if j = off + (len - 1 - k) then 48 + m % 10 else wrd g off len n k j) = wrd g off len n (k + 1) j := by
  unfold wrd
  by_cases e : j = off + (len - 1 - k)
  · rw [if_pos e, if_pos (by omega), hm, show off + len - 1 - j = k by omega]
  · rw [if_neg e]
    by_cases h : off + len ≤ j + k ∧ j < off + len
    · rw [if_pos h, if_pos (by omega)]
    · rw [if_neg h, if_neg (by omega)]
theorem div_step (n : Int) (k : Nat) : n / ((10 ^ k : Nat) : Int) / 10 = n / ((10 ^ (k + 1) : Nat) : Int) := by
  rw [Int.ediv_ediv_of_nonneg (Int.natCast_nonneg _), Nat.pow_succ]; rfl
theorem dgs_at (n : Int) (k : Nat) : ∀ i, i < k → (dgs n k).getD i 0 = 48 + n / ((10 ^ (k - 1 - i) : Nat) : Int) % 10 := by
  induction k generalizing n with
  | zero => intro i hi; omega
  | succ k ih =>
    intro i hi
    unfold dgs
    by_cases e : i = k
    · subst e
      have h1 : (dgs (n / 10) i).length = i := dgs_length _ _
      rw [List.getD_eq_getElem?_getD, List.getElem?_append_right (by omega)]
      simp [h1]
    · have h1 : (dgs (n / 10) k).length = k := dgs_length _ _
      have h2 := ih (n / 10) i (by omega)
      rw [List.getD_eq_getElem?_getD] at h2 ⊢
      rw [List.getElem?_append_left (by omega), h2]
      have h3 : k + 1 - 1 - i = k - 1 - i + 1 := by omega
      rw [h3, Nat.pow_succ, Int.ediv_ediv_of_nonneg (by omega)]
      congr 3
      simp [Int.mul_comm]

/-- The number of some digits, as integers. -/
def valI (l : List Int) : Int := l.foldl (fun n c => n * 10 + (c - 48)) 0
theorem valI_snoc (l : List Int) (c : Int) : valI (l ++ [c]) = valI l * 10 + (c - 48) := by unfold valI; rw [List.foldl_append]; rfl
theorem valI_dgs (k : Nat) : ∀ n : Int, 0 ≤ n → n < ((10 ^ k : Nat) : Int) → valI (dgs n k) = n := by
  induction k with
  | zero => intro n h0 h1; simp at h1; have : n = 0 := by omega
            subst this; rfl
  | succ k ih =>
    intro n h0 h1
    rw [Nat.pow_succ] at h1
    unfold dgs
    rw [valI_snoc, ih (n / 10) (by omega) (by omega)]
    omega
theorem dgs_mem (k : Nat) : ∀ n x : Int, x ∈ dgs n k → 48 ≤ x ∧ x ≤ 57 := by
  induction k with
  | zero => intro n x h; simp [dgs] at h
  | succ k ih =>
    intro n x h
    unfold dgs at h
    rcases List.mem_append.1 h with h | h
    · exact ih _ _ h
    · have := List.mem_singleton.1 h; omega
theorem valN_ofNums : ∀ xs : List Int, (∀ x ∈ xs, 48 ≤ x ∧ x ≤ 57) → valN (strOfNums xs).data.toList = valI xs := by
  intro xs h
  rw [strOfNums_data]
  unfold valN valI
  rw [List.foldl_map]
  have : ∀ (l : List Int) (z : Int), (∀ x ∈ l, 48 ≤ x ∧ x ≤ 57) → l.foldl (fun n c => n * 10 + (((UInt8.ofNat c.toNat).toNat : Int) - 48)) z = l.foldl (fun n c => n * 10 + (c - 48)) z := by
    intro l
    induction l with
    | nil => intro z _; rfl
    | cons c l ih =>
      intro z hl
      have hc := hl c (List.mem_cons_self ..)
      have e : ((UInt8.ofNat c.toNat).toNat : Int) = c := by simp; omega
      rw [List.foldl_cons, List.foldl_cons, e]
      exact ih _ (fun x hx => hl x (List.mem_cons_of_mem _ hx))
  exact this xs 0 h
theorem allDig_ofNums (xs : List Int) (h : ∀ x ∈ xs, 48 ≤ x ∧ x ≤ 57) : allDig (strOfNums xs).data.toList = true := by
  rw [strOfNums_data]
  unfold allDig
  rw [List.all_map, List.all_eq_true]
  intro x hx
  have := h x hx
  simp [isDig]
  omega

theorem num_lt {l a s : Int} (h : vld l a s = true) : 0 ≤ num l a s ∧ num l a s < ((10 ^ 10 : Nat) : Int) := by
  obtain ⟨h1, h2, h3, h4, h5, h6⟩ := vld_iff.1 h
  unfold num; omega
theorem txt_yes {l a s : Int} (h : vld l a s = true) : txt l a s = strOfNums (dgs (num l a s) 10) := by unfold txt; rw [h]; rfl
theorem txt_no {l a s : Int} (h : vld l a s = false) : txt l a s = ByteArray.empty := by unfold txt; rw [h]; rfl
theorem txt_size {l a s : Int} (h : vld l a s = true) : (txt l a s).size = 10 := by rw [txt_yes h, strOfNums_size, dgs_length]
theorem txt_dig {l a s : Int} (h : vld l a s = true) : allDig (txt l a s).data.toList = true := by rw [txt_yes h]; exact allDig_ofNums _ (dgs_mem _ _)
theorem txt_val {l a s : Int} (h : vld l a s = true) : valN (txt l a s).data.toList = num l a s := by
  rw [txt_yes h, valN_ofNums _ (dgs_mem _ _)]
  exact valI_dgs 10 _ (num_lt h).1 (num_lt h).2
theorem not_empty {s : ByteArray} (h : 1 ≤ s.size) : s.toList.isEmpty = false := by
  rw [ByteArray.toList_eq]
  cases e : s.data.toList with
  | nil => have : s.data.toList.length = s.size := by simp
           rw [e] at this; simp at this; omega
  | cons _ _ => rfl
theorem txt_ne {l a s : Int} (h : vld l a s = true) : (txt l a s).toList.isEmpty = false := not_empty (by rw [txt_size h]; omega)

end Go.Proofs.Ytbajmbegkacbbaa

/- MathD: Plain mathematics: letters and digits, and what ascii.Letters and ascii.Value come to. -/
namespace Go.Proofs.Ytbajmbegkacbbaa

/-- A letter A to Z; a decimal digit. -/
def isLe (c : Int) : Bool := decide (65 ≤ c ∧ c ≤ 90)
def isD (c : Int) : Bool := decide (48 ≤ c ∧ c ≤ 57)
theorem isDig_isD (c : UInt8) : isDig c = isD (c.toNat : Int) := rfl
theorem isD_iff {c : Int} : isD c = true ↔ 48 ≤ c ∧ c ≤ 57 := by simp [isD]
theorem isLe_iff {c : Int} : isLe c = true ↔ 65 ≤ c ∧ c ≤ 90 := by simp [isLe]
def isLet (c : UInt8) : Bool := isLe (c.toNat : Int)
/-- All bytes are letters. -/
def allLet (l : List UInt8) : Bool := l.all isLet

/-- The byte at a place, as a number. -/
def bat (s : ByteArray) (k : Nat) : Int := ((s.data.toList.getD k 0).toNat : Int)
theorem bat_at (s : ByteArray) (k : Nat) (h : k < s.size) : (s[k].toNat : Int) = bat s k := by
  unfold bat
  rw [List.getD_eq_getElem?_getD, List.getElem?_eq_getElem (by simpa using h)]; rfl
theorem bat_range (s : ByteArray) (k : Nat) : 0 ≤ bat s k ∧ bat s k ≤ 255 := by
  unfold bat
  have := (s.data.toList.getD k 0).toNat_lt
  omega

theorem allLet_step {s : ByteArray} {k : Nat} (h : k < s.size) (h0 : allLet (s.data.toList.take k) = true) (h1 : isLe (s[k].toNat : Int) = true) : allLet (s.data.toList.take (k + 1)) = true := by
  rw [take_snoc s k h]
  unfold allLet at *
  rw [List.all_append, h0]
  simp [isLet, h1]
theorem allLet_no {s : ByteArray} {k : Nat} (h : k < s.size) (h1 : isLe (s[k].toNat : Int) = false) : allLet s.data.toList = false := by
  unfold allLet
  rw [List.all_eq_false]
  refine ⟨s[k], ?_, ?_⟩
  · have : s.data.toList[k]'(by simpa using h) ∈ s.data.toList := List.getElem_mem _
    exact this
  · unfold isLet; rw [h1]; exact Bool.false_ne_true
theorem allLet_all (s : ByteArray) (k : Nat) (h : s.size ≤ k) (h0 : allLet (s.data.toList.take k) = true) : allLet s.data.toList = true := by
  rwa [List.take_of_length_le (by simpa using h)] at h0

/-- n letters. -/
def letN (s : ByteArray) (n : Int) : Bool := decide ((s.size : Int) = n) && allLet s.data.toList
theorem letN_no1 {s : ByteArray} {n : Int} (h : (s.size : Int) ≠ n) : letN s n = false := by unfold letN; simp [h]
theorem letN_of {s : ByteArray} {n : Int} (h : (s.size : Int) = n) : letN s n = allLet s.data.toList := by unfold letN; simp [h]

theorem allDig_pre {s : ByteArray} {k : Nat} (h : k < s.size) (h0 : allDig (s.data.toList.take (k + 1)) = true) : allDig (s.data.toList.take k) = true ∧ 48 ≤ (s[k].toNat : Int) ∧ (s[k].toNat : Int) ≤ 57 := by
  rw [take_snoc s k h] at h0
  unfold allDig at *
  rw [List.all_append, Bool.and_eq_true] at h0
  refine ⟨h0.1, ?_⟩
  have := h0.2
  simpa [isDig] using this
theorem valN_pre (s : ByteArray) (k : Nat) : k ≤ s.size → allDig (s.data.toList.take k) = true → 0 ≤ valN (s.data.toList.take k) ∧ valN (s.data.toList.take k) + 1 ≤ ((10 ^ k : Nat) : Int) := by
  induction k with
  | zero => intro _ _; simp [valN]
  | succ k ih =>
    intro hk hd
    obtain ⟨d0, d1, d2⟩ := allDig_pre (show k < s.size by omega) hd
    obtain ⟨h1, h2⟩ := ih (by omega) d0
    rw [valN_step s k (by omega), Nat.pow_succ]
    omega
theorem valN_pre9 (s : ByteArray) (h9 : s.size ≤ 9) (k : Nat) (hk : k ≤ s.size) (hd : allDig (s.data.toList.take k) = true) : 0 ≤ valN (s.data.toList.take k) ∧ valN (s.data.toList.take k) ≤ 999999999 := by
  obtain ⟨h1, h2⟩ := valN_pre s k hk hd
  have h3 : 10 ^ k ≤ 10 ^ 9 := Nat.pow_le_pow_right (by omega) (by omega)
  omega

/-- 1 to 9 decimal digits, and their number. -/
def numB (s : ByteArray) : Bool := decide (1 ≤ s.size ∧ s.size ≤ 9) && allDig s.data.toList
def numV (s : ByteArray) : Int := if numB s then valN s.data.toList else 0
theorem numB_no1 {s : ByteArray} (h : ¬ (1 ≤ s.size ∧ s.size ≤ 9)) : numB s = false := by unfold numB; simp [h]
theorem numB_no2 {s : ByteArray} (h : allDig s.data.toList = false) : numB s = false := by unfold numB; rw [h]; simp
theorem numB_of {s : ByteArray} (h : 1 ≤ s.size ∧ s.size ≤ 9) : numB s = allDig s.data.toList := by unfold numB; simp [h]
theorem numV_no {s : ByteArray} (h : numB s = false) : numV s = 0 := by unfold numV; rw [h]; rfl
theorem numV_yes {s : ByteArray} (h : numB s = true) : numV s = valN s.data.toList := by unfold numV; rw [h]; rfl
end Go.Proofs.Ytbajmbegkacbbaa

/- LeafB: endings; keep.Mod. -/
namespace Go.Proofs.Ytbajmbegkacbbaa
open Go.RowKit

theorem ret_bool {a b : Bool} (h : a = b) : Ending.returned (.bool a) = .returned (.bool b) := by rw [h]
theorem ret_int {k : IntKind} {a b : Int} (h : a = b) : Ending.returned (.int k a) = .returned (.int k b) := by rw [h]
theorem ret_str {a b : ByteArray} (h : a = b) : Ending.returned (.string a) = .returned (.string b) := by rw [h]

set_option maxHeartbeats 400000 in
theorem mod_any (x n : Int) (w : World) (h : 1 ≤ n) (h2 : n ≤ 1000000000) :
    Calls Try.prog 8 #[.int .i64 x, .int .i64 n] w fun e w' => e = .returned (.int .i64 (modN x n)) ∧ w = w' := by
  have h3 : x.tmod n < n := Int.tmod_lt_of_pos x (by omega)
  have h4 : -n < x.tmod n := by
    have := Int.tmod_lt_of_pos (-x) (by omega : 0 < n)
    rw [Int.neg_tmod] at this
    omega
  go_enter Try.func8, Try.ntmps8
  go_wp2
  all_goals (go_ret; refine ⟨ret_int ?_, rfl⟩; unfold modN; rw [if_neg (by omega)])
  all_goals (split <;> first | rfl | omega)
end Go.Proofs.Ytbajmbegkacbbaa

/- AsciiB: contracts of package ascii: Letter, Digit, Letters. -/
namespace Go.Proofs.Ytbajmbegkacbbaa
open Go.RowKit

end Go.Proofs.Ytbajmbegkacbbaa

/- ExtB -/
namespace Go.Proofs.Ytbajmbegkacbbaa
open Go.RowKit

theorem size_ext (s : ByteArray) (a b : Nat) : (s.extract a b).size = min b s.size - a := by simp
end Go.Proofs.Ytbajmbegkacbbaa

/- FormatB -/
namespace Go.Proofs.Ytbajmbegkacbbaa
open Go.RowKit

/-- What a call that boxes its plate, and then calls others, has left of the world. -/
theorem boxed {w w1 : World} {o : Obj} (hb : Below (w.alloc o).heap.size (w.alloc o) w1) : Below w.heap.size w w1 :=
  ((Below.refl _ _).alloc (Nat.le_refl _) o).trans (hb.mono (by simp))
theorem onward {w w1 w2 : World} (h : Below w.heap.size w w1) (k : Below w1.heap.size w1 w2) : Below w.heap.size w w2 := h.trans (k.mono h.size)

theorem World.grownBy.trans_drew {a w : World} {row : Option Nat} (h : a.grownBy w row) : a.grownBy w.drew row := ⟨h.os, h.tape, h.output, h.size, h.block⟩
end Go.Proofs.Ytbajmbegkacbbaa

/- After: A region that draws its order, whose operations read and whose callees may make memory of their own: one walk serves every order. 'After W': a world in which every block of W is as it was. -/
namespace Go.Proofs.Ytbajmbegkacbbaa
open Go.RowKit

structure After (W : World) where
  to : World
  is : Below W.heap.size W to

instance (W : World) : Nonempty (After W) := ⟨⟨W, Below.refl _ _⟩⟩

theorem wp_region_after {P : Program} {id : Nat} {Q : Exit → Act → World → Prop} {a : Act} {W : World} {l : List Oper} (hm : P.follows .mixedOrders = true) (hB : Region.lexB .any l.toArray = true)
    (h : wpQuiet P l.toArray (fun w' => ∃ t : After W, w' = t.to) (fun a' => ∀ w', (∃ t : After W, w' = t.to) → Q .normal a' w') l a) : (Code.region id l.toArray true).wp P Q a W :=
  wp_region_quiet (C := fun w' => ∃ t : After W, w' = t.to) hm hB ⟨⟨W.drew, (Below.refl _ _).drew⟩, rfl⟩ (by simpa using h)

theorem After.call {P : Program} {f : FuncId} {args : Array Value} {W : World} {t : After W} {v : Value} (h : Calls P f args t.to fun e w' => e = .returned v ∧ Below t.to.heap.size t.to w') :
    Calls P f args t.to fun e w'' => e = .returned v ∧ ∃ t' : After W, w'' = t'.to :=
  h.mono fun _ w' ⟨he, hb⟩ => ⟨he, ⟨w', onward t.is hb⟩, rfl⟩
theorem After.same {P : Program} {f : FuncId} {args : Array Value} {W : World} {t : After W} {v : Value} (h : Calls P f args t.to fun e w' => e = .returned v ∧ t.to = w') :
    Calls P f args t.to fun e w'' => e = .returned v ∧ ∃ t' : After W, w'' = t'.to :=
  h.mono fun _ _ ⟨he, hb⟩ => ⟨he, t, hb.symm⟩
/-- A cell of W in a later world. -/
theorem After.cell {W : World} {a : Addr} {v : Value} (h : W.cell? a = some v) (t : After W) : t.to.cell? a = some v := by
  rw [t.is.cell (World.block_lt_of_cell? W a h)]; exact h

theorem kept {w w1 : World} (hb : Below w.heap.size w w1) {a : Addr} {v : Value} (h : w.cell? a = some v) : w1.cell? a = some v := by
  rw [hb.cell (World.block_lt_of_cell? w a h)]; exact h
theorem frz {w w1 : World} (hb : Below w.heap.size w w1) {a : Addr} (ha : a.block < w.heap.size) (h : w.frozen? a = false) : w1.frozen? a = false := by
  rw [hb.frozen ha]; exact h
theorem draws {B : Nat} {a w : World} (h : Below B a w) (n : Nat) : Below B a (w.drewN n) := ⟨h.os, h.tape, h.output, h.size, h.block⟩
theorem hide {p : Prop} (h : p) : Hid p := h
theorem unhide {p : Prop} (h : Hid p) : p := h

/-- Three cells of one block. -/
def Three (w : World) (b : Nat) (l a s : Int) : Prop := w.cell? ⟨b, 0, none⟩ = some (.int .i64 l) ∧ w.cell? ⟨b, 1, none⟩ = some (.int .i64 a) ∧ w.cell? ⟨b, 2, none⟩ = some (.int .i64 s)
theorem Three.keep {w w1 : World} {b : Nat} {l a s : Int} (h : Three w b l a s) (hb : Below w.heap.size w w1) : Three w1 b l a s := ⟨kept hb h.1, kept hb h.2.1, kept hb h.2.2⟩
theorem Three.new (w : World) (l a s : Int) (t : TypeId) : Three (w.alloc (.cells #[.int .i64 l, .int .i64 a, .int .i64 s] t)) w.heap.size l a s := ⟨by simp [go_sem], by simp [go_sem], by simp [go_sem]⟩
theorem Three.alloc {w : World} {b : Nat} {l a s : Int} (h : Three w b l a s) (o : Obj) : Three (w.alloc o) b l a s := h.keep ((Below.refl _ _).alloc (Nat.le_refl _) o)
theorem Three.drew {w : World} {b : Nat} {l a s : Int} (h : Three w b l a s) : Three w.drew b l a s := h
theorem below_new {w w1 : World} (hb : Below w.heap.size w w1) (o : Obj) : Below w.heap.size w (w1.alloc o) := hb.alloc hb.size o
end Go.Proofs.Ytbajmbegkacbbaa

/- Tail: A region that draws its order, whose operations before a forced tail read and call quietly (in a class of worlds), and whose tail (a store, say) comes up in one order alone: one walk serves every order. -/
namespace Go.Proofs.Ytbajmbegkacbbaa
open Go.RowKit

section
variable {P : Program} {ops : Array Oper} {md : Region.Mode} {C : World → Prop}

/-- The first n operations come up in whatever order, each quiet in the class; then L. -/
def HeadQ (P : Program) (md : Region.Mode) (ops : Array Oper) (C : World → Prop) (n : Nat) (L : Array Bool → Act → Prop) : Nat → Array Bool → Act → Prop
  | 0, done, a => L done a
  | f + 1, done, a => Region.ready md ops done ≠ [] ∧ ∀ i, i ∈ Region.ready md ops done → i < n ∧ qOp P ops C i (HeadQ P md ops C n L f (done.setIfInBounds i true)) a

theorem any_of_headQ {n g : Nat} {L : Array Bool → Act → Prop} {Q : Exit → Act → World → Prop} (hL : ∀ done a w, C w → L done a → wpAny P md ops Q g done a w) (f : Nat) :
    ∀ (done : Array Bool) (a : Act) (w : World), C w → HeadQ P md ops C n L f done a → wpAny P md ops Q (f + g) done a w := by
  induction f with
  | zero => intro done a w hw h; rw [Nat.zero_add]; exact hL _ _ _ hw h
  | succ f ih =>
    intro done a w hw h
    have e : f + 1 + g = (f + g) + 1 := by omega
    rw [e]
    refine ⟨fun h0 => absurd h0 h.1, fun i hi => ?_⟩
    exact wpOp_of_qOp hw (fun a' w' hw' h' => ih _ a' w' hw' h') (h.2 i hi).2

theorem headQ_first {n i : Nat} {o : Oper} {v : Value} {L : Array Bool → Act → Prop} (ho : ops[i]? = some o) (hsel : Region.noSelect ops = true)
    (hs : Region.sinkB md ops n = true) (hc : Region.chainB md ops n = true) (hn : n < ops.size) (hin : i < n) (hL : ∀ done a, L done a → ∀ j ∈ Region.ready md ops done, n ≤ j) (f : Nat) :
    ∀ (done : Array Bool) (a : Act), HeadInv md ops n done →
      (∀ j oj, ops[j]? = some oj → j ≠ i → done.getD j true = false → (∀ e ∈ oj.after, Region.binds md e = true → e.on ≠ i) → o.apart ops oj = true) →
      i ∈ Region.ready md ops done → YieldsIn P ops C o v a → HeadQ P md ops C n L f (done.setIfInBounds i true) (a.put o.dst v) → HeadQ P md ops C n L (f + 1) done a := by
  have sel := Region.noSelect_spec hsel
  induction f with
  | zero =>
    intro done a inv _ hr hy H
    refine ⟨List.ne_nil_of_mem hr, fun j hj => ?_⟩
    have hjn : j < n := Nat.lt_of_not_le fun hle => tail_waits hs hc hn inv _ i rfl hin (mem_ready.1 hr).1 j hle hj
    by_cases e : j = i
    · rw [e]; exact ⟨hin, hy.qOp ho H⟩
    · exact absurd (hL _ _ H j (ready_mono hj e)) (by omega)
  | succ f ih =>
    intro done a inv hfree hr hy H
    refine ⟨List.ne_nil_of_mem hr, fun j hj => ?_⟩
    have hjn : j < n := Nat.lt_of_not_le fun hle => tail_waits hs hc hn inv _ i rfl hin (mem_ready.1 hr).1 j hle hj
    by_cases e : j = i
    · rw [e]; exact ⟨hin, hy.qOp ho H⟩
    · obtain ⟨hju, oj, hoj, hall⟩ := mem_ready.1 hj
      have hno : ∀ x ∈ oj.after, Region.binds md x = true → x.on ≠ i := fun x hx hb hxi => by
        have h1 := hall x hx hb
        rw [hxi, getD_both (mem_ready.1 hr).1] at h1
        cases h1
      have step := qOp_put hoj (hfree j oj hoj e hju hno) (fun cs b => sel i o cs b ho) (fun cs b => sel j oj cs b hoj) hy (H.2 j (ready_mono hj e)).2
      refine ⟨hjn, qOp_mono (fun a' h3 => ih _ a' (inv.set hj hjn) (fun k ok hk hki hun hnk => hfree k ok hk hki ?_ hnk) (ready_mono hr (Ne.symm e)) h3.1 ?_) step⟩
      · by_cases hjk : j = k
        · rw [← hjk]; exact hju
        · rwa [getD_set_ne true hjk] at hun
      · rw [Array.setIfInBounds_comm _ _ e]; exact h3.2

theorem headQ_lex {n g : Nat} {K : Act → Prop} (hsel : Region.noSelect ops = true) (hs : Region.sinkB md ops n = true) (hc : Region.chainB md ops n = true) (hn : n < ops.size) (l : List Oper) :
    ∀ (k : Nat) (done : Array Bool) (a : Act), (∀ j, j < l.length → l[j]? = ops[k + j]?) → k + l.length = n → HeadInv md ops n done → Region.lexHead md ops g l.length k done = true →
      wpQuiet P ops C K l a → HeadQ P md ops C n (fun d a' => Region.seqB md ops g n d = true ∧ K a') l.length done a := by
  induction l with
  | nil =>
    intro k done a _ hk _ hB h
    have e : k = n := by simpa using hk
    rw [e] at hB
    exact ⟨by simpa [Region.lexHead] using hB, h⟩
  | cons o l ih =>
    intro k done a hl hk inv hB h
    have h0 : ops[k]? = some o := by simpa using (hl 0 (by simp)).symm
    simp only [List.length_cons, Region.lexHead, Bool.and_eq_true] at hB
    rw [List.length_cons] at hk
    have hr : k ∈ Region.ready md ops done := by simpa using hB.1.1
    have hq : qOp P ops C k (wpQuiet P ops C K l) a := by unfold qOp; simp only [h0]; exact h
    obtain ⟨v, hy, hK⟩ := yieldsIn_of_qOp h0 hq
    refine headQ_first h0 hsel hs hc hn (by omega) (fun d a' hd => seqB_ready hd.1) l.length done a inv (Region.free_spec h0 hB.1.2) hr hy ?_
    refine ih (k + 1) _ _ (fun j hj => ?_) (by omega) (inv.set hr (by omega)) hB.2 hK
    have := hl (j + 1) (by rw [List.length_cons]; omega)
    rw [show k + 1 + j = k + (j + 1) by omega, ← this]
    rfl

theorem wp_region_class_tail {id : Nat} {Q : Exit → Act → World → Prop} {a : Act} {w : World} {l : List Oper} (n : Nat) (hm : P.follows .mixedOrders = true) (hB : Region.lexTailB .any l.toArray n = true) (hC : C w.drew)
    (h : wpQuiet P l.toArray C (fun a' => ∀ w', C w' → wpList P l.toArray Q (l.drop n) a' w') (l.take n) a) : (Code.region id l.toArray true).wp P Q a w := by
  simp only [Region.lexTailB, Bool.and_eq_true, decide_eq_true_eq] at hB
  obtain ⟨⟨⟨⟨hsel, hn⟩, hs⟩, hc⟩, hlex⟩ := hB
  have hnl : n < l.length := by simpa using hn
  have htl : (l.take n).length = n := by rw [List.length_take]; omega
  have inv : HeadInv .any l.toArray n (Array.replicate l.toArray.size false) := by
    refine ⟨by simp, fun j oj _ hl => ?_, fun t _ ht => getD_in (by simpa using ht) (getD_replicate_false _ _)⟩
    rw [getD_replicate_false] at hl; cases hl
  have H := headQ_lex (md := .any) (C := C) (g := l.toArray.size - n) hsel hs hc hn (l.take n) 0 _ a (fun j hj => by
    have hj' : j < n := by omega
    simp [hj']) (by omega) inv (by rw [htl]; exact hlex) h
  refine wp_region_any hm ?_
  have A := any_of_headQ (Q := Q) (g := l.toArray.size - n) (fun d a' w' hw' hL => by
    have hdl : (l.drop n).length = l.toArray.size - n := by simp
    have := wpAny_of_seq (md := .any) (Q' := Q) (l.drop n) n d a' w' (fun j => by simp [List.getElem?_drop]) (by rw [hdl]; exact hL.1) (hL.2 w' hw')
    rwa [hdl] at this) _ _ _ _ hC H
  rw [htl, show n + (l.toArray.size - n) = l.toArray.size by omega] at A
  exact A
end

theorem wp_region_after_tail {P : Program} {id : Nat} {Q : Exit → Act → World → Prop} {a : Act} {W : World} {l : List Oper} (n : Nat) (hm : P.follows .mixedOrders = true) (hB : Region.lexTailB .any l.toArray n = true)
    (h : wpQuiet P l.toArray (fun w' => ∃ t : After W, w' = t.to) (fun a' => ∀ w', (∃ t : After W, w' = t.to) → wpList P l.toArray Q (l.drop n) a' w') (l.take n) a) : (Code.region id l.toArray true).wp P Q a W :=
  wp_region_class_tail (C := fun w' => ∃ t : After W, w' = t.to) n hm hB ⟨⟨W.drew, (Below.refl _ _).drew⟩, rfl⟩ h
end Go.Proofs.Ytbajmbegkacbbaa

/- Src: Contracts of the reader of numbers (keep.New, Raw, N, Range): what is read is some number; nothing but the reader's own block changes. -/
namespace Go.Proofs.Ytbajmbegkacbbaa
open Go.RowKit

/-- A slice of n integers below block B. -/
def IntsIn (B : Nat) (w : World) (A : Option Addr) (n : Nat) : Prop :=
  0 < n → ∃ g off, A = some ⟨g, off, none⟩ ∧ g < B ∧ ∀ i, i < n → ∃ x : Int, w.cell? ⟨g, off + i, none⟩ = some (.int .i64 x)
theorem IntsIn.keep {B : Nat} {w w' : World} {A : Option Addr} {n : Nat} (h : IntsIn B w A n) (hB : B ≤ w.heap.size) (hb : ∀ k, k < B → w'.heap[k]? = w.heap[k]?) : IntsIn B w' A n := fun hn => by
  have _ := hB
  obtain ⟨g, off, hA, hg, hc⟩ := h hn
  refine ⟨g, off, hA, hg, fun i hi => ?_⟩
  obtain ⟨x, hx⟩ := hc i hi
  exact ⟨x, by rw [World.cell?_of_block (hb g hg)]; exact hx⟩

/-- The reader in block b, over integers below block B. -/
structure Src (B b : Nat) (w : World) : Prop where
  base : B ≤ b
  has : ∃ (A : Option Addr) (n c k : Nat), w.cell? ⟨b, 0, none⟩ = some (.slice A n c) ∧ w.cell? ⟨b, 1, none⟩ = some (.int .i64 k) ∧ k ≤ n ∧ n ≤ 2000 ∧ IntsIn B w A n
  free : w.frozen? ⟨b, 1, none⟩ = false
  lt : b < w.heap.size
theorem Src.keep {B b : Nat} {w w' : World} (h : Src B b w) (hb : Below w.heap.size w w') : Src B b w' := by
  obtain ⟨h1, ⟨A, n, c, k, e1, e2, e3, e4, e5⟩, h3, h4⟩ := h
  exact ⟨h1, ⟨A, n, c, k, kept hb e1, kept hb e2, e3, e4, e5.keep (by omega) fun i hi => hb.block i (by omega)⟩, frz hb h4 h3, Nat.lt_of_lt_of_le h4 hb.size⟩

theorem Src.grown {B b : Nat} {w w' : World} (h : Src B b w) {row : Option Nat} (hg : w.grownBy w' row) (hr : ∀ k, row = some k → b + 1 ≤ k) : Src B b w' := by
  have hl := h.lt
  have hb : Below (b + 1) w w' := (Below.refl (b + 1) w).grown hg (by omega) hr
  obtain ⟨h1, ⟨A, n, c, k, e1, e2, e3, e4, e5⟩, h3, h4⟩ := h
  refine ⟨h1, ⟨A, n, c, k, ?_, ?_, e3, e4, e5.keep (by omega) fun i hi => hb.block i (by omega)⟩, ?_, Nat.lt_of_lt_of_le h4 hb.size⟩
  · rw [hb.cell (show b < b + 1 by omega)]; exact e1
  · rw [hb.cell (show b < b + 1 by omega)]; exact e2
  · rw [hb.frozen (show b < b + 1 by omega)]; exact h3

theorem owns_reads {w w' : World} {base b : Nat} {e : TypeId} {size : Nat} {v : Value} {n : Nat} {xs : List Value} (h : w.ownsRow base e size v n xs) (hg : w.grownBy w' (some b)) (hb : b < base) : w'.ownsRow base e size v n xs := by
  refine h.kept hg ?_
  cases hv : v.ownBlock with
  | none => exact .inl rfl
  | some g =>
    right
    have := (h.lt g hv).1
    simp; omega
theorem below_reads {B b : Nat} {w w1 w2 : World} (h : Below B w w1) (hg : w1.grownBy w2 (some b)) (hb : B ≤ b) (hB : B ≤ w1.heap.size) : Below B w w2 := h.grown hg hB fun k e => by
  injection e with e; omega

/-- A number comes back, in the range from lo to hi; nothing but block b changes, and what is new. -/
def Reads (B b : Nat) (lo hi : Int) (w : World) (e : Ending) (w' : World) : Prop :=
  ∃ x : Int, e = .returned (.int .i64 x) ∧ lo ≤ x ∧ x ≤ hi ∧ Src B b w' ∧ w.grownBy w' (some b)
def ReadsAny (B b : Nat) (w : World) (e : Ending) (w' : World) : Prop :=
  ∃ x : Int, e = .returned (.int .i64 x) ∧ Src B b w' ∧ w.grownBy w' (some b)

theorem grown_draws {a w : World} {row : Option Nat} (h : a.grownBy w row) (n : Nat) : a.grownBy (w.drewN n) row := ⟨h.os, h.tape, h.output, h.size, h.block⟩
theorem Src.draws {B b : Nat} {w : World} (h : Src B b w) (n : Nat) : Src B b (w.drewN n) := h.keep (Go.Proofs.Ytbajmbegkacbbaa.draws (Below.refl _ _) n)

set_option maxHeartbeats 1000000 in
theorem raw_any (B b : Nat) (w : World) (h : Src B b w) : Calls Try.prog 24 #[.pointer (some ⟨b, 0, none⟩)] w (ReadsAny B b w) := by
  have hS := Lib.hid h
  obtain ⟨hbase, ⟨A, n, c, k, e1, e2, e3, e4, e5⟩, hfree, hlt⟩ := h
  have HI := Lib.hid e5
  clear e5
  by_cases hk : k < n
  · obtain ⟨g, off, rfl, hg, hc⟩ := HI.out (by omega)
    obtain ⟨x, hx⟩ := hc k hk
    clear hc
    have hgb : g ≠ b := by omega
    have k1 : ¬ (n : Int) ≤ (k : Int) := by omega
    have k2 : decide ((n : Int) ≤ (k : Int)) = false := by simp; omega
    have kn : (k : Int) < (n : Int) := by omega
    have k0 : (0 : Int) ≤ (k : Int) := by omega
    go_enter Try.func24, Try.ntmps24
    go_wp2_with fail
    go_quiet (fail)
    go_wp2_with fail
    have v0 : ((w.drewN nq).setCell ⟨b, 1, none⟩ (.int .i64 ((k : Int) + 1))).cell? ⟨b, 0, none⟩ = some (.slice (some ⟨g, off, none⟩) n c) := by
      rw [World.cell?_setCell_other _ _ _ _ (fun e => by have := congrArg Addr.off e; simp at this)]
      simpa using e1
    have v1 : ((w.drewN nq).setCell ⟨b, 1, none⟩ (.int .i64 ((k : Int) + 1))).cell? ⟨b, 1, none⟩ = some (.int .i64 ((k : Int) + 1)) := World.cell?_setCell_same _ _ _ (u := .int .i64 (k : Int)) (by simpa using e2)
    have vx : ((w.drewN nq).setCell ⟨b, 1, none⟩ (.int .i64 ((k : Int) + 1))).cell? ⟨g, off + k, none⟩ = some (.int .i64 x) := by
      rw [World.cell?_setCell_other _ _ _ _ (fun e => by have := congrArg Addr.block e; simp at this; omega)]
      simpa using hx
    have hgrow : w.grownBy ((w.drewN nq).setCell ⟨b, 1, none⟩ (.int .i64 ((k : Int) + 1))) (some b) :=
      ⟨rfl, rfl, rfl, by simp [World.setCell], fun i hi hne => by rw [Below.heap_setCell _ _ _ _ (fun e => hne (by rw [e]))]; rfl⟩
    have hfree2 : ((w.drewN nq).setCell ⟨b, 1, none⟩ (.int .i64 ((k : Int) + 1))).frozen? ⟨b, 1, none⟩ = false := by simpa [go_sem] using hfree
    have hlt2 : b < ((w.drewN nq).setCell ⟨b, 1, none⟩ (.int .i64 ((k : Int) + 1))).heap.size := by simpa [World.setCell] using hlt
    have HG := Lib.hid hgrow
    clear hgrow e1 e2 hx hfree hlt
    generalize (w.drewN nq).setCell ⟨b, 1, none⟩ (.int .i64 ((k : Int) + 1)) = V at *
    go_quiet (fail)
    go_wp2
    go_ret
    refine ⟨x, rfl, Src.draws ⟨hbase, ⟨_, n, c, k + 1, v0, by rw [v1]; rfl, by omega, e4, ?_⟩, hfree2, hlt2⟩ _, grown_draws HG.out _⟩
    have hl := hS.out.lt
    exact HI.out.keep (by omega) fun i hi => HG.out.block i (by omega) (by simp; omega)
  · have k2 : (n : Int) ≤ (k : Int) := by omega
    go_enter Try.func24, Try.ntmps24
    go_wp2_with fail
    go_quiet (fail)
    go_wp2
    go_ret
    exact ⟨0, rfl, hS.out.draws _, grown_draws (World.grownBy.refl _ _) _⟩

theorem n_any (B b : Nat) (m : Int) (w : World) (h : Src B b w) (h1 : 1 ≤ m) (h2 : m ≤ 1000000000) :
    Calls Try.prog 17 #[.pointer (some ⟨b, 0, none⟩), .int .i64 m] w (Reads B b 0 (m - 1) w) := by
  go_enter Try.func17, Try.ntmps17
  go_wp2_with (first
    | (go_at_call 24; refine (raw_any B b _ h).mono ?_; rintro e w1 ⟨x, rfl, hs1, hg1⟩; have HS1 := Lib.hid hs1; have HG1 := Lib.hid hg1; clear hs1 hg1)
    | (go_at_call 8; refine (mod_any x m _ h1 h2).mono ?_; rintro e w2 ⟨rfl, rfl⟩))
  go_ret
  have hr := modN_range x m h1
  exact ⟨_, rfl, hr.1, by omega, HS1.out, HG1.out⟩

theorem range_any (B b : Nat) (lo hi : Int) (w : World) (h : Src B b w) (h0 : 0 ≤ lo) (h1 : lo ≤ hi) (h2 : hi ≤ 100000000) :
    Calls Try.prog 18 #[.pointer (some ⟨b, 0, none⟩), .int .i64 lo, .int .i64 hi] w (Reads B b lo hi w) := by
  go_enter Try.func18, Try.ntmps18
  go_wp2_with (first
    | (go_at_call 17; refine (n_any B b _ _ h (by omega) (by omega)).mono ?_; rintro e w1 ⟨x, rfl, hx1, hx2, hs1, hg1⟩; have HS1 := Lib.hid hs1; have HG1 := Lib.hid hg1; clear hs1 hg1))
  go_ret
  exact ⟨_, rfl, by omega, by omega, HS1.out, HG1.out⟩

theorem src_new (A : Option Addr) (n c : Nat) (w : World) (t : TypeId) (hn : n ≤ 2000) (h : IntsIn w.heap.size w A n) : Src w.heap.size w.heap.size (w.alloc (.cells #[.slice A n c, .int .i64 0] t)) := by
  refine ⟨Nat.le_refl _, ⟨A, n, c, 0, by simp [go_sem], by simp [go_sem], Nat.zero_le _, hn, h.keep (Nat.le_refl _) fun i hi => Below.heap_alloc _ _ _ hi⟩, by simp [go_sem], by rw [World.size_alloc]; omega⟩

/-- A slice of integers that came in. -/
theorem new_any (A : Option Addr) (n c : Nat) (w : World) (hc : n ≤ c) (h : IntsIn w.heap.size w A n) :
    Calls Try.prog 16 #[.slice A n c] w fun e w' => e = .returned (.pointer (some ⟨w.heap.size, 0, none⟩)) ∧ Src w.heap.size w.heap.size w' ∧ Below w.heap.size w w' := by
  have HI := Lib.hid h
  clear h
  by_cases hn : (2000 : Int) < (n : Int)
  · obtain ⟨g, off, rfl, hg, hx⟩ := HI.out (by omega)
    have HX := Lib.hid hx
    clear hx
    have hc2 : (2000 : Int) ≤ (c : Int) := by omega
    go_enter Try.func16, Try.ntmps16
    go_wp2
    go_ret
    exact ⟨rfl, src_new _ _ _ _ _ (by omega) fun _ => ⟨g, off, rfl, hg, fun i hi => HX.out i (by omega)⟩, (Below.refl _ _).alloc (Nat.le_refl _) _⟩
  · go_enter Try.func16, Try.ntmps16
    go_wp2
    go_ret
    exact ⟨rfl, src_new _ _ _ _ _ (by omega) HI.out, (Below.refl _ _).alloc (Nat.le_refl _) _⟩
end Go.Proofs.Ytbajmbegkacbbaa

/- FewB: contracts of the readers that choose: Text, Pick; the reader at work. -/
namespace Go.Proofs.Ytbajmbegkacbbaa
open Go.RowKit

/-- The reader at work: its block, and what else is new since w0. -/
structure Rd (w0 : World) (B b : Nat) (w : World) : Prop where
  src : Src B b w
  gr : w0.grownBy w (some b)
theorem Rd.start {B b : Nat} {w : World} (h : Src B b w) : Rd w B b w := ⟨h, World.grownBy.refl _ _⟩
theorem Rd.alloc {w0 : World} {B b : Nat} {w : World} (h : Rd w0 B b w) (o : Obj) : Rd w0 B b (w.alloc o) := ⟨h.src.keep ((Below.refl _ _).alloc (Nat.le_refl _) o), Lib.grownBy_allocR h.gr o⟩
theorem Rd.step {w0 : World} {B b : Nat} {w w' : World} (h : Rd w0 B b w) (hs : Src B b w') (hg : w.grownBy w' (some b)) : Rd w0 B b w' := ⟨hs, Lib.grownBy_trans h.gr hg⟩
theorem Rd.ne {w0 : World} {B b : Nat} {w : World} (h : Rd w0 B b w) : some w.heap.size ≠ some b := by have := h.src.lt; simp; omega

/-- A store into a block that is new. -/
theorem _root_.Go.World.grownBy.setNew {a w : World} {row : Option Nat} (h : a.grownBy w row) {g : Nat} (hg : a.heap.size ≤ g) (i : Nat) (v : Value) : a.grownBy (w.setCell ⟨g, i, none⟩ v) row :=
  ⟨h.os, h.tape, h.output, by simpa [World.setCell] using h.size, fun k hk hr => by rw [Below.heap_setCell _ _ _ _ (fun e => by have e' : k = g := e; omega)]; exact h.block k hk hr⟩

/-- A few strings, or numbers, in a new block. -/
theorem three_strs {w : World} {x y z : ByteArray} {f : Nat → ByteArray} {t : TypeId} (h0 : f 0 = x) (h1 : f 1 = y) (h2 : f 2 = z) : ∀ i, i < 3 → (w.alloc (.cells #[.string x, .string y, .string z] t)).cell? ⟨w.heap.size, i, none⟩ = some (.string (f i)) := fun i hi => by
  subst h0 h1 h2
  match i, hi with
  | 0, _ | 1, _ | 2, _ => simp [go_sem]
theorem three_ints {w : World} {x y z : Int} {f : Nat → Int} {t : TypeId} (h0 : f 0 = x) (h1 : f 1 = y) (h2 : f 2 = z) : ∀ i, i < 3 → (w.alloc (.cells #[.int .i64 x, .int .i64 y, .int .i64 z] t)).cell? ⟨w.heap.size, i, none⟩ = some (.int .i64 (f i)) := fun i hi => by
  subst h0 h1 h2
  match i, hi with
  | 0, _ | 1, _ | 2, _ => simp [go_sem]
theorem four_ints {w : World} {x y z q : Int} {f : Nat → Int} {t : TypeId} (h0 : f 0 = x) (h1 : f 1 = y) (h2 : f 2 = z) (h3 : f 3 = q) : ∀ i, i < 4 → (w.alloc (.cells #[.int .i64 x, .int .i64 y, .int .i64 z, .int .i64 q] t)).cell? ⟨w.heap.size, i, none⟩ = some (.int .i64 (f i)) := fun i hi => by
  subst h0 h1 h2 h3
  match i, hi with
  | 0, _ | 1, _ | 2, _ | 3, _ => simp [go_sem]
end Go.Proofs.Ytbajmbegkacbbaa

