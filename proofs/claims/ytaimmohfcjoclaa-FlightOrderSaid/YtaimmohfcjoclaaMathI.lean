/-
  Plain mathematics: the few flights are ordered as numbers.
-/
import Derived.Test.YtaimmohfcjoclaaMathH
namespace Go.Proofs.Ytaimmohfcjoclaa

def rkC (c : ByteArray) : Int := if c.toList == [65, 89] then 1 else if c.toList == [83, 75] then 2 else 0
def rkS (s : ByteArray) : Int := if s.toList.isEmpty then 0 else 1
def key (c : ByteArray) (n : Int) (s : ByteArray) (d : Int) : Int := ((rkC c * 10000 + n) * 2 + rkS s) * 100 + d

theorem rkC_cmp {c c' : ByteArray} (h : c = ⟨#[83, 75]⟩ ∨ c = ⟨#[65, 89]⟩ ∨ c = ⟨#[52, 85]⟩) (h' : c' = ⟨#[83, 75]⟩ ∨ c' = ⟨#[65, 89]⟩ ∨ c' = ⟨#[52, 85]⟩) :
    sgnS c c' = sgn (rkC c) (rkC c') ∧ (rkC c = rkC c' → c = c') ∧ 0 ≤ rkC c ∧ rkC c ≤ 2 := by
  rcases h with rfl | rfl | rfl <;> rcases h' with rfl | rfl | rfl
  all_goals
    refine ⟨by decide +kernel, ?_, by decide +kernel, by decide +kernel⟩
    first | (intro _; rfl) | (intro h; exact absurd h (by decide +kernel))
theorem rkS_cmp {c c' : ByteArray} (h : c = ByteArray.empty ∨ c = ⟨#[65]⟩) (h' : c' = ByteArray.empty ∨ c' = ⟨#[65]⟩) :
    sgnS c c' = sgn (rkS c) (rkS c') ∧ (rkS c = rkS c' → c = c') ∧ 0 ≤ rkS c ∧ rkS c ≤ 1 := by
  rcases h with rfl | rfl <;> rcases h' with rfl | rfl
  all_goals
    refine ⟨by decide +kernel, ?_, by decide +kernel, by decide +kernel⟩
    first | (intro _; rfl) | (intro h; exact absurd h (by decide +kernel))

theorem sgn_lt {a b : Int} (h : a < b) : sgn a b = -1 := by unfold sgn; rw [if_pos h]
theorem sgn_gt {a b : Int} (h : b < a) : sgn a b = 1 := by unfold sgn; rw [if_neg (by omega), if_pos h]
theorem sgn_eq (a : Int) : sgn a a = 0 := by unfold sgn; simp
theorem or4_1 {x : Int} (h : x ≠ 0) (y z t : Int) : or4 x y z t = x := if_pos h
theorem or4_2 {y : Int} (h : y ≠ 0) (z t : Int) : or4 0 y z t = y := by unfold or4; rw [if_neg (by decide), if_pos h]
theorem or4_3 {z : Int} (h : z ≠ 0) (t : Int) : or4 0 0 z t = z := by unfold or4; rw [if_neg (by decide), if_neg (by decide), if_pos h]
theorem or4_4 (t : Int) : or4 0 0 0 t = t := by unfold or4; rw [if_neg (by decide), if_neg (by decide), if_neg (by decide)]
theorem or4_key {i i' n n' j j' d d' : Int} (_a0 : 0 ≤ i) (_a1 : i ≤ 2) (_b0 : 0 ≤ i') (_b1 : i' ≤ 2) (_c0 : 1 ≤ n) (_c1 : n ≤ 9999) (_d0 : 1 ≤ n') (_d1 : n' ≤ 9999) (_e0 : 0 ≤ j) (_e1 : j ≤ 1) (_f0 : 0 ≤ j') (_f1 : j' ≤ 1) (_g0 : 0 ≤ d) (_g1 : d ≤ 99) (_h0 : 0 ≤ d') (_h1 : d' ≤ 99) :
    or4 (sgn i i') (sgn n n') (sgn j j') (sgn d d') = sgn (((i * 10000 + n) * 2 + j) * 100 + d) (((i' * 10000 + n') * 2 + j') * 100 + d') := by
  rcases Int.lt_trichotomy i i' with h | h | h
  · rw [sgn_lt h, or4_1 (by decide)]; exact (sgn_lt (by omega)).symm
  · subst h
    rw [sgn_eq]
    rcases Int.lt_trichotomy n n' with h | h | h
    · rw [sgn_lt h, or4_2 (by decide)]; exact (sgn_lt (by omega)).symm
    · subst h
      rw [sgn_eq]
      rcases Int.lt_trichotomy j j' with h | h | h
      · rw [sgn_lt h, or4_3 (by decide)]; exact (sgn_lt (by omega)).symm
      · subst h
        rw [sgn_eq, or4_4]
        rcases Int.lt_trichotomy d d' with h | h | h
        · rw [sgn_lt h]; exact (sgn_lt (by omega)).symm
        · subst h; rw [sgn_eq, sgn_eq]
        · rw [sgn_gt h]; exact (sgn_gt (by omega)).symm
      · rw [sgn_gt h, or4_3 (by decide)]; exact (sgn_gt (by omega)).symm
    · rw [sgn_gt h, or4_2 (by decide)]; exact (sgn_gt (by omega)).symm
  · rw [sgn_gt h, or4_1 (by decide)]; exact (sgn_gt (by omega)).symm

theorem few_cmp {c s : ByteArray} {n d : Int} (h : Few c n s d) {c' s' : ByteArray} {n' d' : Int} (h' : Few c' n' s' d') :
    cmpF c n s d c' n' s' d' = sgn (key c n s d) (key c' n' s' d') ∧ (key c n s d = key c' n' s' d' → c = c' ∧ n = n' ∧ s = s' ∧ d = d') := by
  obtain ⟨hc, hn, hs, hd⟩ := h
  obtain ⟨hc', hn', hs', hd'⟩ := h'
  have i1 : 1 ≤ n ∧ n ≤ 9999 := by clear hc hs hd hc' hs' hd' hn'; omega
  have i2 : 1 ≤ n' ∧ n' ≤ 9999 := by clear hc hs hd hc' hs' hd' hn; omega
  have i3 : 0 ≤ d ∧ d ≤ 99 := by clear hc hs hn hc' hs' hd' hn'; omega
  have i4 : 0 ≤ d' ∧ d' ≤ 99 := by clear hc hs hd hc' hs' hn hn'; omega
  clear hn hn' hd hd'
  obtain ⟨a1, a2, a3, a4⟩ := rkC_cmp hc hc'
  obtain ⟨_, _, a5, a6⟩ := rkC_cmp hc' hc
  obtain ⟨b1, b2, b3, b4⟩ := rkS_cmp hs hs'
  obtain ⟨_, _, b5, b6⟩ := rkS_cmp hs' hs
  clear hc hc' hs hs'
  unfold cmpF key
  rw [a1, b1]
  clear a1 b1
  generalize rkC c = r at *
  generalize rkC c' = r' at *
  generalize rkS s = q at *
  generalize rkS s' = q' at *
  refine ⟨or4_key a3 a4 a5 a6 i1.1 i1.2 i2.1 i2.2 b3 b4 b5 b6 i3.1 i3.2 i4.1 i4.2, fun h => ?_⟩
  exact ⟨a2 (by omega), by omega, b2 (by omega), by omega⟩
end Go.Proofs.Ytaimmohfcjoclaa
