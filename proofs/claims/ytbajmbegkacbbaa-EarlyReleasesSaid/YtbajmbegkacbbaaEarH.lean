/-
  Early (layer 19), mathematics of a heap in a list (container/heap): one element goes up, one goes down, the root is least.
-/
import Derived.Test.YtbajmbegkacbbaaTelA
namespace Go.Proofs.Ytbajmbegkacbbaa

section
variable {α : Type} {d : α}
theorem getD_setG {l : List α} {x : α} {i : Nat} (j : Nat) (h : i < l.length) : (l.set i x).getD j d = if i = j then x else l.getD j d := by
  rw [List.getD_eq_getElem?_getD, List.getElem?_set]
  by_cases e : i = j
  · subst e; rw [if_pos rfl, if_pos rfl, if_pos h]; rfl
  · rw [if_neg e, if_neg e, List.getD_eq_getElem?_getD]
/-- Two places exchanged. -/
def swG (d : α) (l : List α) (i j : Nat) : List α := (l.set i (l.getD j d)).set j (l.getD i d)
theorem swG_len (l : List α) (i j : Nat) : (swG d l i j).length = l.length := by unfold swG; rw [List.length_set, List.length_set]
theorem swG_at {l : List α} {i j : Nat} (k : Nat) (hi : i < l.length) (hj : j < l.length) : (swG d l i j).getD k d = if j = k then l.getD i d else if i = k then l.getD j d else l.getD k d := by
  unfold swG
  rw [getD_setG k (by rw [List.length_set]; exact hj)]
  by_cases e : j = k
  · rw [if_pos e, if_pos e]
  · rw [if_neg e, if_neg e, getD_setG k hi]
theorem swG_perm : ∀ (l : List α) (i j : Nat), i < j → j < l.length → (swG d l i j).Perm l
  | [], _, _, _, h => absurd h (Nat.not_lt_zero _)
  | x :: l, 0, j + 1, _, h => by
    have hj : j < l.length := by simpa using h
    show (l.getD j d :: l.set j x).Perm (x :: l)
    have e2 : l = l.take j ++ l.getD j d :: l.drop (j + 1) := by rw [at_k hj, List.getElem_cons_drop, List.take_append_drop]
    have e3 : l.set j x = l.take j ++ x :: l.drop (j + 1) := by rw [List.set_eq_take_append_cons_drop, if_pos hj]
    rw [e3]
    refine List.Perm.trans ?_ (List.Perm.of_eq (congrArg (fun q => x :: q) e2.symm))
    refine ((List.perm_middle (a := x) (l₁ := l.take j) (l₂ := l.drop (j + 1))).cons (l.getD j d)).trans ?_
    refine (List.Perm.swap x (l.getD j d) _).trans (List.Perm.cons x ?_)
    exact (List.perm_middle (a := l.getD j d) (l₁ := l.take j) (l₂ := l.drop (j + 1))).symm
  | x :: l, i + 1, j + 1, hij, h => by
    show (x :: (l.set i (l.getD j d)).set j (l.getD i d)).Perm (x :: l)
    exact (swG_perm l i j (by omega) (by simpa using h)).cons x
end
section
variable {α : Type} {d : α} {R : α → α → Prop} {lo n i j : Nat} {l : List α}
/-- From place lo on, each element stands behind the one above it; R is 'not greater'. -/
def HpF (R : α → α → Prop) (d : α) (lo n : Nat) (l : List α) : Prop := ∀ c, 0 < c → c < n → lo ≤ (c - 1) / 2 → R (l.getD ((c - 1) / 2) d) (l.getD c d)
theorem HpF.root (h : HpF R d 0 n l) (refl : ∀ x, R x x) (trans : ∀ x y z, R x y → R y z → R x z) : ∀ k c : Nat, c ≤ k → c < n → R (l.getD 0 d) (l.getD c d)
  | 0, c, hk, _ => by obtain rfl : c = 0 := by omega
                      exact refl _
  | k + 1, c, hk, hn => by
    rcases Nat.eq_zero_or_pos c with h0 | h0
    · subst h0; exact refl _
    · exact trans _ _ _ (HpF.root h refl trans k ((c - 1) / 2) (by omega) (by omega)) (h c h0 hn (Nat.zero_le _))
theorem HpF.le (h : HpF R d lo n l) {m : Nat} (hm : m ≤ n) : HpF R d lo m l := fun c h0 h1 h2 => h c h0 (by omega) h2
/-- In order but for the element at place j, which may be less than the one above it. -/
structure UpG (R : α → α → Prop) (d : α) (n j : Nat) (l : List α) : Prop where
  ord : ∀ c, 0 < c → c < n → c ≠ j → R (l.getD ((c - 1) / 2) d) (l.getD c d)
  gra : ∀ c, 0 < c → c < n → (c - 1) / 2 = j → 0 < j → R (l.getD ((j - 1) / 2) d) (l.getD c d)
theorem UpG.start (h : HpF R d 0 j l) : UpG R d (j + 1) j l :=
  ⟨fun c h0 h1 h2 => h c h0 (by omega) (Nat.zero_le _), fun c h0 h1 h2 _ => by omega⟩
theorem UpG.done (h : UpG R d n j l) (hs : j = 0 ∨ R (l.getD ((j - 1) / 2) d) (l.getD j d)) : HpF R d 0 n l := fun c h0 h1 _ => by
  by_cases e : c = j
  · subst e
    rcases hs with rfl | hs
    · omega
    · exact hs
  · exact h.ord c h0 h1 e
theorem UpG.step (h : UpG R d n j l) (trans : ∀ x y z, R x y → R y z → R x z) (hn : n ≤ l.length) (hj : 0 < j) (hjn : j < n) (hl : R (l.getD j d) (l.getD ((j - 1) / 2) d)) : UpG R d n ((j - 1) / 2) (swG d l ((j - 1) / 2) j) := by
  have hat : ∀ k, (swG d l ((j - 1) / 2) j).getD k d = if j = k then l.getD ((j - 1) / 2) d else if (j - 1) / 2 = k then l.getD j d else l.getD k d := fun k => swG_at k (by omega) (by omega)
  refine ⟨fun c h0 h1 h2 => ?_, fun c h0 h1 h2 h3 => ?_⟩
  · rw [hat, hat c]
    by_cases e : j = c
    · subst e
      rw [if_neg (show ¬ j = (j - 1) / 2 by omega), if_pos rfl, if_pos rfl]
      exact hl
    · rw [if_neg e, if_neg (Ne.symm h2)]
      by_cases e2 : j = (c - 1) / 2
      · rw [if_pos e2]
        exact h.gra c h0 h1 e2.symm hj
      · rw [if_neg e2]
        by_cases e3 : (j - 1) / 2 = (c - 1) / 2
        · rw [if_pos e3]
          have := h.ord c h0 h1 (Ne.symm e)
          rw [← e3] at this
          exact trans _ _ _ hl this
        · rw [if_neg e3]
          exact h.ord c h0 h1 (Ne.symm e)
  · rw [hat, hat c]
    have hp := h.ord ((j - 1) / 2) h3 (by omega) (by omega)
    rw [if_neg (show ¬ j = ((j - 1) / 2 - 1) / 2 by omega), if_neg (show ¬ (j - 1) / 2 = ((j - 1) / 2 - 1) / 2 by omega)]
    by_cases e : j = c
    · rw [if_pos e]; exact hp
    · rw [if_neg e, if_neg (show ¬ (j - 1) / 2 = c by omega)]
      have := h.ord c h0 h1 (Ne.symm e)
      rw [h2] at this
      exact trans _ _ _ hp this
/-- In order from place lo on, but for the element at place i, which may be greater than those below it. -/
structure DnG (R : α → α → Prop) (d : α) (lo n i : Nat) (l : List α) : Prop where
  low : lo ≤ i
  ord : ∀ c, 0 < c → c < n → lo ≤ (c - 1) / 2 → (c - 1) / 2 ≠ i → R (l.getD ((c - 1) / 2) d) (l.getD c d)
  gra : ∀ c, 0 < c → c < n → (c - 1) / 2 = i → 0 < i → lo ≤ (i - 1) / 2 → R (l.getD ((i - 1) / 2) d) (l.getD c d)
theorem DnG.start (h : HpF R d (lo + 1) n l) : DnG R d lo n lo l :=
  ⟨Nat.le_refl _, fun c h0 h1 h2 h3 => h c h0 h1 (by omega), fun c h0 h1 h2 h3 h4 => by omega⟩
/-- The last element has gone to the root. -/
theorem DnG.pop (h : HpF R d 0 (n + 1) l) (hn : n < l.length) : DnG R d 0 n 0 (swG d l 0 n) := by
  have hat : ∀ k, (swG d l 0 n).getD k d = if n = k then l.getD 0 d else if 0 = k then l.getD n d else l.getD k d := fun k => swG_at k (by omega) hn
  refine ⟨Nat.le_refl _, fun c h0 h1 _ h3 => ?_, fun c _ _ _ h3 _ => absurd h3 (Nat.lt_irrefl _)⟩
  rw [hat, hat c, if_neg (by omega), if_neg (Ne.symm h3), if_neg (by omega), if_neg (by omega)]
  exact h c h0 (by omega) (Nat.zero_le _)
theorem DnG.done (h : DnG R d lo n i l) (hs : ∀ c, 0 < c → c < n → (c - 1) / 2 = i → R (l.getD i d) (l.getD c d)) : HpF R d lo n l := fun c h0 h1 h2 => by
  by_cases e : (c - 1) / 2 = i
  · rw [e]; exact hs c h0 h1 e
  · exact h.ord c h0 h1 h2 e
theorem DnG.step (h : DnG R d lo n i l) (hn : n ≤ l.length) (hj : 0 < j) (hjn : j < n) (hji : (j - 1) / 2 = i) (hmin : ∀ c, 0 < c → c < n → (c - 1) / 2 = i → c ≠ j → R (l.getD j d) (l.getD c d)) (hl : R (l.getD j d) (l.getD i d)) : DnG R d lo n j (swG d l i j) := by
  have hlow := h.low
  have hat : ∀ k, (swG d l i j).getD k d = if j = k then l.getD i d else if i = k then l.getD j d else l.getD k d := fun k => swG_at k (by omega) (by omega)
  refine ⟨by omega, fun c h0 h1 h2 h3 => ?_, fun c h0 h1 h2 h3 h4 => ?_⟩
  · rw [hat, hat c, if_neg (Ne.symm h3)]
    by_cases e : i = (c - 1) / 2
    · rw [if_pos e]
      by_cases e2 : j = c
      · rw [if_pos e2]; exact hl
      · rw [if_neg e2, if_neg (by omega)]
        exact hmin c h0 h1 e.symm (Ne.symm e2)
    · rw [if_neg e, if_neg (show ¬ j = c from fun e2 => e (by rw [← e2, hji]))]
      by_cases e2 : i = c
      · rw [if_pos e2]
        subst e2
        exact h.gra j hj hjn hji h0 h2
      · rw [if_neg e2]
        exact h.ord c h0 h1 h2 (Ne.symm e)
  · rw [hat, hat c, if_neg (show ¬ j = (j - 1) / 2 by omega), if_pos hji.symm, if_neg (show ¬ j = c by omega), if_neg (show ¬ i = c by omega)]
    have := h.ord c h0 h1 (by omega) (by omega)
    rw [h2] at this
    exact this
end
end Go.Proofs.Ytbajmbegkacbbaa
