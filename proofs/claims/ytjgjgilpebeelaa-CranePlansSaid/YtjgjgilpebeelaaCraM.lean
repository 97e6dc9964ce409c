/-
  Crane (layer 18), mathematics of sorting in place: a row of numbers whose part from a to b is moved; rotations; runs in order.
-/
import Derived.Test.YtjgjgilpebeelaaTelA
namespace Go.Proofs.Ytjgjgilpebeelaa

/-- The numbers at places a to b - 1 have been moved among these places. -/
structure Mov (a b : Nat) (l l' : List Int) : Prop where
  len : l'.length = l.length
  out : ∀ k, k < a ∨ b ≤ k → l'.getD k 0 = l.getD k 0
  sub : ∀ i, a ≤ i → i < b → ∃ j, a ≤ j ∧ j < b ∧ l'.getD i 0 = l.getD j 0
  perm : l'.Perm l
theorem getD_sets {l : List Int} {x : Int} {i : Nat} (j : Nat) (h : i < l.length) : (l.set i x).getD j 0 = if i = j then x else l.getD j 0 := by
  rw [List.getD_eq_getElem?_getD, List.getElem?_set]
  by_cases e : i = j
  · subst e; rw [if_pos rfl, if_pos rfl, if_pos h]; rfl
  · rw [if_neg e, if_neg e, List.getD_eq_getElem?_getD]
def swp (l : List Int) (i j : Nat) : List Int := (l.set i (l.getD j 0)).set j (l.getD i 0)
theorem swp_len (l : List Int) (i j : Nat) : (swp l i j).length = l.length := by unfold swp; rw [List.length_set, List.length_set]
theorem swp_at {l : List Int} {i j : Nat} (k : Nat) (hi : i < l.length) (hj : j < l.length) : (swp l i j).getD k 0 = if j = k then l.getD i 0 else if i = k then l.getD j 0 else l.getD k 0 := by
  unfold swp
  rw [getD_sets k (by rw [List.length_set]; exact hj)]
  by_cases e : j = k
  · rw [if_pos e, if_pos e]
  · rw [if_neg e, if_neg e, getD_sets k hi]
theorem perm_swp : ∀ (l : List Int) (i j : Nat), i < j → j < l.length → (swp l i j).Perm l
  | [], _, _, _, h => absurd h (Nat.not_lt_zero _)
  | x :: l, 0, j + 1, _, h => by
    have hj : j < l.length := by simpa using h
    show (l.getD j 0 :: l.set j x).Perm (x :: l)
    have e2 : l = l.take j ++ l.getD j 0 :: l.drop (j + 1) := by rw [at_k hj, List.getElem_cons_drop, List.take_append_drop]
    have e3 : l.set j x = l.take j ++ x :: l.drop (j + 1) := by rw [List.set_eq_take_append_cons_drop, if_pos hj]
    rw [e3]
    refine List.Perm.trans ?_ (List.Perm.of_eq (congrArg (fun q => x :: q) e2.symm))
    refine ((List.perm_middle (a := x) (l₁ := l.take j) (l₂ := l.drop (j + 1))).cons (l.getD j 0)).trans ?_
    refine (List.Perm.swap x (l.getD j 0) _).trans (List.Perm.cons x ?_)
    exact (List.perm_middle (a := l.getD j 0) (l₁ := l.take j) (l₂ := l.drop (j + 1))).symm
  | x :: l, i + 1, j + 1, hij, h => by
    show (x :: (l.set i (l.getD j 0)).set j (l.getD i 0)).Perm (x :: l)
    exact (perm_swp l i j (by omega) (by simpa using h)).cons x
theorem swp_self {l : List Int} {i : Nat} (hi : i < l.length) : swp l i i = l := by
  apply List.ext_getElem (swp_len l i i)
  intro k h1 h2
  have h := swp_at k hi hi
  rw [at_k h1, at_k h2] at h
  rw [h]
  by_cases e : i = k
  · subst e; rw [if_pos rfl, at_k hi]
  · rw [if_neg e, if_neg e]
theorem swp_comm {l : List Int} {i j : Nat} (hi : i < l.length) (hj : j < l.length) : swp l i j = swp l j i := by
  apply List.ext_getElem (by rw [swp_len, swp_len])
  intro k h1 h2
  have h := swp_at k hi hj
  have h' := swp_at k hj hi
  rw [at_k h1] at h
  rw [at_k h2] at h'
  rw [h, h']
  by_cases e : j = k
  · by_cases e2 : i = k
    · subst e; subst e2; rw [if_pos rfl]
    · rw [if_pos e, if_neg e2, if_pos e]
  · rw [if_neg e]
    by_cases e2 : i = k
    · rw [if_pos e2, if_pos e2]
    · rw [if_neg e2, if_neg e2, if_neg e]
section
variable {a b : Nat} {l l' l'' : List Int}
theorem Mov.refl (a b : Nat) (l : List Int) : Mov a b l l := ⟨rfl, fun _ _ => rfl, fun i h1 h2 => ⟨i, h1, h2, rfl⟩, List.Perm.refl _⟩
theorem Mov.trans (h : Mov a b l l') (h' : Mov a b l' l'') : Mov a b l l'' :=
  ⟨h'.len.trans h.len, fun k hk => (h'.out k hk).trans (h.out k hk), fun i h1 h2 => by
    obtain ⟨j, j1, j2, e⟩ := h'.sub i h1 h2
    obtain ⟨k, k1, k2, e'⟩ := h.sub j j1 j2
    exact ⟨k, k1, k2, e.trans e'⟩, h'.perm.trans h.perm⟩
theorem Mov.wide (h : Mov a b l l') {a' b' : Nat} (ha : a' ≤ a) (hb : b ≤ b') : Mov a' b' l l' :=
  ⟨h.len, fun k hk => h.out k (by omega), fun i h1 h2 => by
    by_cases hi : a ≤ i ∧ i < b
    · obtain ⟨j, j1, j2, e⟩ := h.sub i hi.1 hi.2
      exact ⟨j, by omega, by omega, e⟩
    · exact ⟨i, h1, h2, h.out i (by omega)⟩, h.perm⟩
theorem Mov.swp (h : Mov a b l l') {i j : Nat} (hb : b ≤ l.length) (hi : a ≤ i) (hj : a ≤ j) (hi' : i < b) (hj' : j < b) : Mov a b l (swp l' i j) := by
  have hl := h.len
  refine h.trans ⟨swp_len _ _ _, fun k hk => ?_, fun k h1 h2 => ?_, ?_⟩
  · rw [swp_at k (by omega) (by omega), if_neg (by omega), if_neg (by omega)]
  · rw [swp_at k (by omega) (by omega)]
    by_cases e : j = k
    · exact ⟨i, hi, hi', by rw [if_pos e]⟩
    · rw [if_neg e]
      by_cases e2 : i = k
      · exact ⟨j, hj, hj', by rw [if_pos e2]⟩
      · exact ⟨k, h1, h2, by rw [if_neg e2]⟩
  · rcases Nat.lt_trichotomy i j with h1 | h1 | h1
    · exact perm_swp l' i j h1 (by omega)
    · subst h1; rw [swp_self (by omega)]
    · rw [swp_comm (by omega) (by omega)]; exact perm_swp l' j i h1 (by omega)
end
/-- Where the number comes from that stands at place k when the parts from s to m and from m to e have changed places. -/
def rotI (s m e k : Nat) : Nat := if s ≤ k ∧ k < e then (if k < s + (e - m) then k + (m - s) else k - (e - m)) else k
/-- Where the number comes from when the n places from s and the n places from t have changed places. -/
def swpI (s t n k : Nat) : Nat := if s ≤ k ∧ k < s + n then k + t - s else if t ≤ k ∧ k < t + n then k + s - t else k
theorem swpI_zero (s t k : Nat) : swpI s t 0 k = k := by unfold swpI; rw [if_neg (by omega), if_neg (by omega)]
theorem swpI_step {s t n : Nat} (h : s + n < t) (k : Nat) : swpI s t (n + 1) k = swpI s t n (if t + n = k then s + n else if s + n = k then t + n else k) := by
  unfold swpI
  repeat' split
  all_goals omega
/-- The greater part is on the left. -/
theorem rot_left {m i j : Nat} (h : j < i) (hi : i ≤ m) (k : Nat) : rotI (m - i) m (m + j) k = swpI (m - i) m j (rotI (m - (i - j)) m (m + j) k) := by
  unfold rotI swpI
  repeat' split
  all_goals omega
/-- The greater part is on the right. -/
theorem rot_right {m i j : Nat} (h : i < j) (hi : i ≤ m) (k : Nat) : rotI (m - i) m (m + j) k = swpI (m - i) (m + j - i) i (rotI (m - i) m (m + (j - i)) k) := by
  unfold rotI swpI
  repeat' split
  all_goals omega
theorem rot_end {m i : Nat} (hi : i ≤ m) (k : Nat) : rotI (m - i) m (m + i) k = swpI (m - i) m i k := by
  unfold rotI swpI
  repeat' split
  all_goals omega

/-- Numbers in order at places a to b - 1. -/
def Srt (R : Int → Int → Prop) (a b : Nat) (l : List Int) : Prop := ∀ i j, a ≤ i → i < j → j < b → R (l.getD i 0) (l.getD j 0)
/-- The numbers of the first run are smaller than those of the second. -/
def Crs (a m b : Nat) (l : List Int) : Prop := ∀ i j, a ≤ i → i < m → m ≤ j → j < b → l.getD i 0 < l.getD j 0
/-- By due times, and by the number itself where these are equal. -/
def lexR (f : Int → Int) (x y : Int) : Prop := f x < f y ∨ (f x = f y ∧ x < y)
section
variable {f : Int → Int} {x y z : Int}
theorem lex_trans (h : lexR f x y) (h' : lexR f y z) : lexR f x z := by unfold lexR at *; omega
theorem lex_irr : ¬ lexR f x x := by unfold lexR; omega
theorem lex_asym (h : lexR f x y) (h' : lexR f y x) : False := lex_irr (lex_trans h h')
theorem lex_lt (h : y < x) : lexR f x y ↔ f x < f y := by unfold lexR; omega
theorem lex_ge (h : y < x) : lexR f y x ↔ ¬ f x < f y := by unfold lexR; omega
end
section
variable {f : Int → Int} {a m b : Nat} {l l' : List Int}
theorem Srt.sub (h : Srt (lexR f) a b l) {a' b' : Nat} (ha : a ≤ a') (hb : b' ≤ b) : Srt (lexR f) a' b' l := fun i j h1 h2 h3 => h i j (by omega) h2 (by omega)
theorem Srt.eq (h : Srt (lexR f) a b l) (he : ∀ k, a ≤ k → k < b → l'.getD k 0 = l.getD k 0) : Srt (lexR f) a b l' := fun i j h1 h2 h3 => by
  rw [he i h1 (by omega), he j (by omega) h3]; exact h i j h1 h2 h3
/-- Two runs, the numbers of the first all ahead of those of the second. -/
theorem Srt.join (h1 : Srt (lexR f) a m l) (h2 : Srt (lexR f) m b l) (h : ∀ i j, a ≤ i → i < m → m ≤ j → j < b → lexR f (l.getD i 0) (l.getD j 0)) : Srt (lexR f) a b l := fun i j a1 a2 a3 => by
  rcases Nat.lt_or_ge j m with c | c
  · exact h1 i j a1 a2 c
  · rcases Nat.lt_or_ge i m with c2 | c2
    · exact h i j a1 c2 c a3
    · exact h2 i j c2 a2 a3
/-- The bound is kept by moving. -/
theorem Mov.ahead (h : Mov a m l l') (P : Int → Prop) (hp : ∀ i, a ≤ i → i < m → P (l.getD i 0)) : ∀ i, a ≤ i → i < m → P (l'.getD i 0) := fun i h1 h2 => by
  obtain ⟨j, j1, j2, e⟩ := h.sub i h1 h2
  rw [e]; exact hp j j1 j2
end
/-- One of a run of one number goes into the second run at place i. -/
def insL (l : List Int) (a i : Nat) : Nat → Int := fun k => if a ≤ k ∧ k + 1 < i then l.getD (k + 1) 0 else if k + 1 = i ∧ a < i then l.getD a 0 else l.getD k 0
end Go.Proofs.Ytjgjgilpebeelaa
