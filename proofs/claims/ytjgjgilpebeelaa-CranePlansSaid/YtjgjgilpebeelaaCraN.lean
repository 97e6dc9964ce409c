/-
  Crane (layer 18), mathematics of merging two neighbouring runs in place by rotations (symmetric merge), and of insertion.
-/
import Derived.Test.YtjgjgilpebeelaaCraM
namespace Go.Proofs.Ytjgjgilpebeelaa

section
variable {f : Int → Int} {a s m e b : Nat} {l l' : List Int}
/-- Two runs, rotated in the middle: all is in order at once. -/
theorem srt_rot_all (has : a ≤ s) (hsm : s ≤ m) (hme : m ≤ e) (heb : e ≤ b) (hr : ∀ k, l'.getD k 0 = l.getD (rotI s m e k) 0) (h1 : Srt (lexR f) a m l) (h2 : Srt (lexR f) m b l)
    (H1 : ∀ i j, a ≤ i → i < s → e ≤ j → j < b → lexR f (l.getD i 0) (l.getD j 0)) (H2 : ∀ i j, s ≤ i → i < m → m ≤ j → j < e → lexR f (l.getD j 0) (l.getD i 0))
    (H3 : ∀ i j, s ≤ i → i < m → e ≤ j → j < b → lexR f (l.getD i 0) (l.getD j 0)) (H4 : ∀ i j, a ≤ i → i < s → m ≤ j → j < e → lexR f (l.getD i 0) (l.getD j 0)) : Srt (lexR f) a b l' := by
  intro i j hi hij hj
  rw [hr i, hr j]
  unfold rotI
  by_cases i1 : i < s
  · rw [if_neg (by omega)]
    by_cases j1 : j < s
    · rw [if_neg (by omega)]; exact h1 i j hi hij (by omega)
    · by_cases j2 : j < e
      · rw [if_pos ⟨by omega, j2⟩]
        by_cases j3 : j < s + (e - m)
        · rw [if_pos j3]; exact H4 i _ hi i1 (by omega) (by omega)
        · rw [if_neg j3]; exact h1 i _ hi (by omega) (by omega)
      · rw [if_neg (by omega)]; exact H1 i j hi i1 (by omega) hj
  · by_cases i2 : i < e
    · rw [if_pos ⟨by omega, i2⟩]
      by_cases i3 : i < s + (e - m)
      · rw [if_pos i3]
        by_cases j2 : j < e
        · rw [if_pos ⟨by omega, j2⟩]
          by_cases j3 : j < s + (e - m)
          · rw [if_pos j3]; exact h2 _ _ (by omega) (by omega) (by omega)
          · rw [if_neg j3]; exact H2 _ _ (by omega) (by omega) (by omega) (by omega)
        · rw [if_neg (by omega)]; exact h2 _ _ (by omega) (by omega) hj
      · rw [if_neg i3]
        by_cases j2 : j < e
        · rw [if_pos ⟨by omega, j2⟩, if_neg (by omega)]; exact h1 _ _ (by omega) (by omega) (by omega)
        · rw [if_neg (by omega)]; exact H3 _ _ (by omega) (by omega) (by omega) hj
    · rw [if_neg (by omega), if_neg (by omega)]; exact h2 _ _ (by omega) hij hj
/-- What the rotation in the middle leaves: four runs, two and two to be merged, the first two ahead of the others. -/
structure RotS (f : Int → Int) (a s d e b : Nat) (l : List Int) : Prop where
  s1 : Srt (lexR f) a s l
  s2 : Srt (lexR f) s d l
  s3 : Srt (lexR f) d e l
  s4 : Srt (lexR f) e b l
  c1 : Crs a s d l
  c2 : Crs d e b l
  ah : ∀ i j, a ≤ i → i < d → d ≤ j → j < b → lexR f (l.getD i 0) (l.getD j 0)
theorem rot_four (has : a ≤ s) (hsm : s ≤ m) (hme : m ≤ e) (heb : e ≤ b) (hr : ∀ k, l'.getD k 0 = l.getD (rotI s m e k) 0) (h1 : Srt (lexR f) a m l) (h2 : Srt (lexR f) m b l) (hc : Crs a m b l)
    (H1 : ∀ i j, a ≤ i → i < s → e ≤ j → j < b → lexR f (l.getD i 0) (l.getD j 0)) (H2 : ∀ i j, s ≤ i → i < m → m ≤ j → j < e → lexR f (l.getD j 0) (l.getD i 0)) : RotS f a s (s + (e - m)) e b l' := by
  have r1 : ∀ k, k < s → l'.getD k 0 = l.getD k 0 := fun k hk => by rw [hr]; unfold rotI; rw [if_neg (by omega)]
  have r2 : ∀ k, s ≤ k → k < s + (e - m) → l'.getD k 0 = l.getD (k + (m - s)) 0 := fun k hk hk' => by rw [hr]; unfold rotI; rw [if_pos ⟨hk, by omega⟩, if_pos hk']
  have r3 : ∀ k, s + (e - m) ≤ k → k < e → l'.getD k 0 = l.getD (k - (e - m)) 0 := fun k hk hk' => by rw [hr]; unfold rotI; rw [if_pos ⟨by omega, hk'⟩, if_neg (by omega)]
  have r4 : ∀ k, e ≤ k → l'.getD k 0 = l.getD k 0 := fun k hk => by rw [hr]; unfold rotI; rw [if_neg (by omega)]
  refine ⟨fun i j i1 i2 i3 => ?_, fun i j i1 i2 i3 => ?_, fun i j i1 i2 i3 => ?_, fun i j i1 i2 i3 => ?_, fun i j i1 i2 i3 i4 => ?_, fun i j i1 i2 i3 i4 => ?_, fun i j i1 i2 i3 i4 => ?_⟩
  · rw [r1 i (by omega), r1 j i3]; exact h1 i j i1 i2 (by omega)
  · rw [r2 i i1 (by omega), r2 j (by omega) i3]; exact h2 _ _ (by omega) (by omega) (by omega)
  · rw [r3 i i1 (by omega), r3 j (by omega) i3]; exact h1 _ _ (by omega) (by omega) (by omega)
  · rw [r4 i i1, r4 j (by omega)]; exact h2 i j (by omega) i2 i3
  · rw [r1 i i2, r2 j i3 i4]; exact hc _ _ i1 (by omega) (by omega) (by omega)
  · rw [r3 i i1 i2, r4 j i3]; exact hc _ _ (by omega) (by omega) (by omega) i4
  · by_cases a1 : i < s
    · rw [r1 i a1]
      by_cases b1 : j < e
      · rw [r3 j i3 b1]; exact h1 _ _ i1 (by omega) (by omega)
      · rw [r4 j (by omega)]; exact H1 i j i1 a1 (by omega) i4
    · rw [r2 i (by omega) i2]
      by_cases b1 : j < e
      · rw [r3 j i3 b1]; exact H2 _ _ (by omega) (by omega) (by omega) (by omega)
      · rw [r4 j (by omega)]; exact h2 _ _ (by omega) (by omega) i4
/-- The first two merged, then the others. -/
theorem four_end {d : Nat} {l1 l2 l3 : List Int} (had : a ≤ d) (hdb : d ≤ b) (ah : ∀ i j, a ≤ i → i < d → d ≤ j → j < b → lexR f (l1.getD i 0) (l1.getD j 0)) (m2 : Mov a d l1 l2) (s2 : Srt (lexR f) a d l2) (m3 : Mov d b l2 l3) (s3 : Srt (lexR f) d b l3) :
    Mov a b l1 l3 ∧ Srt (lexR f) a b l3 := by
  refine ⟨(m2.wide (Nat.le_refl _) hdb).trans (m3.wide had (Nat.le_refl _)), (s2.eq fun k _ hk => m3.out k (.inl hk)).join s3 fun i j i1 i2 j1 j2 => ?_⟩
  rw [m3.out i (.inl i2)]
  obtain ⟨p, p1, p2, ep⟩ := m2.sub i i1 i2
  obtain ⟨q, q1, q2, eq⟩ := m3.sub j j1 j2
  rw [ep, eq, m2.out q (.inr q1)]
  exact ah p q p1 p2 q1 q2
/-- What the search in the middle finds. -/
theorem mid_ends {lo hi mid st : Nat} (h1 : Srt (lexR f) a m l) (h2 : Srt (lexR f) m b l) (hmid : mid = (a + b) / 2) (ham : a < m) (hmb : m < b)
    (hlo : lo = if mid < m then mid + m - b else a) (hhi : hi = if mid < m then mid else m) (hst : lo ≤ st ∧ st ≤ hi)
    (HL : st = lo ∨ lexR f (l.getD (st - 1) 0) (l.getD (mid + m - st) 0)) (HR : st = hi ∨ lexR f (l.getD (mid + m - 1 - st) 0) (l.getD st 0)) :
    a ≤ st ∧ st ≤ m ∧ m ≤ mid + m - st ∧ mid + m - st ≤ b ∧ st ≤ mid ∧ mid ≤ mid + m - st ∧ (∀ i j, a ≤ i → i < st → mid + m - st ≤ j → j < b → lexR f (l.getD i 0) (l.getD j 0)) ∧ (∀ i j, st ≤ i → i < m → m ≤ j → j < mid + m - st → lexR f (l.getD j 0) (l.getD i 0)) := by
  have hlo2 : a ≤ lo ∧ (lo = a ∨ lo = mid + m - b) ∧ mid + m - lo ≤ b := by subst hlo; split <;> omega
  have hhi2 : hi ≤ m ∧ hi ≤ mid ∧ (hi = m ∨ hi = mid) := by subst hhi; split <;> omega
  clear hlo hhi
  refine ⟨by omega, by omega, by omega, by omega, by omega, by omega, fun i j i1 i2 j1 j2 => ?_, fun i j i1 i2 j1 j2 => ?_⟩
  · rcases HL with rfl | HL
    · omega
    · have e1 : lexR f (l.getD i 0) (l.getD (mid + m - st) 0) := by
        rcases Nat.lt_or_ge i (st - 1) with c | c
        · exact lex_trans (h1 i (st - 1) i1 c (by omega)) HL
        · obtain rfl : i = st - 1 := by omega
          exact HL
      rcases Nat.lt_or_ge (mid + m - st) j with c | c
      · exact lex_trans e1 (h2 _ j (by omega) c j2)
      · obtain rfl : j = mid + m - st := by omega
        exact e1
  · rcases HR with rfl | HR
    · omega
    · have e1 : lexR f (l.getD j 0) (l.getD st 0) := by
        rcases Nat.lt_or_ge j (mid + m - 1 - st) with c | c
        · exact lex_trans (h2 j (mid + m - 1 - st) j1 c (by omega)) HR
        · obtain rfl : j = mid + m - 1 - st := by omega
          exact HR
      rcases Nat.lt_or_ge st i with c | c
      · exact lex_trans e1 (h1 st i (by omega) c i2)
      · obtain rfl : i = st := by omega
        exact e1
/-- The first run holds one number. -/
theorem one_left {i : Nat} (hm : m = a + 1) (h2 : Srt (lexR f) m b l) (hi : m ≤ i) (hib : i ≤ b) (HL : i = m ∨ lexR f (l.getD (i - 1) 0) (l.getD a 0)) (HR : i = b ∨ lexR f (l.getD a 0) (l.getD i 0)) (hr : ∀ k, l'.getD k 0 = l.getD (rotI a m i k) 0) : Srt (lexR f) a b l' := by
  subst hm
  refine srt_rot_all (Nat.le_refl _) (by omega) hi hib hr (fun p q p1 p2 p3 => by omega) h2 (fun p q p1 p2 => by omega) (fun p q p1 p2 q1 q2 => ?_) (fun p q p1 p2 q1 q2 => ?_) (fun p q p1 p2 => by omega)
  · obtain rfl : p = a := by omega
    rcases HL with rfl | HL
    · omega
    · rcases Nat.lt_or_ge q (i - 1) with c | c
      · exact lex_trans (h2 q (i - 1) q1 c (by omega)) HL
      · obtain rfl : q = i - 1 := by omega
        exact HL
  · obtain rfl : p = a := by omega
    rcases HR with rfl | HR
    · omega
    · rcases Nat.lt_or_ge i q with c | c
      · exact lex_trans HR (h2 i q hi c q2)
      · obtain rfl : q = i := by omega
        exact HR
/-- The second run holds one number. -/
theorem one_right {i : Nat} (hb : b = m + 1) (h1 : Srt (lexR f) a m l) (hi : a ≤ i) (him : i ≤ m) (HL : i = a ∨ lexR f (l.getD (i - 1) 0) (l.getD m 0)) (HR : i = m ∨ lexR f (l.getD m 0) (l.getD i 0)) (hr : ∀ k, l'.getD k 0 = l.getD (rotI i m b k) 0) : Srt (lexR f) a b l' := by
  subst hb
  refine srt_rot_all hi him (by omega) (Nat.le_refl _) hr h1 (fun p q p1 p2 p3 => by omega) (fun p q p1 p2 q1 q2 => by omega) (fun p q p1 p2 q1 q2 => ?_) (fun p q p1 p2 q1 q2 => by omega) (fun p q p1 p2 q1 q2 => ?_)
  · obtain rfl : q = m := by omega
    rcases HR with rfl | HR
    · omega
    · rcases Nat.lt_or_ge i p with c | c
      · exact lex_trans HR (h1 i p hi c p2)
      · obtain rfl : p = i := by omega
        exact HR
  · obtain rfl : q = m := by omega
    rcases HL with rfl | HL
    · omega
    · rcases Nat.lt_or_ge p (i - 1) with c | c
      · exact lex_trans (h1 p (i - 1) p1 c (by omega)) HL
      · obtain rfl : p = i - 1 := by omega
        exact HL
/-- One number more goes to the left, by changing places. -/
theorem rot_up {k : Nat} (hk : a ≤ k) (hl : k + 1 < l.length) (hr : ∀ q, l.getD q 0 = l'.getD (rotI a (a + 1) (k + 1) q) 0) : ∀ q, (swp l k (k + 1)).getD q 0 = l'.getD (rotI a (a + 1) (k + 2) q) 0 := fun q => by
  rw [swp_at q (by omega) hl]
  by_cases e1 : k + 1 = q
  · rw [if_pos e1, hr k]; congr 1; unfold rotI; (repeat' split) <;> omega
  · rw [if_neg e1]
    by_cases e2 : k = q
    · rw [if_pos e2, hr (k + 1)]; congr 1; unfold rotI; (repeat' split) <;> omega
    · rw [if_neg e2, hr q]; congr 1; unfold rotI; (repeat' split) <;> omega
theorem rot_down {k : Nat} (hk : 0 < k) (hkm : k ≤ m) (hl : m < l.length) (hr : ∀ q, l.getD q 0 = l'.getD (rotI k m (m + 1) q) 0) : ∀ q, (swp l k (k - 1)).getD q 0 = l'.getD (rotI (k - 1) m (m + 1) q) 0 := fun q => by
  rw [swp_at q (by omega) (by omega)]
  by_cases e1 : k - 1 = q
  · rw [if_pos e1, hr k]; congr 1; unfold rotI; (repeat' split) <;> omega
  · rw [if_neg e1]
    by_cases e2 : k = q
    · rw [if_pos e2, hr (k - 1)]; congr 1; unfold rotI; (repeat' split) <;> omega
    · rw [if_neg e2, hr q]; congr 1; unfold rotI; (repeat' split) <;> omega

/-- Insertion: the number of place i has come down to place j. -/
structure InsI (f : Int → Int) (a i j : Nat) (l0 l : List Int) : Prop where
  mov : Mov a (i + 1) l0 l
  x : l.getD j 0 = l0.getD i 0
  srt : ∀ p q, a ≤ p → p < q → q ≤ i → q ≠ j → lexR f (l.getD p 0) (l.getD q 0)
  small : ∀ p, a ≤ p → p ≤ i → p ≠ j → l.getD p 0 < l0.getD i 0
theorem InsI.start {i : Nat} {l0 : List Int} (hm : Mov a i l0 l) (hs : Srt (lexR f) a i l) (hasc : ∀ p, a ≤ p → p < i → l0.getD p 0 < l0.getD i 0) : InsI f a i i l0 l :=
  ⟨hm.wide (Nat.le_refl _) (by omega), hm.out i (.inr (Nat.le_refl _)), fun p q p1 p2 p3 p4 => hs p q p1 p2 (by omega), fun p p1 p2 p3 => hm.ahead (fun x => x < l0.getD i 0) hasc p p1 (by omega)⟩
theorem InsI.step {i j : Nat} {l0 : List Int} (h : InsI f a i j l0 l) (haj : a < j) (hji : j ≤ i) (hi : i < l0.length) (hlt : f (l.getD j 0) < f (l.getD (j - 1) 0)) : InsI f a i (j - 1) l0 (swp l j (j - 1)) := by
  have hl := h.mov.len
  have hat : ∀ k, (swp l j (j - 1)).getD k 0 = if j - 1 = k then l.getD j 0 else if j = k then l.getD (j - 1) 0 else l.getD k 0 := fun k => swp_at k (by omega) (by omega)
  refine ⟨h.mov.swp (by omega) (by omega) (by omega) (by omega) (by omega), ?_, fun p q p1 p2 p3 p4 => ?_, fun p p1 p2 p3 => ?_⟩
  · rw [hat, if_pos rfl]; exact h.x
  · rw [hat p, hat q, if_neg (show ¬ j - 1 = q from fun e => p4 e.symm)]
    by_cases e1 : j = q
    · rw [if_pos e1]
      by_cases e2 : j - 1 = p
      · rw [if_pos e2]; exact .inl hlt
      · rw [if_neg e2, if_neg (by omega)]; exact h.srt p (j - 1) p1 (by omega) (by omega) (by omega)
    · rw [if_neg e1]
      by_cases e2 : j - 1 = p
      · rw [if_pos e2]
        exact h.srt j q (by omega) (by omega) p3 (Ne.symm e1)
      · rw [if_neg e2]
        by_cases e3 : j = p
        · rw [if_pos e3]; exact h.srt (j - 1) q (by omega) (by omega) p3 (Ne.symm e1)
        · rw [if_neg e3]; exact h.srt p q p1 p2 p3 (Ne.symm e1)
  · rw [hat p, if_neg (Ne.symm p3)]
    by_cases e : j = p
    · rw [if_pos e]; exact h.small (j - 1) (by omega) (by omega) (by omega)
    · rw [if_neg e]; exact h.small p p1 p2 (Ne.symm e)
theorem InsI.done {i j : Nat} {l0 : List Int} (h : InsI f a i j l0 l) (hji : j ≤ i) (hs : j = a ∨ (a < j ∧ ¬ f (l.getD j 0) < f (l.getD (j - 1) 0))) : Srt (lexR f) a (i + 1) l := fun p q p1 p2 p3 => by
  by_cases e : q = j
  · subst e
    rcases hs with rfl | ⟨hs1, hs2⟩
    · omega
    · have e1 : lexR f (l.getD (q - 1) 0) (l.getD q 0) := (lex_ge (by rw [h.x]; exact h.small (q - 1) (by omega) (by omega) (by omega))).2 hs2
      rcases Nat.lt_or_ge p (q - 1) with c | c
      · exact lex_trans (h.srt p (q - 1) p1 c (by omega) (by omega)) e1
      · obtain rfl : p = q - 1 := by omega
        exact e1
  · exact h.srt p q p1 p2 (by omega) e
end
end Go.Proofs.Ytjgjgilpebeelaa
