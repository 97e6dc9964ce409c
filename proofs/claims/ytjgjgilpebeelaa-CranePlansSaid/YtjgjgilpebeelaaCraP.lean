/-
  Crane (layer 18), mathematics: jobs, costs, orders, the order by due times, finish times, the first late job; no order is better than that by due times.
-/
import Derived.Test.YtjgjgilpebeelaaCraN
namespace Go.Proofs.Ytjgjgilpebeelaa

/-- A job: its position and its due time. -/
abbrev Jb := Int × Int
def dueJ (jobs : List Jb) (i : Int) : Int := (jobs.getD i.toNat (0, 0)).2
def posJ (jobs : List Jb) (i : Int) : Int := (jobs.getD i.toNat (0, 0)).1
def posB (p : Int) : Bool := decide (0 ≤ p ∧ p ≤ 99)
def timB (x : Int) : Bool := decide (0 ≤ x ∧ x ≤ 1048576)
def cstI (p : Int) : Int := if 0 ≤ p ∧ p ≤ 99 then 2 * p + 2 else -1
def cstJ (jobs : List Jb) (i : Int) : Int := cstI (posJ jobs i)
def badJ (s : Jb) : Bool := !posB s.1 || !timB s.2
def valJ (now : Int) (jobs : List Jb) : Int := if 200 < jobs.length then 2 else if timB now = false ∨ jobs.any badJ = true then 1 else 0
structure ValJ (now : Int) (jobs : List Jb) : Prop where
  len : jobs.length ≤ 200
  now : 0 ≤ now ∧ now ≤ 1048576
  ok : ∀ s ∈ jobs, (0 ≤ s.1 ∧ s.1 ≤ 99) ∧ (0 ≤ s.2 ∧ s.2 ≤ 1048576)
theorem valJ_iff {now : Int} {jobs : List Jb} : valJ now jobs = 0 ↔ ValJ now jobs := by
  unfold valJ
  constructor
  · intro h
    split at h
    · cases h
    · rename_i h1
      split at h
      · cases h
      · rename_i h2
        rw [not_or] at h2
        obtain ⟨h2, h3⟩ := h2
        have h2 : 0 ≤ now ∧ now ≤ 1048576 := by unfold timB at h2; simpa using h2
        refine ⟨by omega, h2, fun s hs => ?_⟩
        rw [List.any_eq_true] at h3
        have : ¬ badJ s = true := fun hb => h3 ⟨s, hs, hb⟩
        unfold badJ posB timB at this
        simpa [not_or] using this
  · intro h
    rw [if_neg (by have := h.len; omega), if_neg]
    rw [not_or]
    refine ⟨by unfold timB; simpa using h.now, fun hb => ?_⟩
    rw [List.any_eq_true] at hb
    obtain ⟨s, hs, hb⟩ := hb
    have := h.ok s hs
    unfold badJ posB timB at hb
    simp [this] at hb
section
variable {now : Int} {jobs : List Jb}
theorem ValJ.pos (h : ValJ now jobs) (i : Int) : 0 ≤ posJ jobs i ∧ posJ jobs i ≤ 99 := by
  unfold posJ
  rcases Nat.lt_or_ge i.toNat jobs.length with c | c
  · rw [at_k c]; exact (h.ok _ (List.getElem_mem _)).1
  · rw [List.getD_eq_getElem?_getD, List.getElem?_eq_none c]; exact ⟨Int.le_refl _, by decide⟩
theorem ValJ.due (h : ValJ now jobs) (i : Int) : 0 ≤ dueJ jobs i ∧ dueJ jobs i ≤ 1048576 := by
  unfold dueJ
  rcases Nat.lt_or_ge i.toNat jobs.length with c | c
  · rw [at_k c]; exact (h.ok _ (List.getElem_mem _)).2
  · rw [List.getD_eq_getElem?_getD, List.getElem?_eq_none c]; exact ⟨Int.le_refl _, by decide⟩
theorem ValJ.cst (h : ValJ now jobs) (i : Int) : 2 ≤ cstJ jobs i ∧ cstJ jobs i ≤ 200 := by
  have := h.pos i
  unfold cstJ cstI
  rw [if_pos this]; omega
end
/-- The numbers 0 to n - 1. -/
def upI (n : Nat) : List Int := (List.range n).map Int.ofNat
theorem upI_len (n : Nat) : (upI n).length = n := by unfold upI; rw [List.length_map, List.length_range]
theorem upI_at {n k : Nat} (h : k < n) : (upI n).getD k 0 = (k : Int) := by
  rw [at_k (by rw [upI_len]; exact h)]; unfold upI; rw [List.getElem_map, List.getElem_range]; rfl
theorem upI_mem {n : Nat} {x : Int} : x ∈ upI n ↔ 0 ≤ x ∧ x < (n : Int) := by
  unfold upI
  rw [List.mem_map]
  constructor
  · rintro ⟨k, hk, rfl⟩
    rw [List.mem_range] at hk
    exact ⟨Int.natCast_nonneg k, by show (k : Int) < n; omega⟩
  · rintro ⟨h1, h2⟩
    exact ⟨x.toNat, by rw [List.mem_range]; omega, by show ((x.toNat : Nat) : Int) = x; omega⟩
theorem upI_nodup (n : Nat) : (upI n).Nodup := by
  unfold upI List.Nodup
  rw [List.pairwise_map]
  exact List.Pairwise.imp (fun h e => h (by injection e)) List.nodup_range
/-- The order by due times. -/
structure IsBy (jobs : List Jb) (o : List Int) : Prop where
  perm : o.Perm (upI jobs.length)
  asc : o.Pairwise (lexR (dueJ jobs))
section
variable {jobs : List Jb} {o o' : List Int}
theorem IsBy.len (h : IsBy jobs o) : o.length = jobs.length := by rw [h.perm.length_eq, upI_len]
theorem IsBy.mem (h : IsBy jobs o) {x : Int} : x ∈ o ↔ 0 ≤ x ∧ x < (jobs.length : Int) := by rw [h.perm.mem_iff, upI_mem]
theorem IsBy.eq (h : IsBy jobs o) (h' : IsBy jobs o') : o = o' :=
  List.Perm.eq_of_pairwise (le := lexR (dueJ jobs)) (fun _ _ _ _ a b => (lex_asym a b).elim) h.asc h'.asc (h.perm.trans h'.perm.symm)
noncomputable def ordJ (jobs : List Jb) : List Int := by
  classical
  exact if h : ∃ o, IsBy jobs o then Classical.choose h else []
theorem IsBy.ord (h : IsBy jobs o) : o = ordJ jobs := by
  unfold ordJ
  rw [dif_pos ⟨o, h⟩]
  exact h.eq (Classical.choose_spec (⟨o, h⟩ : ∃ o, IsBy jobs o))
theorem isBy_srt (hp : o.Perm (upI jobs.length)) (hs : Srt (lexR (dueJ jobs)) 0 o.length o) : IsBy jobs o := by
  refine ⟨hp, List.pairwise_iff_getElem.2 fun i j hi hj hij => ?_⟩
  have := hs i j (Nat.zero_le _) hij hj
  rwa [at_k hi, at_k hj] at this
theorem IsBy.far (h : IsBy jobs o) {i j : Nat} (hij : i < j) (hj : j < o.length) : lexR (dueJ jobs) (o.getD i 0) (o.getD j 0) := by
  rw [at_k (by omega), at_k hj]; exact List.pairwise_iff_getElem.1 h.asc i j (by omega) hj hij
end
/-- When the first k jobs of an order are finished. -/
def endK (now : Int) (jobs : List Jb) (o : List Int) : Nat → Int
  | 0 => now
  | k + 1 => endK now jobs o k + cstJ jobs (o.getD k 0)
def finJ (now : Int) (jobs : List Jb) (o : List Int) : List Int := (List.range o.length).map fun k => endK now jobs o (k + 1)
theorem finJ_len (now : Int) (jobs : List Jb) (o : List Int) : (finJ now jobs o).length = o.length := by unfold finJ; rw [List.length_map, List.length_range]
theorem finJ_at {now : Int} {jobs : List Jb} {o : List Int} {k : Nat} (h : k < o.length) : (finJ now jobs o).getD k 0 = endK now jobs o (k + 1) := by
  rw [at_k (by rw [finJ_len]; exact h)]; unfold finJ; rw [List.getElem_map, List.getElem_range]
theorem endK_low {now : Int} {jobs : List Jb} (hv : ValJ now jobs) (o : List Int) : ∀ k : Nat, 0 ≤ endK now jobs o k ∧ endK now jobs o k ≤ 1048576 + 200 * (k : Int)
  | 0 => by have := hv.now; unfold endK; omega
  | k + 1 => by have := hv.cst (o.getD k 0); have := endK_low hv o k; unfold endK; omega
/-- The job at a place is late. -/
def latB (now : Int) (jobs : List Jb) (o : List Int) (k : Nat) : Bool := decide (dueJ jobs (o.getD k 0) < endK now jobs o (k + 1))
/-- The place of the first late job, or the number of jobs. -/
def latN (now : Int) (jobs : List Jb) (o : List Int) : Nat := ((List.range o.length).takeWhile fun k => !latB now jobs o k).length
theorem range_at {n k : Nat} (h : k < n) : (List.range n).getD k 0 = k := by rw [at_k (by rw [List.length_range]; exact h), List.getElem_range]
theorem tw_stop {α : Type} {p : α → Bool} {d : α} : ∀ {l : List α} {k : Nat}, k < l.length → (∀ j, j < k → p (l.getD j d) = false) → p (l.getD k d) = true → (l.takeWhile fun x => !p x).length = k
  | [], k, h, _, _ => absurd h (Nat.not_lt_zero _)
  | x :: l, 0, _, _, h => by rw [List.takeWhile_cons_of_neg (by simpa using h)]; rfl
  | x :: l, k + 1, hk, hj, h => by
    rw [List.takeWhile_cons_of_pos (by have := hj 0 (by omega); simpa using this), List.length_cons, tw_stop (l := l) (k := k) (d := d) (by simpa using hk) (fun j hj' => hj (j + 1) (by omega)) h]
theorem tw_over {α : Type} {p : α → Bool} {d : α} : ∀ {l : List α}, (∀ j, j < l.length → p (l.getD j d) = false) → (l.takeWhile fun x => !p x).length = l.length
  | [], _ => rfl
  | x :: l, h => by
    rw [List.takeWhile_cons_of_pos (by have := h 0 (by simp); simpa using this), List.length_cons, tw_over (l := l) (d := d) (fun j hj => h (j + 1) (by simpa using hj)), List.length_cons]
section
variable {now : Int} {jobs : List Jb} {o : List Int}
theorem latN_at {k : Nat} (hk : k < o.length) (hj : ∀ j, j < k → latB now jobs o j = false) (h : latB now jobs o k = true) : latN now jobs o = k :=
  tw_stop (d := 0) (by rw [List.length_range]; exact hk) (fun j hj' => by rw [range_at (by omega)]; exact hj j hj') (by rw [range_at hk]; exact h)
theorem latN_end (h : ∀ j, j < o.length → latB now jobs o j = false) : latN now jobs o = o.length := by
  have := tw_over (p := latB now jobs o) (d := 0) (l := List.range o.length) (fun j hj => by rw [List.length_range] at hj; rw [range_at hj]; exact h j hj)
  rwa [List.length_range] at this
theorem latN_cases (now : Int) (jobs : List Jb) (o : List Int) : (∃ k, k < o.length ∧ (∀ j, j < k → latB now jobs o j = false) ∧ latB now jobs o k = true ∧ latN now jobs o = k) ∨ ((∀ j, j < o.length → latB now jobs o j = false) ∧ latN now jobs o = o.length) := by
  have key : ∀ n, n ≤ o.length → (∃ k, k < n ∧ (∀ j, j < k → latB now jobs o j = false) ∧ latB now jobs o k = true) ∨ (∀ j, j < n → latB now jobs o j = false) := fun n => by
    induction n with
    | zero => intro _; exact .inr fun j hj => absurd hj (Nat.not_lt_zero _)
    | succ n ih =>
      intro hn
      rcases ih (by omega) with ⟨k, h1, h2, h3⟩ | h
      · exact .inl ⟨k, by omega, h2, h3⟩
      · cases hb : latB now jobs o n with
        | true => exact .inl ⟨n, by omega, h, hb⟩
        | false =>
          refine .inr fun j hj => ?_
          rcases Nat.lt_or_ge j n with c | c
          · exact h j c
          · obtain rfl : j = n := by omega
            exact hb
  rcases key o.length (Nat.le_refl _) with ⟨k, h1, h2, h3⟩ | h
  · exact .inl ⟨k, h1, h2, h3, latN_at h1 h2 h3⟩
  · exact .inr ⟨h, latN_end h⟩
theorem latN_ok : latN now jobs o = o.length ↔ ∀ j, j < o.length → latB now jobs o j = false := by
  rcases latN_cases now jobs o with ⟨k, h1, _, h3, h4⟩ | ⟨h, he⟩
  · exact ⟨fun e => by omega, fun h => by rw [h k h1] at h3; cases h3⟩
  · exact ⟨fun _ => h, fun _ => he⟩
theorem latN_le : latN now jobs o ≤ o.length := by
  rcases latN_cases now jobs o with ⟨k, h1, _, _, h4⟩ | ⟨_, he⟩
  · omega
  · omega
end
/-- A list that contains each number from 0 to n - 1 once. -/
def isOrd (n : Nat) (o : List Int) : Bool := decide (o.length = n ∧ (∀ x ∈ o, 0 ≤ x ∧ x < (n : Int)) ∧ o.Nodup)
theorem IsBy.ordb {jobs : List Jb} {o : List Int} (h : IsBy jobs o) : isOrd jobs.length o = true := by
  unfold isOrd
  rw [decide_eq_true_eq]
  exact ⟨h.len, fun x hx => h.mem.1 hx, h.perm.symm.nodup (upI_nodup _)⟩
noncomputable def planE (now : Int) (jobs : List Jb) : Int := if valJ now jobs ≠ 0 then valJ now jobs else if latN now jobs (ordJ jobs) < (ordJ jobs).length then 12 else 0
noncomputable def planL (now : Int) (jobs : List Jb) : List Int := if planE now jobs = 0 then ordJ jobs else []
def chkE (now : Int) (jobs : List Jb) (o : List Int) : Int := if valJ now jobs ≠ 0 then valJ now jobs else if isOrd jobs.length o = false then 9 else if latN now jobs o < o.length then 12 else 0
noncomputable def ovL (now : Int) (jobs : List Jb) : List Int := if valJ now jobs ≠ 0 then [] else if latN now jobs (ordJ jobs) < (ordJ jobs).length then (ordJ jobs).take (latN now jobs (ordJ jobs) + 1) else []
def finL (now : Int) (jobs : List Jb) (o : List Int) : List Int := if valJ now jobs = 0 ∧ isOrd jobs.length o = true then finJ now jobs o else []

/-- Costs added up. -/
def sumC (c : Int → Int) : List Int → Int
  | [] => 0
  | x :: l => c x + sumC c l
theorem sumC_perm {c : Int → Int} {l l' : List Int} (h : l.Perm l') : sumC c l = sumC c l' := by
  induction h with
  | nil => rfl
  | cons x _ ih => unfold sumC; rw [ih]
  | swap x y l => simp only [sumC]; omega
  | trans _ _ h1 h2 => rw [h1, h2]
theorem sumC_nonneg {c : Int → Int} (hc : ∀ x, 0 ≤ c x) : ∀ l : List Int, 0 ≤ sumC c l
  | [] => Int.le_refl _
  | x :: l => by have := hc x; have := sumC_nonneg hc l; unfold sumC; omega
theorem sumC_sub {c : Int → Int} (hc : ∀ x, 0 ≤ c x) : ∀ {S L : List Int}, S.Nodup → (∀ x ∈ S, x ∈ L) → sumC c S ≤ sumC c L
  | [], L, _, _ => sumC_nonneg hc L
  | x :: S, L, hn, hs => by
    obtain ⟨h1, h2⟩ := List.nodup_cons.1 hn
    have hx := hs x (by simp)
    rw [sumC_perm (List.perm_cons_erase hx)]
    have := sumC_sub hc (S := S) (L := L.erase x) h2 (fun y hy => (List.mem_erase_of_ne (fun e => h1 (by rw [← e]; exact hy))).2 (hs y (by simp [hy])))
    unfold sumC; omega
theorem sumC_snoc {c : Int → Int} {x : Int} : ∀ l : List Int, sumC c (l ++ [x]) = sumC c l + c x
  | [] => by simp [sumC]
  | y :: l => by rw [List.cons_append]; unfold sumC; rw [sumC_snoc l]; omega
theorem endK_sum {now : Int} {jobs : List Jb} {o : List Int} : ∀ k : Nat, k ≤ o.length → endK now jobs o k = now + sumC (cstJ jobs) (o.take k)
  | 0, _ => by simp [endK, sumC]
  | k + 1, h => by
    rw [List.take_succ_eq_append_getElem (by omega), sumC_snoc, endK, endK_sum k (by omega), at_k (by omega)]; omega
/-- If a job is late in the order by due times, one is late in every order. -/
theorem best {now : Int} {jobs : List Jb} {o p : List Int} (hv : ValJ now jobs) (ho : IsBy jobs o) (hp : isOrd jobs.length p = true) (h : latN now jobs p = p.length) : latN now jobs o = o.length := by
  rw [latN_ok] at h ⊢
  intro k hk
  cases hb : latB now jobs o k with
  | false => rfl
  | true =>
    exfalso
    unfold isOrd at hp
    rw [decide_eq_true_eq] at hp
    obtain ⟨p1, p2, p3⟩ := hp
    have hnd : o.Nodup := ho.perm.symm.nodup (upI_nodup _)
    have hol := ho.len
    have late : dueJ jobs (o.getD k 0) < now + sumC (cstJ jobs) (o.take (k + 1)) := by
      unfold latB at hb
      rw [decide_eq_true_eq, endK_sum _ (by omega)] at hb
      exact hb
    -- the last place in p of one of the first k + 1 jobs
    have key : ∀ n, n ≤ p.length → (∀ x ∈ o.take (k + 1), x ∈ p.take n) → 0 < n → ∃ q, q < n ∧ p.getD q 0 ∈ o.take (k + 1) ∧ ∀ x ∈ o.take (k + 1), x ∈ p.take (q + 1) := fun n => by
      induction n with
      | zero => intro _ _ h0; omega
      | succ n ih =>
        intro hn hs _
        by_cases hm : p.getD n 0 ∈ o.take (k + 1)
        · exact ⟨n, by omega, hm, hs⟩
        · have hs' : ∀ x ∈ o.take (k + 1), x ∈ p.take n := fun x hx => by
            have := hs x hx
            rw [List.take_succ_eq_append_getElem (by omega), List.mem_append, List.mem_singleton] at this
            rcases this with h1 | h1
            · exact h1
            · rw [at_k (by omega), ← h1] at hm; exact absurd hx hm
          rcases Nat.eq_zero_or_pos n with h0 | h0
          · subst h0
            have : o.getD 0 0 ∈ o.take (k + 1) := by
              rw [at_k (by omega), List.mem_take_iff_getElem]; exact ⟨0, by omega, rfl⟩
            have := hs' _ this
            simp at this
          · obtain ⟨q, q1, q2, q3⟩ := ih (by omega) hs' h0
            exact ⟨q, by omega, q2, q3⟩
    have hall : ∀ x ∈ o.take (k + 1), x ∈ p.take p.length := fun x hx => by
      rw [List.take_length]
      have hx2 := ho.mem.1 (List.mem_of_mem_take hx)
      apply Classical.byContradiction
      intro hc
      -- p and x together are more numbers than there are
      have hsub : sumC (fun _ => 1) (x :: p) ≤ sumC (fun _ => 1) (upI jobs.length) := sumC_sub (fun _ => by decide) (List.nodup_cons.2 ⟨hc, p3⟩) (fun y hy => by
        rw [upI_mem]
        rcases List.mem_cons.1 hy with rfl | hy
        · exact hx2
        · exact p2 y hy)
      have one : ∀ l : List Int, sumC (fun _ => 1) l = (l.length : Int) := fun l => by
        induction l with
        | nil => rfl
        | cons y l ih => unfold sumC; rw [ih, List.length_cons]; omega
      rw [one, one, upI_len, List.length_cons] at hsub
      omega
    obtain ⟨q, q1, q2, q3⟩ := key p.length (Nat.le_refl _) hall (by omega)
    have hl := h q q1
    unfold latB at hl
    rw [decide_eq_false_iff_not, endK_sum _ (by omega)] at hl
    have hsum := sumC_sub (c := cstJ jobs) (fun x => by have := hv.cst x; omega) (hnd.sublist (List.take_sublist _ _)) q3
    have hdue : dueJ jobs (p.getD q 0) ≤ dueJ jobs (o.getD k 0) := by
      rw [List.mem_take_iff_getElem] at q2
      obtain ⟨i, hi, e⟩ := q2
      have hi1 : i < o.length := by omega
      rw [← e, ← at_k (d := 0) hi1]
      rcases Nat.lt_or_ge i k with c | c
      · have := ho.far c hk; unfold lexR at this; omega
      · obtain rfl : i = k := by omega
        exact Int.le_refl _
    omega
end Go.Proofs.Ytjgjgilpebeelaa
