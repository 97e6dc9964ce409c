/-
  Early (layer 19), mathematics: stored bags that count, their rank by due time and bag, the next one; insertion, taking the least away.
-/
import Derived.Test.YtbajmbegkacbbaaEarH
namespace Go.Proofs.Ytbajmbegkacbbaa

/-- A stored bag: its number and its due time. -/
abbrev Sb := Int × Int
def cntS (s : Sb) : Bool := decide (1 ≤ s.1 ∧ s.1 ≤ 40)
/-- Not later: by due time, then by bag. -/
def leS (x y : Sb) : Prop := x.2 < y.2 ∨ (x.2 = y.2 ∧ x.1 ≤ y.1)
section
variable {x y z : Sb}
theorem leS_refl (x : Sb) : leS x x := .inr ⟨rfl, Int.le_refl _⟩
theorem leS_trans (x y z : Sb) (h : leS x y) (h' : leS y z) : leS x z := by unfold leS at *; omega
theorem leS_total (h : ¬ leS x y) : leS y x := by unfold leS at *; omega
theorem leS_anti (h : leS x y) (h' : leS y x) : x = y := by
  obtain ⟨a, b⟩ := x
  obtain ⟨c, e⟩ := y
  unfold leS at h h'
  simp only [] at h h'
  rw [Prod.mk.injEq]
  omega
end
/-- The rank of a list of stored bags. -/
structure IsRk (l o : List Sb) : Prop where
  perm : o.Perm (l.filter cntS)
  asc : o.Pairwise leS
theorem IsRk.eq {l o o' : List Sb} (h : IsRk l o) (h' : IsRk l o') : o = o' :=
  List.Perm.eq_of_pairwise (le := leS) (fun _ _ _ _ a b => leS_anti a b) h.asc h'.asc (h.perm.trans h'.perm.symm)
def leB (x y : Sb) : Bool := decide (x.2 < y.2 ∨ (x.2 = y.2 ∧ x.1 ≤ y.1))
def rkL (l : List Sb) : List Sb := (l.filter cntS).mergeSort leB
theorem rk_is (l : List Sb) : IsRk l (rkL l) := by
  refine ⟨List.mergeSort_perm _ _, ?_⟩
  have h : (rkL l).Pairwise fun x y => leB x y = true := List.pairwise_mergeSort
    (fun a b c h1 h2 => by
      simp only [leB, decide_eq_true_eq] at h1 h2 ⊢
      omega)
    (fun a b => by
      simp only [leB, Bool.or_eq_true, decide_eq_true_eq]
      omega) _
  exact h.imp fun h => by
    simp only [leB, decide_eq_true_eq] at h
    exact h
theorem IsRk.rk {l o : List Sb} (h : IsRk l o) : o = rkL l := h.eq (rk_is l)
theorem rk_perm {l l' : List Sb} (h : l.Perm l') : rkL l = rkL l' := IsRk.rk ⟨(rk_is l).perm.trans (h.filter _), (rk_is l).asc⟩
/-- The bag that is next. -/
def nxtI (l : List Sb) (now : Int) : Int := match rkL l with
  | [] => 0
  | s :: _ => if s.2 ≤ now then s.1 else 0
/-- One more goes in at place k, ahead of those that are later. -/
theorem ins_rk {o : List Sb} {x : Sb} {k : Nat} (hs : o.Pairwise leS) (hk : k ≤ o.length) (hg : ∀ q, k ≤ q → q < o.length → leS x (o.getD q (0, 0))) (hst : k = 0 ∨ (0 < k ∧ leS (o.getD (k - 1) (0, 0)) x)) :
    (o.take k ++ [x] ++ o.drop k).Pairwise leS := by
  rw [List.append_assoc, List.pairwise_append]
  refine ⟨hs.sublist (List.take_sublist _ _), ?_, fun a ha y hy => ?_⟩
  · rw [List.singleton_append, List.pairwise_cons]
    refine ⟨fun y hy => ?_, hs.sublist (List.drop_sublist _ _)⟩
    obtain ⟨q, hq, rfl⟩ := List.getElem_of_mem hy
    rw [List.length_drop] at hq
    have := hg (k + q) (by omega) (by omega)
    rw [at_k (by omega)] at this
    rw [List.getElem_drop]
    exact this
  · rw [List.singleton_append, List.mem_cons] at hy
    rw [List.mem_take_iff_getElem] at ha
    obtain ⟨p, hp', rfl⟩ := ha
    have hxi : leS (o[p]) x := by
      rcases hst with rfl | ⟨h0, h1⟩
      · omega
      · rw [at_k (by omega)] at h1
        rcases Nat.lt_or_ge p (k - 1) with c | c
        · exact leS_trans _ _ _ (List.pairwise_iff_getElem.1 hs p (k - 1) (by omega) (by omega) c) h1
        · obtain rfl : p = k - 1 := by omega
          exact h1
    rcases hy with rfl | hy
    · exact hxi
    · obtain ⟨q, hq, rfl⟩ := List.getElem_of_mem hy
      rw [List.length_drop] at hq
      rw [List.getElem_drop]
      exact List.pairwise_iff_getElem.1 hs p (k + q) (by omega) (by omega) (by omega)
theorem ins_permS {α : Type} {o : List α} {x : α} {k : Nat} : (o.take k ++ [x] ++ o.drop k).Perm (x :: o) := by
  rw [List.append_assoc]
  refine (List.perm_middle (a := x) (l₁ := o.take k) (l₂ := o.drop k)).trans ?_
  rw [List.take_append_drop]
/-- The first k of a list, sorted by insertion, those left out that do not count. -/
theorem rk_snoc_yes {l : List Sb} {k : Nat} {o o' : List Sb} (hk : k < l.length) (h : IsRk (l.take k) o) (hc : cntS (l.getD k (0, 0)) = true) (hp : o'.Perm (l.getD k (0, 0) :: o)) (ha : o'.Pairwise leS) : IsRk (l.take (k + 1)) o' := by
  refine ⟨hp.trans ?_, ha⟩
  rw [List.take_succ_eq_append_getElem hk, List.filter_append, ← at_k (d := (0, 0)) hk, List.filter_cons_of_pos (by exact hc), List.filter_nil]
  exact (h.perm.cons _).trans (List.perm_append_comm (l₁ := [_]))
theorem rk_snoc_no {l : List Sb} {k : Nat} {o : List Sb} (hk : k < l.length) (h : IsRk (l.take k) o) (hc : cntS (l.getD k (0, 0)) = false) : IsRk (l.take (k + 1)) o := by
  refine ⟨?_, h.asc⟩
  rw [List.take_succ_eq_append_getElem hk, List.filter_append, ← at_k (d := (0, 0)) hk, List.filter_cons_of_neg (by rw [hc]; decide), List.filter_nil, List.append_nil]
  exact h.perm
/-- What is taken from a heap one after another: sorted, and ahead of all that is left. -/
theorem pop_rk {P H H' : List Sb} {x : Sb} (hP : P.Pairwise leS) (hA : ∀ p ∈ P, ∀ h ∈ H, leS p h) (hH : H.Perm (x :: H')) (hx : ∀ h ∈ H, leS x h) : (P ++ [x]).Pairwise leS ∧ (∀ p ∈ P ++ [x], ∀ h ∈ H', leS p h) ∧ (P ++ [x] ++ H').Perm (P ++ H) := by
  have hxm : x ∈ H := hH.mem_iff.2 (by simp)
  have hsub : ∀ h ∈ H', h ∈ H := fun h hh => hH.mem_iff.2 (by simp [hh])
  refine ⟨?_, fun p hp h hh => ?_, ?_⟩
  · rw [List.pairwise_append]
    exact ⟨hP, List.pairwise_singleton _ _, fun a ha b hb => by rw [List.mem_singleton.1 hb]; exact hA a ha x hxm⟩
  · rcases List.mem_append.1 hp with h1 | h1
    · exact hA p h1 h (hsub h hh)
    · rw [List.mem_singleton.1 h1]; exact hx h (hsub h hh)
  · rw [List.append_assoc]
    exact List.Perm.append_left _ (by simpa using hH.symm)
/-- The least one taken away: the rest of the rank. -/
theorem rk_tail {l l' : List Sb} {s : Sb} {r : List Sb} (h : rkL l = s :: r) (hp : l.Perm (s :: l')) : rkL l' = r := by
  have hr := rk_is l
  rw [h] at hr
  have hc : cntS s = true := by
    have : s ∈ l.filter cntS := hr.perm.mem_iff.1 (by simp)
    exact (List.mem_filter.1 this).2
  refine (IsRk.rk ⟨?_, (List.pairwise_cons.1 hr.asc).2⟩).symm
  have h2 := hr.perm.trans (hp.filter cntS)
  rw [List.filter_cons_of_pos hc] at h2
  exact h2.cons_inv
theorem rk_head {l : List Sb} {s : Sb} {r : List Sb} (h : rkL l = s :: r) : s ∈ l ∧ cntS s = true ∧ ∀ x ∈ l, cntS x = true → leS s x := by
  have hr := rk_is l
  rw [h] at hr
  have hm : s ∈ l.filter cntS := hr.perm.mem_iff.1 (by simp)
  refine ⟨(List.mem_filter.1 hm).1, (List.mem_filter.1 hm).2, fun x hx hc => ?_⟩
  have : x ∈ s :: r := hr.perm.mem_iff.2 (List.mem_filter.2 ⟨hx, hc⟩)
  rcases List.mem_cons.1 this with rfl | h1
  · exact leS_refl _
  · exact (List.pairwise_cons.1 hr.asc).1 x h1
theorem rk_len {l : List Sb} (h : ∀ x ∈ l, cntS x = true) : (rkL l).length = l.length := by
  rw [(rk_is l).perm.length_eq, List.filter_eq_self.2 h]
/-- Whether a bag is held. -/
def timS (x : Int) : Bool := decide (0 ≤ x ∧ x ≤ 1048576)
def hldB (now open_ dist marg : Int) : Bool := timS now && (timS open_ && (timS dist && (timS marg && decide (now + dist + marg < open_))))
end Go.Proofs.Ytbajmbegkacbbaa
