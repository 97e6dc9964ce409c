/-
  The order of the nodes: what stands where; plain mathematics.
-/
import Derived.Test.YtmonjjffbmccjaaGreatDoorLayM
namespace Go.Proofs.YtmonjjffbmccjaaGreatDoor

theorem ordG_split {l : List Nd} : ∀ (f : Nat) (out : List Nat), ∃ r, ordG l f out = out ++ r ∧ ∀ j, (h : j < r.length) → nextO l (out ++ r.take j) = some r[j]
  | 0, out => ⟨[], by simp [ordG], fun j h => absurd h (Nat.not_lt_zero _)⟩
  | f + 1, out => by
    cases hn : nextO l out with
    | none => exact ⟨[], by rw [ordG_stop hn]; simp, fun j h => absurd h (Nat.not_lt_zero _)⟩
    | some i =>
      obtain ⟨r, h1, h2⟩ := ordG_split f (out ++ [i])
      refine ⟨i :: r, by rw [ordG_go hn, h1]; simp, fun j hj => ?_⟩
      cases j with
      | zero => simpa using hn
      | succ j =>
        have := h2 j (by simpa using hj)
        rw [List.append_assoc] at this
        simpa using this
theorem ordN_next {l : List Nd} {i : Nat} (h : i < (ordN l).length) : nextO l ((ordN l).take i) = some (ordN l)[i] := by
  obtain ⟨r, h1, h2⟩ := ordG_split (l := l) l.length []
  have e : ordN l = r := by unfold ordN; rw [h1]; rfl
  have := h2 i (by rw [← e]; exact h)
  simp only [List.nil_append] at this
  simp only [e]
  exact this
theorem ordN_pre (l : List Nd) : ∀ i, i ≤ (ordN l).length → Ord l ((ordN l).take i)
  | 0, _ => by rw [List.take_zero]; exact Ord.nil l
  | i + 1, h => by
    rw [List.take_succ_eq_append_getElem (by omega)]
    exact (ordN_pre l i (by omega)).snoc (ordN_next (by omega))
/-- What the statement asks of an order. -/
structure OrdS (l : List Nd) (o : List Nat) : Prop where
  len : o.length = l.length
  lt : ∀ i, i < o.length → o.getD i 0 < l.length
  dif : ∀ i j, i < j → j < o.length → o.getD i 0 ≠ o.getD j 0
  pos : ∀ a b, a < o.length → b < o.length → leadB l (o.getD a 0) (o.getD b 0) = true → a < b
  wait : ∀ i k, i < k → k < o.length → o.getD k 0 < o.getD i 0 → ∃ j, i ≤ j ∧ j < k ∧ leadB l (o.getD j 0) (o.getD k 0) = true
theorem mem_take_at {o : List Nat} {k x : Nat} (h : x ∈ o.take k) : ∃ j, j < k ∧ j < o.length ∧ o.getD j 0 = x := by
  obtain ⟨j, hj, e⟩ := List.getElem_of_mem h
  rw [List.length_take] at hj
  exact ⟨j, by omega, by omega, by rw [at_k (by omega), ← e, List.getElem_take]⟩
theorem at_take {o : List Nat} {k : Nat} (h : k < o.length) : o.getD k 0 ∈ o.take (k + 1) := by
  rw [at_k h]; exact List.mem_take_iff_getElem.2 ⟨k, by omega, rfl⟩
theorem ord_s {l : List Nd} (h : (ordN l).length = l.length) : OrdS l (ordN l) := by
  have hO := ordN_ord l
  have hlt : ∀ i, i < (ordN l).length → (ordN l).getD i 0 < l.length := fun i hi => by
    rw [at_k hi]; exact hO.lt _ (List.getElem_mem _)
  have hdif : ∀ i j, i < j → j < (ordN l).length → (ordN l).getD i 0 ≠ (ordN l).getD j 0 := fun i j hij hj => by
    rw [at_k hj, at_k (by omega)]
    exact (List.pairwise_iff_getElem.1 hO.nodup) i j (by omega) hj hij
  have uniq : ∀ i j, i < (ordN l).length → j < (ordN l).length → (ordN l).getD i 0 = (ordN l).getD j 0 → i = j := fun i j hi hj e => by
    rcases Nat.lt_trichotomy i j with h | h | h
    · exact absurd e (hdif i j h hj)
    · exact h
    · exact absurd e.symm (hdif j i h hi)
  have hne : ∀ a b, leadB l a b = true → a ≠ b := fun a b hl => by
    unfold leadB at hl
    rw [Bool.and_eq_true, decide_eq_true_eq] at hl
    exact hl.1
  refine ⟨h, hlt, hdif, fun a b ha hb hl => ?_, fun i k hik hk hlt' => ?_⟩
  · have h1 := (ordN_pre l (b + 1) (by omega)).shut ((ordN l).getD b 0) (at_take hb) ((ordN l).getD a 0) (hlt a ha) hl
    obtain ⟨j, hj, hj2, e⟩ := mem_take_at h1
    have := uniq j a hj2 ha e
    have := hne _ _ hl
    rcases Nat.lt_or_ge a b with h2 | h2
    · exact h2
    · obtain rfl : a = b := by omega
      exact absurd rfl this
  · have hi : i < (ordN l).length := by omega
    have h1 := (nextO_some (ordN_next hi)).2.2.2 ((ordN l).getD k 0) (by rw [at_k hi] at hlt'; exact hlt')
    have hn : ((ordN l).take i).contains ((ordN l).getD k 0) = false := by
      cases hc : ((ordN l).take i).contains ((ordN l).getD k 0) with
      | false => rfl
      | true =>
        obtain ⟨j, hj, hj2, e⟩ := mem_take_at (List.contains_iff_mem.1 hc)
        have := uniq j k hj2 hk e
        omega
    unfold wtF at h1
    rw [if_pos ⟨hlt k hk, hn⟩] at h1
    have h2 : cntM l ((ordN l).take i) l.length ((ordN l).getD k 0) ≠ 0 := fun e => h1 (by rw [e]; rfl)
    unfold cntM at h2
    obtain ⟨m, hm⟩ := List.exists_mem_of_length_pos (Nat.pos_of_ne_zero h2)
    obtain ⟨hm1, hm2⟩ := List.mem_filter.1 hm
    rw [Bool.and_eq_true] at hm2
    have hml : m < l.length := by simpa using hm1
    have h3 := (ordN_pre l (k + 1) (by omega)).shut ((ordN l).getD k 0) (at_take hk) m hml hm2.1
    obtain ⟨j, hj, hj2, e⟩ := mem_take_at h3
    have hjk : j ≠ k := fun e2 => by
      subst e2
      exact hne _ _ hm2.1 e.symm
    refine ⟨j, ?_, by omega, by rw [e]; exact hm2.1⟩
    rcases Nat.lt_or_ge j i with h4 | h4
    · exfalso
      have : m ∈ (ordN l).take i := by
        rw [← e, at_k hj2]
        exact List.mem_take_iff_getElem.2 ⟨j, by omega, rfl⟩
      rw [List.contains_iff_mem.2 this] at hm2
      exact Bool.noConfusion hm2.2
    · exact h4
end Go.Proofs.YtmonjjffbmccjaaGreatDoor
