/-
  Lanes (layer 17): mathematics of LanesKeeps: what a store holds, room, taking what stands before.
-/
import Derived.Test.YtmmhchhekmcihaaLanQ
namespace Go.Proofs.Ytmmhchhekmcihaa

theorem has_iff {l : List Bg} {v : Int} : hasB l v = true ↔ ∃ s ∈ l, s.1 = v := by
  rw [hasB, List.any_eq_true]
  exact ⟨fun ⟨s, h, e⟩ => ⟨s, h, by simpa using e⟩, fun ⟨s, h, e⟩ => ⟨s, h, by simpa using e⟩⟩
theorem tw_spec {α : Type} {p : α → Bool} {d : α} : ∀ {l : List α}, (∀ j, j < (l.takeWhile p).length → p (l.getD j d) = true) ∧ ((l.takeWhile p).length < l.length → p (l.getD (l.takeWhile p).length d) = false) ∧ (l.takeWhile p).length ≤ l.length
  | [] => ⟨fun j hj => absurd hj (Nat.not_lt_zero _), fun h => absurd h (Nat.not_lt_zero _), Nat.le_refl _⟩
  | a :: l => by
    by_cases h : p a = true
    · obtain ⟨h1, h2, h3⟩ := tw_spec (p := p) (d := d) (l := l)
      rw [List.takeWhile_cons_of_pos h]
      refine ⟨fun j hj => ?_, fun hl => ?_, Nat.succ_le_succ h3⟩
      · cases j with
        | zero => exact h
        | succ j => exact h1 j (Nat.lt_of_succ_lt_succ hj)
      · exact h2 (Nat.lt_of_succ_lt_succ hl)
    · rw [List.takeWhile_cons_of_neg h]
      exact ⟨fun j hj => absurd hj (Nat.not_lt_zero _), fun _ => by simpa using h, Nat.zero_le _⟩
theorem mem_at {L : List (List Bg)} {f : Nat} (h : f < L.length) : L.getD f [] ∈ L := by
  rw [List.getD_eq_getElem?_getD, List.getElem?_eq_getElem h]; exact List.getElem_mem h
/-- The bag's lane. -/
theorem find_spec {L : List (List Bg)} {v : Int} : (findS L v < L.length ↔ ∃ l ∈ L, hasB l v = true) ∧ (findS L v < L.length → hasB (L.getD (findS L v) []) v = true) := by
  obtain ⟨h1, h2, h3⟩ := tw_spec (p := fun l => !hasB l v) (d := ([] : List Bg)) (l := L)
  have h4 : findS L v < L.length → hasB (L.getD (findS L v) []) v = true := fun h => by
    have h5 : (!hasB (L.getD (findS L v) []) v) = false := h2 h
    rwa [Bool.not_eq_false'] at h5
  refine ⟨⟨fun h => ⟨_, mem_at h, h4 h⟩, fun ⟨l, hl, hv⟩ => ?_⟩, h4⟩
  rcases Nat.lt_or_ge (findS L v) L.length with h | h
  · exact h
  · obtain ⟨j, hj, rfl⟩ := List.getElem_of_mem hl
    have := h1 j (Nat.lt_of_lt_of_le hj h)
    rw [← getElem_getD hj, hv] at this
    cases this
/-- A lane of each bag only one. -/
theorem lane_one {L : List (List Bg)} (h : (L.flatten.map (·.1)).Nodup) {v : Int} {i j : Nat} (hi : i < L.length) (hj : j < L.length) (hvi : hasB (L.getD i []) v = true) (hvj : hasB (L.getD j []) v = true) : i = j := by
  rw [List.map_flatten, List.Nodup, List.pairwise_flatten] at h
  have h2 := List.pairwise_iff_getElem.1 h.2
  have key : ∀ a b : Nat, a < b → a < L.length → b < L.length → hasB (L.getD a []) v = true → hasB (L.getD b []) v = true → False := fun a b hab ha hb hva hvb => by
    obtain ⟨s, hs, es⟩ := has_iff.1 hva
    obtain ⟨t, ht, et⟩ := has_iff.1 hvb
    rw [← getElem_getD ha] at hs
    rw [← getElem_getD hb] at ht
    refine h2 a b (by simpa using ha) (by simpa using hb) hab v ?_ v ?_ rfl
    · rw [List.getElem_map]; exact List.mem_map.2 ⟨s, hs, es⟩
    · rw [List.getElem_map]; exact List.mem_map.2 ⟨t, ht, et⟩
  rcases Nat.lt_trichotomy i j with e | e | e
  · exact (key i j e hi hj hvi hvj).elim
  · exact e
  · exact (key j i e hj hi hvj hvi).elim
theorem find_eq {L : List (List Bg)} (h : (L.flatten.map (·.1)).Nodup) {v : Int} {f : Nat} (hf : f < L.length) (hv : hasB (L.getD f []) v = true) : findS L v = f := by
  have h1 := find_spec.1.2 ⟨_, mem_at hf, hv⟩
  exact lane_one h h1 hf (find_spec.2 h1) hv
/-- Taking the front of a lane. -/
theorem take_head {L : List (List Bg)} (h : (L.flatten.map (·.1)).Nodup) {f : Nat} {s : Bg} {r : List Bg} (hf : f < L.length) (hl : L.getD f [] = s :: r) : takeS L s.1 = (L.set f r, [], 0) := by
  have e := find_eq h (v := s.1) hf (by rw [hl]; simp [hasB])
  rw [takeS, e, if_pos hf, hl]
  have hp : posB (s :: r) s.1 = 0 := by rw [posB, List.takeWhile_cons_of_neg (by simp)]; rfl
  rw [hp, List.take_zero, List.append_nil]; rfl
/-- No lane has room where none is found. -/
theorem best_none {dp : Nat} {L : List (List Bg)} {x : Int} : ∀ {k : Nat}, bestS dp L x k = none → ∀ j, j < k → dp ≤ (L.getD j []).length
  | 0, _, j, hj => absurd hj (Nat.not_lt_zero _)
  | k + 1, h, j, hj => by
    rw [bestS] at h
    cases hb : bestS dp L x k with
    | none =>
      rw [hb] at h
      simp only [] at h
      split at h
      · cases h
      · rcases Nat.lt_or_ge j k with e | e
        · exact best_none hb j e
        · obtain rfl : j = k := by omega
          omega
    | some b =>
      rw [hb] at h
      simp only [] at h
      split at h <;> cases h
theorem best_room {dp : Nat} {L : List (List Bg)} {x : Int} : ∀ {k b : Nat}, bestS dp L x k = some b → b < k ∧ (L.getD b []).length < dp
  | 0, b, h => by cases h
  | k + 1, b, h => by
    rw [bestS] at h
    cases hb : bestS dp L x k with
    | none =>
      rw [hb] at h
      simp only [] at h
      split at h
      · injection h with h; subst h; exact ⟨Nat.lt_succ_self _, ‹_›⟩
      · cases h
    | some c =>
      rw [hb] at h
      simp only [] at h
      split at h
      · injection h with h; subst h; exact ⟨Nat.lt_succ_self _, (‹_ ∧ _›).1⟩
      · injection h with h; subst h
        have := best_room hb
        exact ⟨by omega, this.2⟩
/-- A lane replaced. -/
theorem perm_set {l' X Y : List Bg} : ∀ {L : List (List Bg)} {f : Nat}, f < L.length → (l' ++ X).Perm (L.getD f [] ++ Y) → ((L.set f l').flatten ++ X).Perm (L.flatten ++ Y)
  | [], _, h, _ => absurd h (Nat.not_lt_zero _)
  | a :: L, 0, _, hp => by
    show ((l' ++ L.flatten) ++ X).Perm ((a ++ L.flatten) ++ Y)
    have h1 : ((l' ++ L.flatten) ++ X).Perm ((l' ++ X) ++ L.flatten) := by
      rw [List.append_assoc, List.append_assoc]; exact List.Perm.append_left _ List.perm_append_comm
    have h2 : ((a ++ Y) ++ L.flatten).Perm ((a ++ L.flatten) ++ Y) := by
      rw [List.append_assoc, List.append_assoc]; exact List.Perm.append_left _ List.perm_append_comm
    exact h1.trans ((List.Perm.append_right _ hp).trans h2)
  | a :: L, f + 1, h, hp => by
    show ((a ++ (L.set f l').flatten) ++ X).Perm ((a ++ L.flatten) ++ Y)
    rw [List.append_assoc, List.append_assoc]
    exact List.Perm.append_left _ (perm_set (Nat.lt_of_succ_lt_succ h) hp)
theorem has_bag {L : List (List Bg)} {v : Int} : findS L v < L.length ↔ v ∈ L.flatten.map (·.1) := by
  rw [find_spec.1, List.mem_map]
  constructor
  · rintro ⟨l, hl, hv⟩
    obtain ⟨s, hs, e⟩ := has_iff.1 hv
    exact ⟨s, List.mem_flatten.2 ⟨l, hl, hs⟩, e⟩
  · rintro ⟨s, hs, e⟩
    obtain ⟨l, hl, hs⟩ := List.mem_flatten.1 hs
    exact ⟨l, hl, has_iff.2 ⟨s, hs, e⟩⟩
theorem put_perm {L : List (List Bg)} {k : Nat} {s : Bg} (hk : k < L.length) : (L.set k (L.getD k [] ++ [s])).flatten.Perm (L.flatten ++ [s]) := by
  have := perm_set (X := []) (Y := [s]) hk (l' := L.getD k [] ++ [s]) (by rw [List.append_nil])
  rwa [List.append_nil] at this
theorem ValL.put {dp k : Nat} {L : List (List Bg)} {s : Bg} (h : ValL dp L) (hk : k < L.length) (hr : (L.getD k []).length < dp) (hs : (1 ≤ s.1 ∧ s.1 ≤ 40) ∧ 0 ≤ s.2 ∧ s.2 ≤ 1048576) (hn : ¬ findS L s.1 < L.length) : ValL dp (L.set k (L.getD k [] ++ [s])) := by
  refine ⟨h.d, by rw [List.length_set]; exact h.n, fun l hl => ?_, fun l hl t ht => ?_, ?_⟩
  · rcases List.mem_or_eq_of_mem_set hl with e | rfl
    · exact h.len l e
    · rw [List.length_append]; exact hr
  · rcases List.mem_or_eq_of_mem_set hl with e | rfl
    · exact h.bag l e t ht
    · rcases List.mem_append.1 ht with e | e
      · exact h.bag _ (mem_at hk) t e
      · rw [List.mem_singleton.1 e]; exact hs
  · rw [((put_perm hk).map (·.1)).nodup_iff, List.map_append, List.nodup_append]
    refine ⟨h.one, by simp, fun a ha b hb e => ?_⟩
    have : b = s.1 := by simpa using hb
    subst this; subst e
    exact hn (has_bag.2 ha)
/-- Putting a new bag where there is room: it is in, and so is what was in. -/
theorem put_room {dp : Nat} {L : List (List Bg)} {s : Bg} (h : ValL dp L) (hs : (1 ≤ s.1 ∧ s.1 ≤ 40) ∧ 0 ≤ s.2 ∧ s.2 ≤ 1048576) (hn : s.1 ∉ L.flatten.map (·.1)) (hr : ∃ j, j < L.length ∧ (L.getD j []).length < dp) :
    ∃ k, k < L.length ∧ putS dp L s = (L.set k (L.getD k [] ++ [s]), k, 0) ∧ ValL dp (L.set k (L.getD k [] ++ [s])) ∧ (L.set k (L.getD k [] ++ [s])).flatten.Perm (L.flatten ++ [s]) := by
  have hf : ¬ findS L s.1 < L.length := fun e => hn (has_bag.1 e)
  cases hb : bestS dp L s.2 L.length with
  | none =>
    obtain ⟨j, h1, h2⟩ := hr
    have := best_none hb j h1
    omega
  | some k =>
    obtain ⟨h1, h2⟩ := best_room hb
    refine ⟨k, h1, ?_, h.put h1 h2 hs hf, put_perm h1⟩
    rw [putS, if_neg (by omega), if_neg hf, hb]
/-- Two lanes of six have room for the twelfth bag. -/
theorem two_room {L : List (List Bg)} (hl : L.length = 2) (hn : L.flatten.length < 12) : ∃ j, j < L.length ∧ (L.getD j []).length < 6 := by
  match L, hl with
  | [a, b], _ =>
    have : a.length + b.length < 12 := by simpa using hn
    rcases Nat.lt_or_ge a.length 6 with e | e
    · exact ⟨0, by show 0 < 2; omega, e⟩
    · exact ⟨1, by show 1 < 2; omega, by show b.length < 6; omega⟩
/-- A lane is what stands before the bag, the bag, the rest. -/
theorem pos_split {l : List Bg} {v : Int} (h : hasB l v = true) : ∃ s, s.1 = v ∧ l = l.take (posB l v) ++ s :: l.drop (posB l v + 1) := by
  obtain ⟨_, h2, h3⟩ := tw_spec (p := fun s : Bg => !(s.1 == v)) (d := (0, 0)) (l := l)
  have hlt : posB l v < l.length := by
    rcases Nat.lt_or_ge (posB l v) l.length with e | e
    · exact e
    · obtain ⟨s, hs, es⟩ := has_iff.1 h
      obtain ⟨j, hj, rfl⟩ := List.getElem_of_mem hs
      have h1 := (tw_spec (p := fun s : Bg => !(s.1 == v)) (d := (0, 0)) (l := l)).1 j (Nat.lt_of_lt_of_le hj e)
      rw [← getElem_getD hj] at h1
      simp [es] at h1
  have h5 : (!((l.getD (posB l v) (0, 0)).1 == v)) = false := h2 hlt
  rw [Bool.not_eq_false', beq_iff_eq] at h5
  refine ⟨l[posB l v], by rw [getElem_getD hlt]; exact h5, ?_⟩
  rw [← List.drop_eq_getElem_cons hlt, List.take_append_drop]
/-- Taking a bag: it is out, the others are in; what stood before it stands behind the others. -/
theorem take_out {dp : Nat} {L : List (List Bg)} {v : Int} (h : ValL dp L) (hv : v ∈ L.flatten.map (·.1)) : ∃ f s pre r, f < L.length ∧ s.1 = v ∧ L.getD f [] = pre ++ s :: r ∧ takeS L v = (L.set f (r ++ pre), pre.map (·.1), 0) ∧ ValL dp (L.set f (r ++ pre)) ∧ ((L.set f (r ++ pre)).flatten ++ [s]).Perm L.flatten := by
  have hf := has_bag.2 hv
  obtain ⟨s, hs, hsp⟩ := pos_split (find_spec.2 hf)
  have hlen : ((L.getD (findS L v) []).drop (posB (L.getD (findS L v) []) v + 1) ++ (L.getD (findS L v) []).take (posB (L.getD (findS L v) []) v)).length ≤ dp := by
    have := h.len _ (mem_at hf)
    rw [List.length_append, List.length_drop, List.length_take]; omega
  refine ⟨findS L v, s, _, _, hf, hs, hsp, by rw [takeS, if_pos hf], ?_, ?_⟩
  case refine_2 =>
    have := perm_set (X := [s]) (Y := []) hf (l' := (L.getD (findS L v) []).drop (posB (L.getD (findS L v) []) v + 1) ++ (L.getD (findS L v) []).take (posB (L.getD (findS L v) []) v)) (by
      rw [List.append_nil]
      conv => rhs; rw [hsp]
      rw [List.append_assoc]
      exact (List.perm_append_comm).trans (by rw [List.append_assoc]; exact List.Perm.refl _))
    rwa [List.append_nil] at this
  case refine_1 =>
    have hp := perm_set (X := [s]) (Y := []) hf (l' := (L.getD (findS L v) []).drop (posB (L.getD (findS L v) []) v + 1) ++ (L.getD (findS L v) []).take (posB (L.getD (findS L v) []) v)) (by
      rw [List.append_nil]
      conv => rhs; rw [hsp]
      rw [List.append_assoc]
      exact (List.perm_append_comm).trans (by rw [List.append_assoc]; exact List.Perm.refl _))
    rw [List.append_nil] at hp
    refine ⟨h.d, by rw [List.length_set]; exact h.n, fun l hl => ?_, fun l hl t ht => ?_, ?_⟩
    · rcases List.mem_or_eq_of_mem_set hl with e | rfl
      · exact h.len l e
      · exact hlen
    · rcases List.mem_or_eq_of_mem_set hl with e | rfl
      · exact h.bag l e t ht
      · refine h.bag _ (mem_at hf) t ?_
        rcases List.mem_append.1 ht with e | e
        · exact List.mem_of_mem_drop e
        · exact List.mem_of_mem_take e
    · have := (hp.map (·.1)).nodup_iff.2 h.one
      rw [List.map_append, List.nodup_append] at this
      exact this.1
end Go.Proofs.Ytmmhchhekmcihaa
