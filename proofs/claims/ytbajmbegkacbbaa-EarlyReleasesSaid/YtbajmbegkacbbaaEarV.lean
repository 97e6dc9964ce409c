/-
  Early (layer 19): the law EarlyReleases: what stands at its loops' heads.
-/
import Derived.Test.YtbajmbegkacbbaaEarR
namespace Go.Proofs.Ytbajmbegkacbbaa
open Go.RowKit

/-- The place of the bag b that is due first, among the first i. -/
def AtI (T : List Sb) (b : Int) (i : Nat) (at_ : Int) : Prop :=
  (at_ = -1 ∧ ∀ j, j < i → (T.getD j (0, 0)).1 ≠ b) ∨ ∃ p : Nat, at_ = (p : Int) ∧ p < i ∧ (T.getD p (0, 0)).1 = b ∧ ∀ j, j < i → (T.getD j (0, 0)).1 = b → (T.getD p (0, 0)).2 ≤ (T.getD j (0, 0)).2
section
variable {T : List Sb} {b : Int} {i : Nat} {at_ : Int}
theorem AtI.start : AtI T b 0 (-1) := .inl ⟨rfl, fun _ h => absurd h (Nat.not_lt_zero _)⟩
theorem AtI.skip (h : AtI T b i at_) (hn : (T.getD i (0, 0)).1 ≠ b) : AtI T b (i + 1) at_ := by
  rcases h with ⟨h1, h2⟩ | ⟨p, h1, h2, h3, h4⟩
  · exact .inl ⟨h1, fun j hj => by
      by_cases e : j = i
      · rw [e]; exact hn
      · exact h2 j (by omega)⟩
  · exact .inr ⟨p, h1, by omega, h3, fun j hj hb => by
      by_cases e : j = i
      · rw [e] at hb; exact absurd hb hn
      · exact h4 j (by omega) hb⟩
theorem AtI.first (h : AtI T b i (-1)) (hb : (T.getD i (0, 0)).1 = b) : AtI T b (i + 1) (i : Int) := by
  rcases h with ⟨_, h2⟩ | ⟨p, h1, _⟩
  · exact .inr ⟨i, rfl, by omega, hb, fun j hj hb' => by
      by_cases e : j = i
      · rw [e]; exact Int.le_refl _
      · exact absurd hb' (h2 j (by omega))⟩
  · omega
theorem AtI.less {p : Nat} (h : AtI T b i (p : Int)) (hb : (T.getD i (0, 0)).1 = b) (hl : (T.getD i (0, 0)).2 < (T.getD p (0, 0)).2) : AtI T b (i + 1) (i : Int) := by
  rcases h with ⟨h1, _⟩ | ⟨q, h1, _, _, h4⟩
  · omega
  · obtain rfl : q = p := by omega
    exact .inr ⟨i, rfl, by omega, hb, fun j hj hb' => by
      by_cases e : j = i
      · rw [e]; exact Int.le_refl _
      · have := h4 j (by omega) hb'; omega⟩
theorem AtI.stay {p : Nat} (h : AtI T b i (p : Int)) (hl : ¬ (T.getD i (0, 0)).2 < (T.getD p (0, 0)).2) : AtI T b (i + 1) (p : Int) := by
  rcases h with ⟨h1, _⟩ | ⟨q, h1, h2, h3, h4⟩
  · omega
  · obtain rfl : q = p := by omega
    exact .inr ⟨q, rfl, by omega, h3, fun j hj hb' => by
      by_cases e : j = i
      · rw [e]; omega
      · exact h4 j (by omega) hb'⟩
theorem AtI.found {s : Sb} {r : List Sb} (h : AtI T b T.length at_) (hr : rkL T = s :: r) (hb : s.1 = b) (hc : 1 ≤ b ∧ b ≤ 9) : ∃ p : Nat, at_ = (p : Int) ∧ p < T.length ∧ T.getD p (0, 0) = s := by
  obtain ⟨hm, _, hle⟩ := rk_head hr
  obtain ⟨q, hq, e⟩ := List.getElem_of_mem hm
  have eq : T.getD q (0, 0) = s := by rw [at_k hq]; exact e
  rcases h with ⟨_, h2⟩ | ⟨p, h1, h2, h3, h4⟩
  · exact absurd (by rw [eq]; exact hb) (h2 q hq)
  · refine ⟨p, h1, h2, ?_⟩
    have h5 := h4 q hq (by rw [eq]; exact hb)
    rw [eq] at h5
    have hpm : T.getD p (0, 0) ∈ T := by rw [at_k h2]; exact List.getElem_mem _
    have h6 := hle _ hpm (by unfold cntS; rw [decide_eq_true_eq, h3]; omega)
    refine leS_anti ?_ h6
    unfold leS
    omega
end
theorem cut_perm {T : List Sb} {p : Nat} {s : Sb} (hp : p < T.length) (hs : T.getD p (0, 0) = s) : T.Perm (s :: (T.take p ++ T.drop (p + 1))) := by
  have e2 : T = T.take p ++ T.getD p (0, 0) :: T.drop (p + 1) := by rw [at_k hp, List.getElem_cons_drop, List.take_append_drop]
  rw [← hs]
  refine (List.Perm.of_eq e2).trans ?_
  exact List.perm_middle
/-- While bags are taken out. -/
structure RelI (w : World) (bR : Nat) (T0 : List Sb) (A3 : Option Addr) (k : Nat) (T : List Sb) (A : Option Addr) (c : Nat) (wr : World) : Prop where
  bel : Below w.heap.size w wr
  row : ∃ b, SbIn b wr A T
  cap : T.length ≤ c
  rnk : NumsIn bR wr A3 (rnkI T0)
  ok : SmS T
  rk : rkL T = (rkL T0).drop k
section
variable {w wr w' : World} {bR k c : Nat} {A3 A : Option Addr} {T0 T : List Sb}
theorem RelI.below (h : RelI w bR T0 A3 k T A c wr) (hb : Below wr.heap.size wr w') : RelI w bR T0 A3 k T A c w' :=
  ⟨onward h.bel hb, h.row.imp fun _ r => r.keep hb, h.cap, h.rnk.keep hb, h.ok, h.rk⟩
theorem RelI.cnt (h : RelI w bR T0 A3 k T A c wr) : ∀ s ∈ T, cntS s = true := fun s hs => by
  have := h.ok.ok s hs
  unfold cntS; rw [decide_eq_true_eq]; omega
/-- None is left when the last one is not due at the last time. -/
theorem RelI.last (h : RelI w bR T0 A3 k T A c wr) (hk : k ≤ (rkL T0).length) (hn : nxtI T 5 = 0) : T.length = 0 ∧ k = (rkL T0).length := by
  have hl := rk_len h.cnt
  have e : rkL T = [] := by
    cases hc : rkL T with
    | nil => rfl
    | cons s r =>
      have h1 := h.ok.ok s (rk_head hc).1
      rw [nxtI_cons hc, if_pos (by omega)] at hn
      omega
  have hd := h.rk
  rw [e] at hl hd
  have := congrArg List.length hd
  rw [List.length_drop] at this
  simp only [List.length_nil] at this hl
  omega
/-- The one that is next. -/
theorem RelI.next (h : RelI w bR T0 A3 k T A c wr) {now : Int} (hn : nxtI T now ≠ 0) : ∃ s r, rkL T = s :: r ∧ s.1 = nxtI T now ∧ s.2 ≤ now ∧ (1 ≤ s.1 ∧ s.1 ≤ 9) ∧ k < (rkL T0).length ∧ (rnkI T0).getD k 0 = s.1 ∧ (rkL T0).drop (k + 1) = r := by
  cases hc : rkL T with
  | nil => exact absurd (nxtI_nil hc now) hn
  | cons s r =>
    rw [nxtI_cons hc] at hn ⊢
    by_cases hd : s.2 ≤ now
    · rw [if_pos hd]
      have hk : k < (rkL T0).length := by
        have := congrArg List.length h.rk
        rw [hc, List.length_drop, List.length_cons] at this
        omega
      have hdr := h.rk
      rw [hc, List.drop_eq_getElem_cons hk] at hdr
      injection hdr with h1 h2
      refine ⟨s, r, rfl, rfl, hd, (h.ok.ok s (rk_head hc).1).1, hk, ?_, h2.symm⟩
      unfold rnkI
      rw [at_k (by rw [List.length_map]; exact hk), List.getElem_map, ← h1]
    · rw [if_neg hd] at hn; exact absurd rfl hn
end
end Go.Proofs.Ytbajmbegkacbbaa
