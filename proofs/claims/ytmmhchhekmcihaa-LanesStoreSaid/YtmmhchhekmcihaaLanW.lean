/-
  Lanes (layer 17): mathematics of the program's assign: the best lane as the closure finds it, the last bags of the lanes, the places, the opener.
-/
import Derived.Test.YtmmhchhekmcihaaLanV
namespace Go.Proofs.Ytmmhchhekmcihaa

/-- What the closure remembers behind the first j lanes. -/
def shK (E : List Int) (x : Int) : Nat → Int × Int
  | 0 => (-1, 0)
  | j + 1 => showF (shK E x j) j (rateF false (E.getD j 0) x)
theorem shK_eq {E : List Int} {x : Int} (hx : 0 ≤ x) (hd : ∀ a b, a < b → b < E.length → E.getD b 0 < E.getD a 0) (h0 : ∀ j, j < E.length → 0 ≤ E.getD j 0) :
    ∀ j, j ≤ E.length → shK E x j = if j = 0 then (-1, 0) else if j ≤ plc E x then (((j - 1 : Nat) : Int), - E.getD (j - 1) 0) else ((plc E x : Int), E.getD (plc E x) 0 + 1)
  | 0, _ => rfl
  | j + 1, hj => by
    have ih := shK_eq hx hd h0 j (by omega)
    have hp := plc_le E x
    rw [shK, ih, if_neg (Nat.succ_ne_zero j)]
    have hr : rateF false (E.getD j 0) x = if E.getD j 0 ≤ x then E.getD j 0 + 1 else - E.getD j 0 := by unfold rateF; rw [if_neg (by decide)]
    rw [hr]
    rcases Nat.lt_trichotomy j (plc E x) with h | h | h
    · have ha := plc_ahead h
      rw [if_neg (show ¬ E.getD j 0 ≤ x by omega), if_pos (show j + 1 ≤ plc E x from h), Nat.add_sub_cancel]
      unfold showF
      by_cases hz : j = 0
      · rw [if_pos hz, if_pos (.inl rfl)]
      · rw [if_neg hz, if_pos (Nat.le_of_lt h), if_pos (.inr (by have := hd (j - 1) j (by omega) (by omega); show - E.getD (j - 1) 0 < - E.getD j 0; omega))]
    · have ha := plc_at (E := E) (x := x) (by omega)
      rw [← h] at ha
      have hj0 := h0 j (by omega)
      rw [if_pos ha, if_neg (show ¬ j + 1 ≤ plc E x by omega), ← h]
      unfold showF
      by_cases hz : j = 0
      · rw [if_pos hz, if_pos (.inl rfl)]
      · rw [if_neg hz, if_pos (Nat.le_refl _), if_pos (.inr (by have := plc_ahead (show j - 1 < plc E x by omega); show - E.getD (j - 1) 0 < E.getD j 0 + 1; omega))]
    · have ha := plc_at (E := E) (x := x) (by omega)
      have hlt := hd _ _ h (show j < E.length by omega)
      rw [if_pos (show E.getD j 0 ≤ x by omega), if_neg (show ¬ j = 0 by omega), if_neg (show ¬ j ≤ plc E x by omega), if_neg (show ¬ j + 1 ≤ plc E x by omega)]
      unfold showF
      rw [if_neg]
      intro hc
      rcases hc with hc | hc
      · have hc' : (plc E x : Int) = -1 := hc; omega
      · have hc' : E.getD (plc E x) 0 + 1 < E.getD j 0 + 1 := hc; omega
theorem shK_end {E : List Int} {x : Int} (hx : 0 ≤ x) (hd : ∀ a b, a < b → b < E.length → E.getD b 0 < E.getD a 0) (h0 : ∀ j, j < E.length → 0 ≤ E.getD j 0) (y : Int) :
    (showF (shK E x E.length) E.length (rateF true y x)).1 = (plc E x : Int) := by
  have hr : rateF true y x = 0 := if_pos rfl
  have hp := plc_le E x
  rw [hr, shK_eq hx hd h0 _ (Nat.le_refl _)]
  unfold showF
  by_cases hz : E.length = 0
  · rw [if_pos hz, if_pos (.inl rfl)]
    show ((E.length : Nat) : Int) = _
    omega
  · rw [if_neg hz]
    by_cases h : E.length ≤ plc E x
    · rw [if_pos h, if_pos (.inr (by have := plc_ahead (E := E) (x := x) (show E.length - 1 < plc E x by omega); show - E.getD (E.length - 1) 0 < 0; omega))]
      show ((E.length : Nat) : Int) = _
      omega
    · rw [if_neg h, if_neg]
      intro hc
      have := h0 (plc E x) (by omega)
      rcases hc with hc | hc
      · have hc' : (plc E x : Int) = -1 := hc; omega
      · have hc' : E.getD (plc E x) 0 + 1 < 0 := hc; omega

/-- The last bag of each lane behind the first k bags. -/
def lastL (due : List Int) (k : Nat) : List Int := (List.range (asgK due k).E.length).map fun lane => ((lastI (asgK due k).L lane k : Nat) : Int)
theorem lastL_len (due : List Int) (k : Nat) : (lastL due k).length = (asgK due k).E.length := by unfold lastL; rw [List.length_map, List.length_range]
theorem lastL_at {due : List Int} {k j : Nat} (h : j < (asgK due k).E.length) : (lastL due k).getD j 0 = ((lastI (asgK due k).L j k : Nat) : Int) := by
  unfold lastL
  rw [List.getD_eq_getElem?_getD, List.getElem?_map, List.getElem?_range h]; rfl
/-- The last bag of a lane: which, and when it is due. -/
theorem lastL_due {due : List Int} {k j : Nat} (hk : k ≤ due.length) (h : j < (asgK due k).E.length) : lastI (asgK due k).L j k < k ∧ due.getD (lastI (asgK due k).L j k) 0 = (asgK due k).E.getD j 0 := by
  obtain ⟨i, h1, h2⟩ := (asgI due k hk).ends j h
  rw [lastI_is h1]; exact ⟨h1.1, h2⟩
theorem lastI_app {L : List Nat} {lane k : Nat} {x : Nat} : ∀ {i : Nat}, i ≤ L.length → lastI (L ++ [x]) lane i = lastI L lane i
  | 0, _ => rfl
  | i + 1, h => by
    unfold lastI
    rw [getD_app (show i < L.length by omega), lastI_app (k := k) (show i ≤ L.length by omega)]
theorem lastL_step {due : List Int} {k : Nat} (hk : k < due.length) :
    lastL due (k + 1) = if plc (asgK due k).E (due.getD k 0) < (asgK due k).E.length then (lastL due k).set (plc (asgK due k).E (due.getD k 0)) (k : Int) else lastL due k ++ [(k : Int)] := by
  have hl := asg_len (due := due) (k := k) (by omega)
  have hp := plc_le (asgK due k).E (due.getD k 0)
  have hpl := putE_len (asgK due k).E (due.getD k 0)
  have key : ∀ j, lastI ((asgK due k).L ++ [plc (asgK due k).E (due.getD k 0)]) j (k + 1) = if j = plc (asgK due k).E (due.getD k 0) then k else lastI (asgK due k).L j k := fun j => by
    rw [lastI, getD_end hl.symm, lastI_app (k := 0) (by omega)]
    by_cases e : j = plc (asgK due k).E (due.getD k 0)
    · rw [if_pos e, if_pos e.symm]
    · rw [if_neg e, if_neg (fun h => e h.symm)]
  have e1 : lastL due (k + 1) = (List.range (putE (asgK due k).E (due.getD k 0)).length).map fun lane => ((lastI ((asgK due k).L ++ [plc (asgK due k).E (due.getD k 0)]) lane (k + 1) : Nat) : Int) := by
    unfold lastL; rw [asgK_step hk]; rfl
  rw [e1]
  refine ext_getD (d := 0) ?_ fun j hj => ?_
  · rw [List.length_map, List.length_range, hpl]
    split
    · rw [List.length_set, lastL_len]
    · rw [List.length_append, lastL_len]; rfl
  · rw [List.length_map, List.length_range] at hj
    have e2 : ((List.range (putE (asgK due k).E (due.getD k 0)).length).map fun lane => ((lastI ((asgK due k).L ++ [plc (asgK due k).E (due.getD k 0)]) lane (k + 1) : Nat) : Int)).getD j 0 = ((lastI ((asgK due k).L ++ [plc (asgK due k).E (due.getD k 0)]) j (k + 1) : Nat) : Int) := by
      rw [List.getD_eq_getElem?_getD, List.getElem?_map, List.getElem?_range hj]; rfl
    rw [e2, key]
    rw [hpl] at hj
    by_cases h : plc (asgK due k).E (due.getD k 0) < (asgK due k).E.length
    · rw [if_pos h] at hj
      rw [if_pos h, getD_set (by rw [lastL_len]; exact h)]
      by_cases e : j = plc (asgK due k).E (due.getD k 0)
      · rw [if_pos e, if_pos e.symm]
      · rw [if_neg e, if_neg (fun h => e h.symm), lastL_at hj]
    · rw [if_neg h] at hj
      rw [if_neg h]
      by_cases e : j = plc (asgK due k).E (due.getD k 0)
      · rw [if_pos e, getD_end (by rw [lastL_len]; omega)]
      · rw [if_neg e, getD_app (by rw [lastL_len]; omega), lastL_at (by omega)]
/-- The bag that was the last one in the lane ahead. -/
def befF (due : List Int) (i : Nat) : Int := if (asgF due).getD i 0 = 0 then -1 else ((lastI (asgF due) ((asgF due).getD i 0 - 1) i : Nat) : Int)
def plF (due : List Int) (i : Nat) : Int × Int := (((asgF due).getD i 0 : Nat), befF due i)
theorem lastI_cut {due : List Int} {lane : Nat} : ∀ {i k : Nat}, i ≤ k → k ≤ due.length → lastI (asgK due k).L lane i = lastI (asgF due) lane i
  | 0, _, _, _ => rfl
  | i + 1, k, h, hk => by
    unfold lastI
    rw [asg_cut (show i < k by omega) hk, lastI_cut (show i ≤ k by omega) hk]
theorem plF_zero {due : List Int} {k : Nat} (hk : k < due.length) (h : plc (asgK due k).E (due.getD k 0) = 0) : plF due k = (0, -1) := by
  unfold plF befF
  rw [asg_plc hk, h, if_pos rfl]; rfl
theorem plF_pos {due : List Int} {k p : Nat} (hk : k < due.length) (h : plc (asgK due k).E (due.getD k 0) = p + 1) : plF due k = ((p : Int) + 1, (lastL due k).getD p 0) := by
  have hp := plc_le (asgK due k).E (due.getD k 0)
  unfold plF befF
  rw [asg_plc hk, h, if_neg (Nat.succ_ne_zero p), Nat.add_sub_cancel, lastL_at (by omega), lastI_cut (Nat.le_refl _) (by omega)]; rfl
/-- The first bag of the last lane. -/
def opK (due : List Int) (k : Nat) : Int := if (asgK due k).E.length = 0 then -1 else ((firstI (asgK due k).L ((asgK due k).E.length - 1) : Nat) : Int)
theorem opK_new {due : List Int} {k : Nat} (hk : k < due.length) (h : plc (asgK due k).E (due.getD k 0) = (asgK due k).E.length) : opK due (k + 1) = k := by
  have hl := asg_len (due := due) (k := k) (by omega)
  have hpl := putE_len (asgK due k).E (due.getD k 0)
  rw [if_neg (by omega)] at hpl
  unfold opK
  rw [asgK_step hk]
  show (if (putE (asgK due k).E (due.getD k 0)).length = 0 then (-1 : Int) else ((firstI ((asgK due k).L ++ [plc (asgK due k).E (due.getD k 0)]) ((putE (asgK due k).E (due.getD k 0)).length - 1) : Nat) : Int)) = k
  rw [hpl, if_neg (by omega), Nat.add_sub_cancel, h]
  have hf : firstI ((asgK due k).L ++ [(asgK due k).E.length]) (asgK due k).E.length = k := by
    have h1 : ∀ m, m < k → ((asgK due k).L ++ [(asgK due k).E.length]).getD m 0 ≠ (asgK due k).E.length := fun m hm => by
      rw [getD_app (by omega)]
      have := (asgI due k (by omega)).low m hm; omega
    obtain ⟨f1, f2, f3⟩ := firstI_spec (L := (asgK due k).L ++ [(asgK due k).E.length]) (lane := (asgK due k).E.length) ⟨k, by rw [List.length_append, hl]; simp, getD_end hl.symm⟩
    rw [List.length_append, hl] at f1
    have f1' : firstI ((asgK due k).L ++ [(asgK due k).E.length]) (asgK due k).E.length < k + 1 := f1
    rcases Nat.lt_or_ge (firstI ((asgK due k).L ++ [(asgK due k).E.length]) (asgK due k).E.length) k with hlt | hge
    · exact absurd f2 (h1 _ hlt)
    · omega
  rw [hf]
theorem opK_old {due : List Int} {k : Nat} (hk : k < due.length) (h : plc (asgK due k).E (due.getD k 0) < (asgK due k).E.length) : opK due (k + 1) = opK due k := by
  have hl := asg_len (due := due) (k := k) (by omega)
  have hpl := putE_len (asgK due k).E (due.getD k 0)
  rw [if_pos h] at hpl
  have hl1 : (asgK due (k + 1)).E.length = (asgK due k).E.length := by rw [asgK_step hk]; exact hpl
  have hL : (asgK due (k + 1)).L = (asgK due k).L ++ [plc (asgK due k).E (due.getD k 0)] := by rw [asgK_step hk]; rfl
  unfold opK
  rw [hl1, hL, if_neg (by omega), if_neg (by omega)]
  congr 1
  obtain ⟨j, ⟨j1, j2, _⟩, _⟩ := (asgI due k (by omega)).ends ((asgK due k).E.length - 1) (by omega)
  have ex : ∃ j, j < (asgK due k).L.length ∧ (asgK due k).L.getD j 0 = (asgK due k).E.length - 1 := ⟨j, by omega, j2⟩
  obtain ⟨f1, f2, f3⟩ := firstI_spec ex
  obtain ⟨g1, g2, g3⟩ := firstI_spec (L := (asgK due k).L ++ [plc (asgK due k).E (due.getD k 0)]) (lane := (asgK due k).E.length - 1) ⟨j, by rw [List.length_append]; omega, by rw [getD_app (by omega)]; exact j2⟩
  rcases Nat.lt_trichotomy (firstI ((asgK due k).L ++ [plc (asgK due k).E (due.getD k 0)]) ((asgK due k).E.length - 1)) (firstI (asgK due k).L ((asgK due k).E.length - 1)) with hlt | heq | hgt
  · have := f3 _ hlt
    rw [getD_app (by omega)] at g2
    exact absurd g2 this
  · exact heq
  · have := g3 _ hgt
    rw [getD_app (by omega)] at this
    exact absurd f2 this
def opF (due : List Int) : Int := if cntF due = 0 then -1 else ((firstI (asgF due) (cntF due - 1) : Nat) : Int)
theorem opK_end (due : List Int) : opK due due.length = opF due := rfl
theorem E_range {due : List Int} (ht : ∀ x ∈ due, 0 ≤ x ∧ x ≤ 1048576) {k j : Nat} (hk : k ≤ due.length) (hj : j < (asgK due k).E.length) : 0 ≤ (asgK due k).E.getD j 0 ∧ (asgK due k).E.getD j 0 ≤ 1048576 := by
  obtain ⟨i, h1, h2⟩ := (asgI due k hk).ends j hj
  have hi := h1.1
  rw [← h2]
  refine ht _ ?_
  rw [at_k (show i < due.length by omega)]
  exact List.getElem_mem _
end Go.Proofs.Ytmmhchhekmcihaa
