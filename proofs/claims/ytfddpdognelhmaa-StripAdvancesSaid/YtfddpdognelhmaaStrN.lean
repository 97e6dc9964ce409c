/-
  Strips (layer 9): a tick, window by window; the bags and the empty windows, window by window.
-/
import Derived.Test.YtfddpdognelhmaaStrM
namespace Go.Proofs.Ytfddpdognelhmaa

/-- The window in which the bag of a window is behind the tick, which is the number of windows if it leaves. -/
def sGl (s f : List Int) (op : Bool) (k : Nat) : Nat := if k + 1 < s.length then sTgt s f k else if op = true ∧ sFlt f k ≠ 1 then k + 1 else k
theorem sGl_le {s f : List Int} {op : Bool} {k : Nat} (h : k < s.length) : sGl s f op k ≤ s.length := by
  unfold sGl
  split
  · rename_i h1; exact Nat.le_of_lt (sTgt_lt h1)
  · split <;> omega
theorem sStep_no {s f : List Int} {op : Bool} {k : Nat} (hk : k < s.length) (h0 : s.getD k 0 = 0) : sOut s f op (k + 1) = sOut s f op k ∧ sLef s f op (k + 1) = 0 := by
  refine ⟨by show (if _ then _ else _) = _; rw [if_pos h0], ?_⟩
  by_cases hc : k + 1 = s.length
  · rw [sLef_at hc, h0]; simp
  · exact sLef_no (by omega)
theorem sStep_set {s f : List Int} {op : Bool} {k : Nat} (hk : k < s.length) (h0 : s.getD k 0 ≠ 0) (h : sGl s f op k < s.length) :
    sOut s f op (k + 1) = (sOut s f op k).set (sGl s f op k) (s.getD k 0) ∧ sLef s f op (k + 1) = 0 := by
  unfold sGl at h ⊢
  by_cases hc : k + 1 < s.length
  · rw [if_pos hc]
    exact ⟨by show (if _ then _ else _) = _; rw [if_neg h0, if_pos hc], sLef_no hc⟩
  · rw [if_neg hc] at h ⊢
    by_cases ho : op = true ∧ sFlt f k ≠ 1
    · rw [if_pos ho] at h; omega
    · rw [if_neg ho]
      exact ⟨by show (if _ then _ else _) = _; rw [if_neg h0, if_neg hc, if_neg ho], by rw [sLef_at (by omega), if_neg ho]⟩
theorem sStep_left {s f : List Int} {op : Bool} {k : Nat} (hk : k < s.length) (h0 : s.getD k 0 ≠ 0) (h : ¬ sGl s f op k < s.length) :
    sOut s f op (k + 1) = sOut s f op k ∧ sLef s f op (k + 1) = s.getD k 0 := by
  unfold sGl at h
  by_cases hc : k + 1 < s.length
  · rw [if_pos hc] at h; exact absurd (sTgt_lt hc) h
  · rw [if_neg hc] at h
    by_cases ho : op = true ∧ sFlt f k ≠ 1
    · exact ⟨by show (if _ then _ else _) = _; rw [if_neg h0, if_neg hc, if_pos ho], by rw [sLef_at (by omega), if_pos ho]⟩
    · rw [if_neg ho] at h; omega
theorem sLef_zero (s f : List Int) (op : Bool) : sLef s f op 0 = 0 := by unfold sLef; rw [if_neg (by omega)]

theorem sFree_step {s : List Int} {k : Nat} (h : k < s.length) : sFree (s.take (k + 1)) = sFree (s.take k) + if s.getD k 0 = 0 then 1 else 0 := by
  unfold sFree
  rw [List.take_succ_eq_append_getElem h, List.countP_append, show s.getD k 0 = s[k] from by rw [List.getD_eq_getElem?_getD, List.getElem?_eq_getElem h]; rfl]
  simp
theorem sFree_le (s : List Int) : sFree s ≤ s.length := List.countP_le_length
theorem sFree_bags (s : List Int) : s.length - sFree s = (sBags s).length := by
  unfold sFree sBags sNz
  rw [List.length_reverse, ← List.countP_eq_length_filter]
  have := List.length_eq_countP_add_countP (fun x : Int => decide (x = 0)) (l := s)
  have e : (fun a : Int => decide ¬ (decide (a = 0) = true)) = (fun x : Int => !decide (x = 0)) := by funext a; simp
  rw [e] at this
  omega

/-- The bags of the windows from k on, the last one first. -/
def sBk (s : List Int) (k : Nat) : List Int := sBags (s.drop k)
theorem sBk_end (s : List Int) : sBk s s.length = [] := by unfold sBk; rw [List.drop_length]; rfl
theorem sBk_all (s : List Int) : sBk s 0 = sBags s := rfl
theorem sBk_step {s : List Int} {k : Nat} (h : k < s.length) : sBk s k = sBk s (k + 1) ++ if s.getD k 0 = 0 then [] else [s.getD k 0] := by
  unfold sBk sBags sNz
  rw [List.drop_eq_getElem_cons h, show s.getD k 0 = s[k] from by rw [List.getD_eq_getElem?_getD, List.getElem?_eq_getElem h]; rfl]
  by_cases h0 : s[k] = 0
  · rw [if_pos h0, List.append_nil, List.filter_cons_of_neg (by simp [h0])]
  · rw [if_neg h0, List.filter_cons_of_pos (by simp [h0]), List.reverse_cons]
theorem sBk_len (s : List Int) (k : Nat) : (sBk s k).length ≤ s.length := by
  unfold sBk sBags sNz
  rw [List.length_reverse]
  exact Nat.le_trans (List.length_filter_le _ _) (by rw [List.length_drop]; omega)
theorem sBags_len (s : List Int) : (sBags s).length ≤ s.length := sBk_len s 0

theorem sIdx_go {s : List Int} {b : Int} {k : Nat} (hk : k < s.length) (h : ∀ j, j < k → s.getD j 0 ≠ b) (h0 : s.getD k 0 = b) : sIdx s b = k := by
  unfold sIdx
  rw [List.findIdx_eq hk]
  refine ⟨?_, fun j hj => ?_⟩
  · rw [← h0, List.getD_eq_getElem?_getD, List.getElem?_eq_getElem hk]; simp
  · have := h j hj
    rw [List.getD_eq_getElem?_getD, List.getElem?_eq_getElem (by omega)] at this
    simpa using this
theorem sIdx_end {s : List Int} {b : Int} (h : ∀ j, j < s.length → s.getD j 0 ≠ b) : sIdx s b = s.length := by
  unfold sIdx
  rw [List.findIdx_eq_length]
  intro x hx
  obtain ⟨j, hj, rfl⟩ := List.getElem_of_mem hx
  have := h j hj
  rw [List.getD_eq_getElem?_getD, List.getElem?_eq_getElem hj] at this
  simpa using this
end Go.Proofs.Ytfddpdognelhmaa
