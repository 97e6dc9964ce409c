/-
  Strips (layer 9): plain mathematics of one tick: where each bag goes, that no bag is lost, doubled or passed; what comes out behind twice as many ticks as there are windows, at windows of few bags.
-/
import Derived.Test.YtfddpdognelhmaaLibB
namespace Go.Proofs.Ytfddpdognelhmaa

/-- The fault at a window. -/
def sFlt (f : List Int) (k : Nat) : Int := f.getD k 0
/-- The window to which the bag in a window that is not the last one moves. -/
def sTgt (s f : List Int) (k : Nat) : Nat :=
  if sFlt f k = 1 ∨ s.getD (k + 1) 0 ≠ 0 then k else if sFlt f k = 2 ∧ k + 2 < s.length ∧ s.getD (k + 2) 0 = 0 then k + 2 else k + 1
/-- The windows behind the tick, when the first k windows are done. -/
def sOut (s f : List Int) (op : Bool) : Nat → List Int
  | 0 => List.replicate s.length 0
  | k + 1 => if s.getD k 0 = 0 then sOut s f op k else if k + 1 < s.length then (sOut s f op k).set (sTgt s f k) (s.getD k 0) else if op = true ∧ sFlt f k ≠ 1 then sOut s f op k else (sOut s f op k).set k (s.getD k 0)
/-- The bag that leaves, when the first k windows are done. -/
def sLef (s f : List Int) (op : Bool) (k : Nat) : Int := if k = s.length ∧ 0 < k ∧ op = true ∧ sFlt f (k - 1) ≠ 1 then s.getD (k - 1) 0 else 0
def sAdv (s f : List Int) (op : Bool) : List Int × Int := (sOut s f op s.length, sLef s f op s.length)
/-- The bags from the last window to the first one. -/
def sNz (s : List Int) : List Int := s.filter fun x => !decide (x = 0)
def sBags (s : List Int) : List Int := (sNz s).reverse
def sFree (s : List Int) : Nat := s.countP fun x => decide (x = 0)
theorem sOut_len (s f : List Int) (op : Bool) : ∀ k, (sOut s f op k).length = s.length
  | 0 => by simp [sOut]
  | k + 1 => by
    have := sOut_len s f op k
    unfold sOut
    split
    · exact this
    · split
      · rw [List.length_set]; exact this
      · split
        · exact this
        · rw [List.length_set]; exact this
theorem sTgt_ge (s f : List Int) (k : Nat) : k ≤ sTgt s f k := by unfold sTgt; split <;> (try split) <;> omega
theorem sTgt_lt {s f : List Int} {k : Nat} (h : k + 1 < s.length) : sTgt s f k < s.length := by unfold sTgt; split <;> (try split) <;> omega
/-- A bag does not reach the window of the next one. -/
theorem sTgt_next {s f : List Int} {k m : Nat} (hkm : k < m) (hm : s.getD m 0 ≠ 0) : sTgt s f k < m := by
  unfold sTgt
  split
  · exact hkm
  · rename_i h1
    have h2 : s.getD (k + 1) 0 = 0 := by
      have := not_or.1 h1
      exact Classical.not_not.1 this.2
    have h3 : m ≠ k + 1 := fun e => hm (by rw [e]; exact h2)
    split
    · rename_i h4
      have h5 : m ≠ k + 2 := fun e => hm (by rw [e]; exact h4.2.2)
      omega
    · omega
theorem sNz_zeros {l : List Int} (h : ∀ j, j < l.length → l.getD j 0 = 0) : sNz l = [] := by
  unfold sNz
  rw [List.filter_eq_nil_iff]
  intro x hx
  obtain ⟨j, hj, rfl⟩ := List.getElem_of_mem hx
  have := h j hj
  rw [List.getD_eq_getElem?_getD, List.getElem?_eq_getElem hj] at this
  simpa using this
theorem sNz_set {o : List Int} {t : Nat} {v : Int} (ht : t < o.length) (h : ∀ j, t ≤ j → o.getD j 0 = 0) (hv : v ≠ 0) : sNz (o.set t v) = sNz o ++ [v] := by
  have e1 : o.set t v = o.take t ++ v :: o.drop (t + 1) := List.set_eq_take_append_cons_drop.trans (if_pos ht)
  have hz : ∀ m, t ≤ m → sNz (o.drop m) = [] := fun m hm => sNz_zeros fun j _ => by
    rw [List.getD_eq_getElem?_getD, List.getElem?_drop, ← List.getD_eq_getElem?_getD]
    exact h _ (by omega)
  have e2 : sNz o = sNz (o.take t) ++ sNz (o.drop t) := by
    unfold sNz; rw [← List.filter_append, List.take_append_drop]
  rw [e1, e2, hz t (Nat.le_refl _)]
  unfold sNz at *
  rw [List.filter_append, List.filter_cons_of_pos (by simpa using hv), hz (t + 1) (by omega), List.append_nil]
theorem sNz_take {s : List Int} {k : Nat} (h : k < s.length) : sNz (s.take (k + 1)) = sNz (s.take k) ++ if s.getD k 0 = 0 then [] else [s.getD k 0] := by
  unfold sNz
  rw [List.take_succ_eq_append_getElem h, List.filter_append, show s.getD k 0 = s[k] from by rw [List.getD_eq_getElem?_getD, List.getElem?_eq_getElem h]; rfl]
  split
  · rename_i h0; simp [h0]
  · rename_i h0; simp [h0]
/-- Behind the first k windows: the bags of these stand in their order, ahead of all that are to come. -/
structure SInv (s f : List Int) (op : Bool) (k : Nat) : Prop where
  bags : sNz (sOut s f op k) ++ (if sLef s f op k = 0 then [] else [sLef s f op k]) = sNz (s.take k)
  low : ∀ j, (sOut s f op k).getD j 0 ≠ 0 → ∀ m, k ≤ m → s.getD m 0 ≠ 0 → j < m
theorem sLef_no {s f : List Int} {op : Bool} {k : Nat} (h : k < s.length) : sLef s f op k = 0 := by unfold sLef; rw [if_neg (by omega)]
theorem sLef_at {s f : List Int} {op : Bool} {k : Nat} (h : k + 1 = s.length) : sLef s f op (k + 1) = if op = true ∧ sFlt f k ≠ 1 then s.getD k 0 else 0 := by
  unfold sLef
  rw [Nat.add_sub_cancel]
  by_cases hc : op = true ∧ sFlt f k ≠ 1
  · rw [if_pos ⟨h, Nat.succ_pos _, hc⟩, if_pos hc]
  · rw [if_neg (fun e => hc e.2.2), if_neg hc]
theorem set_low {s o : List Int} {k t : Nat} {v : Int} (hl : ∀ j, o.getD j 0 ≠ 0 → ∀ m, k ≤ m → s.getD m 0 ≠ 0 → j < m) (ht : ∀ m, k + 1 ≤ m → s.getD m 0 ≠ 0 → t < m) :
    ∀ j, (o.set t v).getD j 0 ≠ 0 → ∀ m, k + 1 ≤ m → s.getD m 0 ≠ 0 → j < m := fun j hj m hm hs => by
  by_cases e : t = j
  · rw [← e]; exact ht m hm hs
  · refine hl j ?_ m (by omega) hs
    rwa [List.getD_eq_getElem?_getD, List.getElem?_set_ne e, ← List.getD_eq_getElem?_getD] at hj
theorem sInv (s f : List Int) (op : Bool) : ∀ k, k ≤ s.length → SInv s f op k
  | 0, _ => by
    refine ⟨?_, fun j hj => ?_⟩
    · have h1 : sLef s f op 0 = 0 := by unfold sLef; rw [if_neg (by omega)]
      have h2 : sNz (sOut s f op 0) = [] := by simp [sOut, sNz]
      rw [h1, h2]; simp [sNz]
    · exfalso
      apply hj
      show (List.replicate s.length (0 : Int)).getD j 0 = 0
      rw [List.getD_eq_getElem?_getD, List.getElem?_replicate]
      split <;> rfl
  | k + 1, hk => by
    have ih := sInv s f op k (by omega)
    have hb := ih.bags
    rw [sLef_no (by omega), if_pos rfl, List.append_nil] at hb
    have hlow : s.getD k 0 ≠ 0 → ∀ j, k ≤ j → (sOut s f op k).getD j 0 = 0 := fun h0 j hj => Classical.byContradiction fun h => by
      have := ih.low j h k (Nat.le_refl _) h0
      omega
    by_cases h0 : s.getD k 0 = 0
    · have e : sOut s f op (k + 1) = sOut s f op k := by show (if _ then _ else _) = _; rw [if_pos h0]
      refine ⟨?_, fun j hj m hm hs => ?_⟩
      · have hl : sLef s f op (k + 1) = 0 := by
          by_cases hc : k + 1 = s.length
          · rw [sLef_at hc, h0]; simp
          · exact sLef_no (by omega)
        rw [e, hl, if_pos rfl, sNz_take (by omega), if_pos h0, hb]
      · rw [e] at hj
        exact ih.low j hj m (by omega) hs
    · by_cases hc : k + 1 < s.length
      · have e : sOut s f op (k + 1) = (sOut s f op k).set (sTgt s f k) (s.getD k 0) := by show (if _ then _ else _) = _; rw [if_neg h0, if_pos hc]
        refine ⟨?_, ?_⟩
        · rw [e, sLef_no hc, if_pos rfl, List.append_nil, sNz_set (by rw [sOut_len]; exact sTgt_lt hc) (fun j hj => hlow h0 j (Nat.le_trans (sTgt_ge s f k) hj)) h0, sNz_take (by omega), if_neg h0, hb]
        · rw [e]
          exact set_low ih.low fun m hm hs => sTgt_next (by omega) hs
      · have hn : k + 1 = s.length := by omega
        by_cases ho : op = true ∧ sFlt f k ≠ 1
        · have e : sOut s f op (k + 1) = sOut s f op k := by show (if _ then _ else _) = _; rw [if_neg h0, if_neg hc, if_pos ho]
          refine ⟨?_, fun j hj m hm hs => ?_⟩
          · rw [e, sLef_at hn, if_pos ho, if_neg h0, sNz_take (by omega), if_neg h0, hb]
          · rw [e] at hj
            exact ih.low j hj m (by omega) hs
        · have e : sOut s f op (k + 1) = (sOut s f op k).set k (s.getD k 0) := by show (if _ then _ else _) = _; rw [if_neg h0, if_neg hc, if_neg ho]
          refine ⟨?_, ?_⟩
          · rw [e, sLef_at hn, if_neg ho, if_pos rfl, List.append_nil, sNz_set (by rw [sOut_len]; omega) (fun j hj => hlow h0 j hj) h0, sNz_take (by omega), if_neg h0, hb]
          · rw [e]
            exact set_low ih.low fun m hm hs => by omega
/-- No bag is lost, doubled or passed. -/
theorem sAdv_order (s f : List Int) (op : Bool) : (if (sAdv s f op).2 = 0 then [] else [(sAdv s f op).2]) ++ sBags (sAdv s f op).1 = sBags s := by
  have h := (sInv s f op s.length (Nat.le_refl _)).bags
  rw [List.take_length] at h
  unfold sBags
  rw [← h, List.reverse_append]
  show _ = (if sLef s f op s.length = 0 then [] else [sLef s f op s.length]).reverse ++ (sNz (sOut s f op s.length)).reverse
  unfold sAdv
  split <;> rfl
theorem sAdv_len (s f : List Int) (op : Bool) : (sAdv s f op).1.length = s.length := sOut_len s f op s.length

/-- Windows of which some hold a bag, each with a number of its own. -/
def sWin : List Bool → Nat → List Int
  | [], _ => []
  | b :: r, k => (if b then ((k : Int) + 1) else 0) :: sWin r (k + 1)
/-- All lists of so many bits. -/
def sAll : Nat → List (List Bool)
  | 0 => [[]]
  | n + 1 => (sAll n).flatMap fun r => [false :: r, true :: r]
theorem sAll_mem : ∀ l : List Bool, l ∈ sAll l.length
  | [] => List.mem_singleton.2 rfl
  | b :: r => by
    have := sAll_mem r
    show b :: r ∈ (sAll r.length).flatMap fun r => [false :: r, true :: r]
    rw [List.mem_flatMap]
    exact ⟨r, this, by cases b <;> simp⟩
/-- So many ticks without faults: the windows, and the bags that left. -/
def sRun (op : Bool) : Nat → List Int → List Int × List Int
  | 0, s => (s, [])
  | t + 1, s => ((sRun op t s).1 |> fun w => (sAdv w [] op).1, (sRun op t s).2 ++ if (sAdv (sRun op t s).1 [] op).2 = 0 then [] else [(sAdv (sRun op t s).1 [] op).2])
theorem sRun_len (op : Bool) (s : List Int) : ∀ t, (sRun op t s).1.length = s.length
  | 0 => rfl
  | t + 1 => by show (sAdv (sRun op t s).1 [] op).1.length = _; rw [sAdv_len, sRun_len op s t]
theorem sRun_order (op : Bool) (s : List Int) : ∀ t, (sRun op t s).2 ++ sBags (sRun op t s).1 = sBags s
  | 0 => rfl
  | t + 1 => by
    rw [← sRun_order op s t, ← sAdv_order (sRun op t s).1 [] op, ← List.append_assoc]; rfl
/-- An open strip is empty behind twice as many ticks as it has windows. -/
theorem sDrains_all : ∀ n, n < 9 → ∀ l ∈ sAll n, (sRun true (2 * n) (sWin l 0)).1.all (fun x => decide (x = 0)) = true := by decide +kernel
/-- A closed strip keeps its bags; behind so many ticks they stand without gaps at its end. -/
theorem sStops_all : ∀ n, n < 9 → ∀ l ∈ sAll n, ((List.range n).all fun i => (!decide ((sRun false (2 * n) (sWin l 0)).1.getD i 0 = 0)) == decide (n ≤ i + (n - sFree (sWin l 0)))) = true := by decide +kernel
theorem sLef_closed (s f : List Int) (k : Nat) : sLef s f false k = 0 := by unfold sLef; rw [if_neg (by simp)]
/-- The first window with a bag, or the number of windows. -/
def sIdx (s : List Int) (b : Int) : Nat := s.findIdx fun x => decide (x = b)
/-- One fault at one window: it changes only what happens to the bag there. -/
def sFau (n k : Nat) (sl : Bool) : List Int := (List.replicate n (0 : Int)).set k (if sl then 2 else 1)
def sFaultsB (s : List Int) (k : Nat) (sl : Bool) : Bool :=
  (((List.range s.length).all fun i => decide (i = k) || (decide (s.getD i 0 = 0) || decide (sIdx (sAdv s [] true).1 (s.getD i 0) = sIdx (sAdv s (sFau s.length k sl) true).1 (s.getD i 0)))) &&
  (if s.getD k 0 = 0 then decide ((sAdv s [] true).1 = (sAdv s (sFau s.length k sl) true).1) && decide ((sAdv s [] true).2 = (sAdv s (sFau s.length k sl) true).2)
   else if sl then (decide (sIdx (sAdv s [] true).1 (s.getD k 0) ≤ sIdx (sAdv s (sFau s.length k sl) true).1 (s.getD k 0)) && (decide (sIdx (sAdv s (sFau s.length k sl) true).1 (s.getD k 0) ≤ sIdx (sAdv s [] true).1 (s.getD k 0) + 1) && (decide (k < sIdx (sAdv s [] true).1 (s.getD k 0)) || decide (sIdx (sAdv s (sFau s.length k sl) true).1 (s.getD k 0) = sIdx (sAdv s [] true).1 (s.getD k 0)))))
   else decide (sIdx (sAdv s (sFau s.length k sl) true).1 (s.getD k 0) = k)))
theorem sFaults_all : ∀ n, n < 9 → ∀ l ∈ sAll n, ((List.range n).all fun k => sFaultsB (sWin l 0) k true && sFaultsB (sWin l 0) k false) = true := by decide +kernel
end Go.Proofs.Ytfddpdognelhmaa
