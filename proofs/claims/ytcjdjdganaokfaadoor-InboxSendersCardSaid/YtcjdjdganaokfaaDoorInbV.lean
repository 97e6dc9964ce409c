/-
  The mathematics of InboxOrder: one sender's messages in any order within the window.
-/
import Derived.Test.YtcjdjdganaokfaaDoorInbS
namespace Go.Proofs.YtcjdjdganaokfaaDoor
open Go.RowKit

theorem curS_one {p : ByteArray} {s : Option Snd} {u : Snd} (h : One p (some u)) (e : curS p s = u) : One p s := by
  have e' : curS p (some u) = u := rfl
  exact ⟨by rw [e]; exact h.port, by rw [e]; exact h.few, by rw [e]; exact h.len, by rw [e]; exact h.asc, by rw [e]; exact h.n1, by rw [e]; exact h.n2, h.self⟩
theorem curS_plain {p : ByteArray} {s : Option Snd} {u : Snd} (h : PlainS u) (e : curS p s = u) : ∀ v ∈ oneL s, PlainS v := fun v hv => by
  cases s with
  | none => cases hv
  | some t =>
    rw [List.mem_singleton.1 (show v ∈ [t] from hv)]
    have : t = u := e
    rw [this]; exact h
/-- What the law knows of the numbers that came: those before next, none behind n. -/
structure OrdD (n next : Nat) (D : Nat → Bool) : Prop where
  lo : 1 ≤ next
  hi : next ≤ n + 1
  n12 : n ≤ 12
  old : ∀ i, 1 ≤ i → i < next → D i = true
  new : ∀ i, n < i → D i = false
  gap : D next = false
/-- The verdict on number k. -/
def verD (D : Nat → Bool) (next k : Nat) : Int := if D k then 3 else if next < k then 2 else 1
theorem ver_D {n next k win : Nat} {D : Nat → Bool} (h : OrdD n next D) (h1 : 1 ≤ k) (h2 : k ≤ n) (h3 : k < next + win) : vrdM (sndD ARN D next (14 - next)) (win : Int) (nbd ARN (k : Int)) = verD D next k := by
  have := h.n12
  have := h.hi
  by_cases hk : k < next
  · rw [decD_old hk]; unfold verD; rw [h.old k h1 hk, if_pos rfl]
  · exact decD (by omega) (by omega) h3
/-- How many messages are released. -/
def relD (D : Nat → Bool) (next k : Nat) : Nat := if D k then 0 else run (addD D k) next (14 - next)
def setD (D : Nat → Bool) (k : Nat) : Nat → Bool := addD D k
theorem rel_le {n next k : Nat} {D : Nat → Bool} (h : OrdD n next D) (h2 : k ≤ n) : next + relD D next k ≤ n + 1 := by
  have := h.hi
  unfold relD
  split
  · omega
  · rcases Nat.lt_or_ge (n + 1) (next + run (addD D k) next (14 - next)) with hh | hh
    · have := run_in (D := addD D k) (14 - next) next (i := n + 1) (by omega) hh
      unfold addD at this
      rw [h.new (n + 1) (by omega), decide_eq_false (by omega)] at this
      cases this
    · exact hh
theorem ordD_step {n next k : Nat} {D : Nat → Bool} (h : OrdD n next D) (h1 : 1 ≤ k) (h2 : k ≤ n) : OrdD n (next + relD D next k) (addD D k) where
  lo := by have := h.lo; omega
  hi := rel_le h h2
  n12 := h.n12
  old := fun i h3 h4 => by
    by_cases h5 : i < next
    · unfold addD; rw [h.old i h3 h5, Bool.true_or]
    · unfold relD at h4
      split at h4
      · omega
      · exact run_in (14 - next) next (by omega) h4
  new := fun i h3 => by unfold addD; rw [h.new i h3, decide_eq_false (by omega)]; rfl
  gap := by
    have hn := h.n12
    have hi := h.hi
    unfold relD
    split
    · rename_i hd
      rw [Nat.add_zero]
      unfold addD
      have : next ≠ k := fun e => by rw [← e, h.gap] at hd; cases hd
      rw [h.gap, decide_eq_false this]; rfl
    · rename_i hd
      refine run_end (14 - next) next ?_
      have := rel_le h h2
      unfold relD at this
      rw [if_neg hd] at this
      omega
theorem nxt_D {n next k win : Nat} {D : Nat → Bool} {s : Option Snd} (h : OrdD n next D) (hs : curS ARN s = sndD ARN D next (14 - next)) (h1 : 1 ≤ k) (h2 : k ≤ n) (h3 : k < next + win) :
    curS ARN (nxtS ARN s (win : Int) (nbd ARN (k : Int))) = sndD ARN (addD D k) (next + relD D next k) (14 - (next + relD D next k)) ∧ outS ARN s (win : Int) (nbd ARN (k : Int)) = seqL ARN next (relD D next k) := by
  have hv : vrdM (curS ARN s) (win : Int) (nbd ARN (k : Int)) = verD D next k := by rw [hs]; exact ver_D h h1 h2 h3
  have hn := h.n12
  have hi := h.hi
  unfold nxtS outS
  rw [hv]
  unfold verD relD
  cases hd : D k with
  | true =>
    have e3 : ¬ ((3 : Int) = 1 ∨ (3 : Int) = 2) := by decide
    simp only [eq_self, if_true, e3, if_false, Nat.add_zero]
    refine ⟨?_, rfl⟩
    rw [hs]
    have : addD D k = D := by
      funext i
      unfold addD
      by_cases e : i = k
      · rw [e, hd]; rfl
      · rw [decide_eq_false e, Bool.or_false]
    rw [this]
  | false =>
    have hk : next ≤ k := by
      rcases Nat.lt_or_ge k next with h5 | h5
      · rw [h.old k h1 h5] at hd; cases hd
      · exact h5
    obtain ⟨e1, e2⟩ := rcvD (p := ARN) (D := D) (lo := next) (c := 14 - next) (k := k) hk (by omega) hd
    rw [if_neg Bool.false_ne_true, if_neg Bool.false_ne_true, if_pos (by split <;> simp), if_pos (by split <;> simp), hs, e1, e2]
    refine ⟨?_, rfl⟩
    show sndD ARN _ _ _ = _
    rw [Nat.sub_sub]
theorem ordD_one {n next : Nat} {D : Nat → Bool} {s : Option Snd} (h : OrdD n next D) (hs : curS ARN s = sndD ARN D next (14 - next)) : One ARN s :=
  curS_one (oneD (p := ARN) (D := D) self_ARN h.lo (by have := h.hi; have := h.n12; omega) (by omega)) hs
theorem rel_pos {n next : Nat} {D : Nat → Bool} (h : OrdD n next D) (h2 : next ≤ n) : 1 ≤ relD D next next := by
  have := h.n12
  unfold relD
  rw [h.gap, if_neg Bool.false_ne_true]
  obtain ⟨c, hc⟩ : ∃ c, 14 - next = c + 1 := ⟨13 - next, by omega⟩
  rw [hc]
  unfold run
  rw [if_pos (by unfold addD; simp)]
  omega
theorem ordD_start {n : Nat} (h1 : 1 ≤ n) (h2 : n ≤ 12) : OrdD n 1 (fun _ => false) := ⟨Nat.le_refl _, by omega, h2, fun i _ _ => by omega, fun _ _ => rfl, rfl⟩
theorem curS_start : curS ARN none = sndD ARN (fun _ => false) 1 (14 - 1) := rfl
/-- The array of the numbers that came. -/
def doneA (D : Nat → Bool) : Array Value := ((List.range 14).map fun i => Value.bool (D i)).toArray
theorem doneA_at (D : Nat → Bool) (i : Nat) (h : i < 14) : (doneA D)[i]? = some (.bool (D i)) := by
  unfold doneA
  simp [h]
theorem doneA_set (D : Nat → Bool) (k : Nat) : (doneA D).setIfInBounds k (.bool true) = doneA (addD D k) := by
  apply Array.ext_getElem?
  intro i
  rw [Array.getElem?_setIfInBounds]
  have hsz : (doneA D).size = 14 := by unfold doneA; simp
  by_cases hi : i < 14
  · rw [doneA_at (addD D k) i hi]
    by_cases e : k = i
    · subst e; rw [if_pos rfl, if_pos (by omega)]; unfold addD; simp
    · rw [if_neg e, doneA_at D i hi]; unfold addD; rw [decide_eq_false (fun h => e h.symm), Bool.or_false]
  · have h2 : (doneA (addD D k)).size = 14 := by unfold doneA; simp
    rw [Array.getElem?_eq_none (xs := doneA (addD D k)) (by omega)]
    split
    · split
      · omega
      · rfl
    · exact Array.getElem?_eq_none (by omega)
theorem doneA_start : doneA (fun _ => false) = Array.replicate 14 (.bool false) := rfl

set_option maxHeartbeats 1000000 in
theorem more_any (B b : Nat) (w : World) (h : Src B b w) :
    Calls Tryd.prog 17 #[.pointer (some ⟨b, 0, none⟩)] w fun e w' => ∃ v : Bool, e = .returned (.bool v) ∧ Below w.heap.size w w' := by
  obtain ⟨hbase, ⟨A, n, c, k, e1, e2, e3, e4, e5⟩, hfree, hlt⟩ := h
  clear e5
  by_cases hk : (k : Int) < (n : Int)
  · go_enter Tryd.func17, Tryd.ntmps17
    go_wp2_with fail
    go_quiet (fail)
    go_wp2
    go_ret
    exact ⟨_, rfl, draws (Below.refl _ _) _⟩
  · go_enter Tryd.func17, Tryd.ntmps17
    go_wp2_with fail
    go_quiet (fail)
    go_wp2
    go_ret
    exact ⟨_, rfl, draws (Below.refl _ _) _⟩
end Go.Proofs.YtcjdjdganaokfaaDoor
