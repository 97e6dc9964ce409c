/-
  Lanes (layer 17): the program's isTime, isSize, validate; the first number that a test finds.
-/
import Derived.Test.YtmmhchhekmcihaaLanQ
namespace Go.Proofs.Ytmmhchhekmcihaa
open Go.RowKit

/-- The first place that passes, or -1. -/
def ixI (p : Int → Bool) (l : List Int) : Int := if (l.takeWhile fun x => !p x).length < l.length then ((l.takeWhile fun x => !p x).length : Int) else -1
theorem tw_at {α : Type} {p : α → Bool} {d : α} : ∀ {l : List α} {k : Nat}, k < l.length → (∀ j, j < k → p (l.getD j d) = false) → p (l.getD k d) = true → (l.takeWhile fun x => !p x).length = k
  | [], k, h, _, _ => absurd h (Nat.not_lt_zero _)
  | x :: l, 0, _, _, h => by rw [List.takeWhile_cons_of_neg (by simpa using h)]; rfl
  | x :: l, k + 1, hk, hj, h => by
    rw [List.takeWhile_cons_of_pos (by have := hj 0 (by omega); simpa using this), List.length_cons, tw_at (l := l) (k := k) (d := d) (by simpa using hk) (fun j hj' => hj (j + 1) (by omega)) h]
theorem tw_end {α : Type} {p : α → Bool} {d : α} : ∀ {l : List α}, (∀ j, j < l.length → p (l.getD j d) = false) → (l.takeWhile fun x => !p x).length = l.length
  | [], _ => rfl
  | x :: l, h => by
    rw [List.takeWhile_cons_of_pos (by have := h 0 (by simp); simpa using this), List.length_cons, tw_end (l := l) (d := d) (fun j hj => h (j + 1) (by simpa using hj)), List.length_cons]
theorem ixI_at {p : Int → Bool} {l : List Int} {k : Nat} (hk : k < l.length) (hj : ∀ j, j < k → p (l.getD j 0) = false) (h : p (l.getD k 0) = true) : ixI p l = k := by
  unfold ixI; rw [tw_at hk hj h, if_pos hk]
theorem ixI_end {p : Int → Bool} {l : List Int} (h : ∀ j, j < l.length → p (l.getD j 0) = false) : ixI p l = -1 := by
  unfold ixI; rw [tw_end h, if_neg (Nat.lt_irrefl _)]
theorem none_step {p : Int → Bool} {l : List Int} {k : Nat} (h : ∀ j, j < k → p (l.getD j 0) = false) (h1 : p (l.getD k 0) = false) : ∀ j, j < k + 1 → p (l.getD j 0) = false := fun j hj => by
  rcases Nat.lt_or_ge j k with h2 | h2
  · exact h j h2
  · obtain rfl : j = k := by omega
    exact h1
theorem any_at {p : Int → Bool} {l : List Int} : decide (0 ≤ ixI p l) = l.any p := by
  rw [Bool.eq_iff_iff, decide_eq_true_eq, List.any_eq_true]
  constructor
  · intro h
    apply Classical.byContradiction
    intro hc
    have := ixI_end (p := p) (l := l) (fun j hj => by
      cases hp : p (l.getD j 0) with
      | false => rfl
      | true => exact absurd ⟨_, by rw [at_k hj]; exact List.getElem_mem hj, hp⟩ hc)
    omega
  · rintro ⟨x, hx, hp⟩
    unfold ixI
    split
    · omega
    · rename_i h
      have hl := (List.takeWhile_prefix (fun x => !p x) (l := l)).length_le
      have he : l.takeWhile (fun x => !p x) = l := (List.takeWhile_prefix (fun x => !p x)).eq_of_length (by omega)
      rw [← he] at hx
      have := List.all_takeWhile (l := l) (p := fun x => !p x)
      have := List.all_eq_true.1 this x hx
      rw [hp] at this
      cases this
def timB (x : Int) : Bool := decide (0 ≤ x ∧ x ≤ 1048576)
def notT (x : Int) : Bool := !timB x
def negI (x : Int) : Bool := decide (x < 0)
theorem any_notT (due : List Int) : due.any notT = !decide (∀ x ∈ due, 0 ≤ x ∧ x ≤ 1048576) := by
  rw [Bool.eq_iff_iff, List.any_eq_true, Bool.not_eq_true', decide_eq_false_iff_not]
  constructor
  · rintro ⟨x, hx, h⟩ hc
    have := hc x hx
    simp [notT, timB, this] at h
  · intro h
    apply Classical.byContradiction
    intro hc
    refine h fun x hx => ?_
    apply Classical.byContradiction
    intro hx2
    exact hc ⟨x, hx, by simp only [notT, timB, Bool.not_eq_true', decide_eq_false_iff_not]; exact hx2⟩
theorem isTime_any (x : Int) (w : World) : Calls Try.prog 48 #[.int .i64 x] w fun e w' => e = .returned (.bool (timB x)) ∧ w = w' := by
  by_cases h1 : 0 ≤ x
  · by_cases h2 : x ≤ 1048576
    · go_enter Try.func48, Try.ntmps48
      go_wp2
      go_ret
      exact ⟨ret_bool (by unfold timB; rw [decide_eq_true ⟨h1, h2⟩]), rfl⟩
    · go_enter Try.func48, Try.ntmps48
      go_wp2
      go_ret
      exact ⟨ret_bool (by unfold timB; rw [eq_comm, decide_eq_false_iff_not]; omega), rfl⟩
  · go_enter Try.func48, Try.ntmps48
    go_wp2
    go_ret
    exact ⟨ret_bool (by unfold timB; rw [eq_comm, decide_eq_false_iff_not]; omega), rfl⟩
theorem isSize_any (x : Int) (w : World) : Calls Try.prog 42 #[.int .i64 x] w fun e w' => e = .returned (.bool (decide (1 ≤ x ∧ x ≤ 20))) ∧ w = w' := by
  by_cases h1 : 1 ≤ x
  · by_cases h2 : x ≤ 20
    · go_enter Try.func42, Try.ntmps42
      go_wp2
      go_ret
      exact ⟨ret_bool (by rw [decide_eq_true ⟨h1, h2⟩]), rfl⟩
    · go_enter Try.func42, Try.ntmps42
      go_wp2
      go_ret
      exact ⟨ret_bool (by rw [eq_comm, decide_eq_false_iff_not]; omega), rfl⟩
  · go_enter Try.func42, Try.ntmps42
    go_wp2
    go_ret
    exact ⟨ret_bool (by rw [eq_comm, Bool.and_eq_false_iff]; exact .inl (by rw [decide_eq_false_iff_not]; omega)), rfl⟩
theorem val1_any (x : Int) (w : World) : Calls Try.prog 51 #[.int .i64 x] w fun e w' => e = .returned (.bool (notT x)) ∧ w = w' := by
  go_enter Try.func51, Try.ntmps51
  go_wp2_with (go_at_call 48; refine (isTime_any _ _).mono ?_; rintro e w' ⟨rfl, rfl⟩)
  go_ret
  exact ⟨rfl, rfl⟩
theorem chk1_any (x : Int) (w : World) : Calls Try.prog 40 #[.int .i64 x] w fun e w' => e = .returned (.bool (negI x)) ∧ w = w' := by
  go_enter Try.func40, Try.ntmps40
  go_wp2
  go_ret
  exact ⟨rfl, rfl⟩

set_option maxHeartbeats 1000000 in
theorem ixV_any (b : Nat) (l : List Int) (A : Option Addr) (c : Nat) (w : World) (hz : l.length ≤ 1000000) (h : NumsIn b w A l) :
    Calls Try.prog 53 #[.slice A l.length c, .func (.func 51) #[] #[]] w fun e w' => e = .returned (.int .i64 (ixI notT l)) ∧ w = w' := by
  have HN := hide h
  clear h
  go_enter Try.func53, Try.ntmps53
  go_wp2
  go_loop [8] (fun i => ∃ k : Nat, k ≤ l.length ∧ i = .int .i64 k ∧ Hid (∀ j, j < k → notT (l.getD j 0) = false)) (fun i => l.length - (intOf i).toNat)
  case atStart => exact ⟨0, Nat.zero_le _, rfl, hide fun j hj => absurd hj (Nat.not_lt_zero _)⟩
  case round =>
    obtain ⟨k, hk, rfl, HP⟩ := hrel
    by_cases hlt : k < l.length
    · obtain ⟨g, off, rfl, _, hc⟩ := (unhide HN) (by omega)
      have c0 := hc k hlt
      clear hc
      have kl : (k : Int) < (l.length : Int) := by omega
      have k0 : (0 : Int) ≤ (k : Int) := by omega
      have HE := hide fun h1 => ixI_at hlt (unhide HP) h1
      have HS := hide fun h1 => none_step (unhide HP) h1
      generalize hx : l.getD k 0 = x at c0
      rw [hx] at HE HS
      have HE := hide (unhide HE)
      have HS := hide (unhide HS)
      clear hx
      obtain ⟨q, hq⟩ : ∃ q, notT x = q := ⟨_, rfl⟩
      have HQ := hide hq
      have HC := hide (fun W => val1_any x W)
      rw [hq] at HC
      have HC := hide (unhide HC)
      clear hq
      cases q with
      | true =>
        go_wp2_with (go_at_call 51; refine (unhide HC _).mono ?_; rintro e w' ⟨rfl, rfl⟩)
        go_ret
        exact ⟨ret_int (unhide HE (unhide HQ)).symm, rfl⟩
      | false =>
        go_wp2_with (go_at_call 51; refine (unhide HC _).mono ?_; rintro e w' ⟨rfl, rfl⟩)
        go_round
        case rel => exact ⟨k + 1, by omega, by go_num, hide (unhide HS (unhide HQ))⟩
        case measure => simp [intOf]; omega
    · obtain rfl : k = l.length := by omega
      have kl : ¬ (l.length : Int) < (l.length : Int) := by omega
      go_wp2
      go_ret
      exact ⟨ret_int (ixI_end (unhide HP)).symm, rfl⟩
theorem hasV_any (b : Nat) (l : List Int) (A : Option Addr) (c : Nat) (w : World) (hz : l.length ≤ 1000000) (h : NumsIn b w A l) :
    Calls Try.prog 39 #[.slice A l.length c, .func (.func 51) #[] #[]] w fun e w' => e = .returned (.bool (l.any notT)) ∧ w = w' := by
  have HC := hide (ixV_any b l A c w hz h)
  have HA := hide (any_at (p := notT) (l := l))
  clear h
  go_enter Try.func39, Try.ntmps39
  go_wp2_with (go_at_call 53; refine (unhide HC).mono ?_; rintro e w' ⟨rfl, rfl⟩)
  go_ret
  exact ⟨ret_bool (unhide HA), rfl⟩

set_option maxHeartbeats 1000000 in
theorem ixC_any (b : Nat) (l : List Int) (A : Option Addr) (c : Nat) (w : World) (hz : l.length ≤ 1000000) (h : NumsIn b w A l) :
    Calls Try.prog 53 #[.slice A l.length c, .func (.func 40) #[] #[]] w fun e w' => e = .returned (.int .i64 (ixI negI l)) ∧ w = w' := by
  have HN := hide h
  clear h
  go_enter Try.func53, Try.ntmps53
  go_wp2
  go_loop [8] (fun i => ∃ k : Nat, k ≤ l.length ∧ i = .int .i64 k ∧ Hid (∀ j, j < k → negI (l.getD j 0) = false)) (fun i => l.length - (intOf i).toNat)
  case atStart => exact ⟨0, Nat.zero_le _, rfl, hide fun j hj => absurd hj (Nat.not_lt_zero _)⟩
  case round =>
    obtain ⟨k, hk, rfl, HP⟩ := hrel
    by_cases hlt : k < l.length
    · obtain ⟨g, off, rfl, _, hc⟩ := (unhide HN) (by omega)
      have c0 := hc k hlt
      clear hc
      have kl : (k : Int) < (l.length : Int) := by omega
      have k0 : (0 : Int) ≤ (k : Int) := by omega
      have HE := hide fun h1 => ixI_at hlt (unhide HP) h1
      have HS := hide fun h1 => none_step (unhide HP) h1
      generalize hx : l.getD k 0 = x at c0
      rw [hx] at HE HS
      have HE := hide (unhide HE)
      have HS := hide (unhide HS)
      clear hx
      obtain ⟨q, hq⟩ : ∃ q, negI x = q := ⟨_, rfl⟩
      have HQ := hide hq
      have HC := hide (fun W => chk1_any x W)
      rw [hq] at HC
      have HC := hide (unhide HC)
      clear hq
      cases q with
      | true =>
        go_wp2_with (go_at_call 40; refine (unhide HC _).mono ?_; rintro e w' ⟨rfl, rfl⟩)
        go_ret
        exact ⟨ret_int (unhide HE (unhide HQ)).symm, rfl⟩
      | false =>
        go_wp2_with (go_at_call 40; refine (unhide HC _).mono ?_; rintro e w' ⟨rfl, rfl⟩)
        go_round
        case rel => exact ⟨k + 1, by omega, by go_num, hide (unhide HS (unhide HQ))⟩
        case measure => simp [intOf]; omega
    · obtain rfl : k = l.length := by omega
      have kl : ¬ (l.length : Int) < (l.length : Int) := by omega
      go_wp2
      go_ret
      exact ⟨ret_int (ixI_end (unhide HP)).symm, rfl⟩
theorem hasC_any (b : Nat) (l : List Int) (A : Option Addr) (c : Nat) (w : World) (hz : l.length ≤ 1000000) (h : NumsIn b w A l) :
    Calls Try.prog 39 #[.slice A l.length c, .func (.func 40) #[] #[]] w fun e w' => e = .returned (.bool (l.any negI)) ∧ w = w' := by
  have HC := hide (ixC_any b l A c w hz h)
  have HA := hide (any_at (p := negI) (l := l))
  clear h
  go_enter Try.func39, Try.ntmps39
  go_wp2_with (go_at_call 53; refine (unhide HC).mono ?_; rintro e w' ⟨rfl, rfl⟩)
  go_ret
  exact ⟨ret_bool (unhide HA), rfl⟩

theorem val_any (b : Nat) (l : List Int) (A : Option Addr) (c : Nat) (w : World) (hz : l.length ≤ 1000000) (h : NumsIn b w A l) :
    Calls Try.prog 34 #[.slice A l.length c] w fun e w' => e = .returned (.int .i64 (valE l)) ∧ w = w' := by
  have HC := hide (hasV_any b l A c w hz h)
  have HV := hide (show valE l = if 200 < l.length then 2 else if l.any notT = true then 1 else 0 from by
    rw [any_notT]; unfold valE
    by_cases h1 : 200 < l.length
    · rw [if_pos h1, if_pos h1]
    · rw [if_neg h1, if_neg h1]
      by_cases h2 : ∀ x ∈ l, 0 ≤ x ∧ x ≤ 1048576
      · rw [if_pos h2, decide_eq_true h2]; rfl
      · rw [if_neg h2, decide_eq_false h2]; rfl)
  clear h
  by_cases h1 : 200 < l.length
  · have hl : decide ((200 : Int) < (l.length : Int)) = true := by rw [decide_eq_true_eq]; omega
    have HV' := hide (show valE l = 2 from by rw [unhide HV, if_pos h1])
    go_enter Try.func34, Try.ntmps34
    go_wp2
    go_ret
    exact ⟨ret_int (unhide HV').symm, rfl⟩
  · have hl : decide ((200 : Int) < (l.length : Int)) = false := by rw [decide_eq_false_iff_not]; omega
    obtain ⟨q, hq⟩ : ∃ q, l.any notT = q := ⟨_, rfl⟩
    have HV' := hide (show valE l = if q = true then 1 else 0 from by rw [unhide HV, if_neg h1, hq])
    rw [hq] at HC
    have HC := hide (unhide HC)
    clear hq
    cases q with
    | true =>
      go_enter Try.func34, Try.ntmps34
      go_wp2_with (go_at_call 39; refine (unhide HC).mono ?_; rintro e w' ⟨rfl, rfl⟩)
      go_ret
      exact ⟨ret_int (unhide HV').symm, rfl⟩
    | false =>
      go_enter Try.func34, Try.ntmps34
      go_wp2_with (go_at_call 39; refine (unhide HC).mono ?_; rintro e w' ⟨rfl, rfl⟩)
      go_ret
      exact ⟨ret_int (unhide HV').symm, rfl⟩
end Go.Proofs.Ytmmhchhekmcihaa
