/-
  Lanes (layer 17): mathematics of the store of lanes: putting, taking; a store filled like Assign gives bags in the order of their due times.
-/
import Derived.Test.YtmmhchhekmcihaaLanM
namespace Go.Proofs.Ytmmhchhekmcihaa

/-- A bag: its number, its due time. -/
abbrev Bg := Int × Int
def endS (l : List Bg) : Int := match l.getLast? with | none => 0 | some s => s.2
/-- 0: it fits; 1: it is empty; 2: another one. -/
def rankS (l : List Bg) (due : Int) : Nat := match l.getLast? with | none => 1 | some s => if s.2 ≤ due then 0 else 2
def betterS (a b : List Bg) (due : Int) : Bool := if rankS a due ≠ rankS b due ∨ rankS a due = 1 then decide (rankS a due < rankS b due) else if rankS a due = 0 then decide (endS b < endS a) else decide (endS a < endS b)
/-- The best lane among the first k ones. -/
def bestS (dp : Nat) (L : List (List Bg)) (due : Int) : Nat → Option Nat
  | 0 => none
  | k + 1 => match bestS dp L due k with
    | none => if (L.getD k []).length < dp then some k else none
    | some b => if (L.getD k []).length < dp ∧ betterS (L.getD k []) (L.getD b []) due = true then some k else some b
def hasB (l : List Bg) (bag : Int) : Bool := l.any fun s => s.1 == bag
def posB (l : List Bg) (bag : Int) : Nat := (l.takeWhile fun s => !(s.1 == bag)).length
def findS (L : List (List Bg)) (bag : Int) : Nat := (L.takeWhile fun l => !hasB l bag).length
/-- The bags, the lane, the error. -/
def putS (dp : Nat) (L : List (List Bg)) (s : Bg) : List (List Bg) × Nat × Int :=
  if s.1 < 1 ∨ 40 < s.1 ∨ s.2 < 0 ∨ 1048576 < s.2 then ([], 0, 1)
  else if findS L s.1 < L.length then ([], 0, 5)
  else match bestS dp L s.2 L.length with
    | none => ([], 0, 8)
    | some k => (L.set k (L.getD k [] ++ [s]), k, 0)
def takeS (L : List (List Bg)) (bag : Int) : List (List Bg) × List Int × Int :=
  if findS L bag < L.length then
    (L.set (findS L bag) ((L.getD (findS L bag) []).drop (posB (L.getD (findS L bag) []) bag + 1) ++ (L.getD (findS L bag) []).take (posB (L.getD (findS L bag) []) bag)), ((L.getD (findS L bag) []).take (posB (L.getD (findS L bag) []) bag)).map (·.1), 0)
  else ([], [], 6)

/-! Numbers that pass a test. -/
theorem last_filter {q : Nat → Bool} {j : Nat} : ∀ {i : Nat}, j < i → q j = true → (∀ m, j < m → m < i → q m = false) → ((List.range i).filter q).getLast? = some j
  | 0, h, _, _ => absurd h (Nat.not_lt_zero _)
  | i + 1, h, hq, hn => by
    rw [List.range_succ, List.filter_append]
    rcases Nat.lt_or_ge j i with h' | h'
    · rw [show [i].filter q = [] from by rw [List.filter_cons_of_neg (by rw [hn i h' (Nat.lt_succ_self _)]; decide)]; rfl, List.append_nil]
      exact last_filter h' hq fun m a b => hn m a (by omega)
    · obtain rfl : j = i := by omega
      rw [show [j].filter q = [j] from by rw [List.filter_cons_of_pos hq]; rfl, List.getLast?_concat]
theorem none_filter {q : Nat → Bool} {i : Nat} (h : ∀ m, m < i → q m = false) : (List.range i).filter q = [] := by
  rw [List.filter_eq_nil_iff]; intro a ha; rw [h a (List.mem_range.mp ha)]; decide
theorem head_filter {q : Nat → Bool} {j : Nat} : ∀ {i : Nat}, j < i → q j = true → (∀ m, m < j → q m = false) → (List.range i).filter q = j :: (List.range i).filter fun a => q a && !(a == j)
  | 0, h, _, _ => absurd h (Nat.not_lt_zero _)
  | i + 1, h, hq, hn => by
    rw [List.range_succ, List.filter_append, List.filter_append]
    rcases Nat.lt_or_ge j i with h' | h'
    · rw [head_filter h' hq hn, List.cons_append]
      congr 2
      by_cases hi : q i = true
      · rw [List.filter_cons_of_pos hi, List.filter_cons_of_pos (by simp [hi]; omega)]; rfl
      · rw [List.filter_cons_of_neg hi, List.filter_cons_of_neg (by simp [hi])]; rfl
    · obtain rfl : j = i := by omega
      rw [none_filter hn, none_filter fun m hm => by simp [hn m hm], List.filter_cons_of_pos hq, List.filter_cons_of_neg (by simp)]; rfl
/-- One less. -/
theorem less_filter {q : Nat → Bool} {j : Nat} : ∀ {i : Nat}, j < i → q j = true → ((List.range i).filter q).length = ((List.range i).filter fun a => q a && !(a == j)).length + 1
  | 0, h, _ => absurd h (Nat.not_lt_zero _)
  | i + 1, h, hq => by
    rw [List.range_succ, List.filter_append, List.filter_append, List.length_append, List.length_append]
    rcases Nat.lt_or_ge j i with h' | h'
    · rw [less_filter h' hq]
      by_cases hi : q i = true
      · rw [List.filter_cons_of_pos hi, List.filter_cons_of_pos (by simp [hi]; omega)]; simp
      · rw [List.filter_cons_of_neg hi, List.filter_cons_of_neg (by simp [hi])]; simp
    · obtain rfl : j = i := by omega
      rw [List.filter_cons_of_pos hq, List.filter_cons_of_neg (by simp)]
      rw [show ((List.range j).filter fun a => q a && !(a == j)) = (List.range j).filter q from List.filter_congr fun a ha => by have := List.mem_range.mp ha; simp; intro _; omega]; rfl
theorem some_filter {q : Nat → Bool} {i : Nat} (h : 0 < ((List.range i).filter q).length) : ∃ j, j < i ∧ q j = true := by
  obtain ⟨a, ha⟩ := List.exists_mem_of_length_pos h
  rw [List.mem_filter, List.mem_range] at ha
  exact ⟨a, ha⟩

/-! What a store holds that is filled like Assign. -/
def bgs (due : List Int) (l : List Nat) : List Bg := l.map fun (j : Nat) => (1 + (j : Int), due.getD j 0)
def laneP (due : List Int) (m : Nat) (p : Nat → Bool) (k : Nat) : List Nat := (List.range m).filter fun j => p j && ((asgF due).getD j 0 == k)
def stP (due : List Int) (n m : Nat) (p : Nat → Bool) : List (List Bg) := (List.range n).map fun k => bgs due (laneP due m p k)
theorem stP_len (due : List Int) (n m : Nat) (p : Nat → Bool) : (stP due n m p).length = n := by rw [stP, List.length_map, List.length_range]
theorem stP_at {due : List Int} {n m : Nat} {p : Nat → Bool} {k : Nat} (h : k < n) : (stP due n m p).getD k [] = bgs due (laneP due m p k) := by
  rw [stP, List.getD_eq_getElem?_getD, List.getElem?_map, List.getElem?_range h]; rfl
theorem asg_pre (due : List Int) {i j : Nat} (hj : j < i) : ∀ d, i + d ≤ due.length → (asgK due (i + d)).L.getD j 0 = (asgK due i).L.getD j 0
  | 0, _ => rfl
  | d + 1, h => by
    rw [show i + (d + 1) = (i + d) + 1 from by omega, asgK_step (by omega)]
    show ((asgK due (i + d)).L ++ _).getD j 0 = _
    rw [getD_app (by rw [asg_len (by omega)]; omega), asg_pre due hj d (by omega)]
theorem asg_cut {due : List Int} {i j : Nat} (hj : j < i) (hi : i ≤ due.length) : (asgF due).getD j 0 = (asgK due i).L.getD j 0 := by
  have := asg_pre due hj (due.length - i) (by omega)
  rw [show i + (due.length - i) = due.length from by omega] at this
  exact this
theorem asg_plc {due : List Int} {i : Nat} (hi : i < due.length) : (asgF due).getD i 0 = plc (asgK due i).E (due.getD i 0) := by
  rw [asg_cut (Nat.lt_succ_self i) hi, asgK_step hi]
  show ((asgK due i).L ++ _).getD i 0 = _
  rw [getD_end (asg_len (by omega)).symm]

def allP : Nat → Bool := fun _ => true
theorem lane_last {due : List Int} {i k : Nat} (hi : i ≤ due.length) (hk : k < (asgK due i).E.length) : ∃ j, (bgs due (laneP due i allP k)).getLast? = some (1 + (j : Int), (asgK due i).E.getD k 0) := by
  obtain ⟨j, ⟨h1, h2, h3⟩, h4⟩ := (asgI due i hi).ends k hk
  refine ⟨j, ?_⟩
  rw [bgs, List.getLast?_map, laneP, last_filter (j := j) h1 (by rw [asg_cut h1 hi, h2]; simp [allP]) (fun m a b => by rw [asg_cut b hi]; simpa [allP] using h3 m a b)]
  show some (1 + (j : Int), due.getD j 0) = _
  rw [h4]
theorem lane_none {due : List Int} {i k : Nat} (hi : i ≤ due.length) (hk : (asgK due i).E.length ≤ k) : bgs due (laneP due i allP k) = [] := by
  rw [laneP, none_filter fun m hm => by rw [asg_cut hm hi]; have := (asgI due i hi).low m hm; rw [beq_false_of_ne (by omega), Bool.and_false]]; rfl
theorem rank_some {due : List Int} {i k : Nat} {x : Int} (hi : i ≤ due.length) (hk : k < (asgK due i).E.length) : rankS (bgs due (laneP due i allP k)) x = (if (asgK due i).E.getD k 0 ≤ x then 0 else 2) ∧ endS (bgs due (laneP due i allP k)) = (asgK due i).E.getD k 0 := by
  obtain ⟨j, hj⟩ := lane_last hi hk
  constructor
  · rw [rankS, hj]
  · rw [endS, hj]
theorem rank_none {due : List Int} {i k : Nat} {x : Int} (hi : i ≤ due.length) (hk : (asgK due i).E.length ≤ k) : rankS (bgs due (laneP due i allP k)) x = 1 := by
  rw [lane_none hi hk]; rfl
/-- A lane has no more bags than were put. -/
theorem lane_short (due : List Int) (i k : Nat) (p : Nat → Bool) : (bgs due (laneP due i p k)).length ≤ i := by
  rw [bgs, List.length_map, laneP]
  exact Nat.le_trans (List.length_filter_le ..) (Nat.le_of_eq List.length_range)
/-- Lanes that end behind x: which are best as far as k. -/
theorem best_fill {due : List Int} {n i dp : Nat} {x : Int} (hi : i ≤ due.length) (hd : i < dp) (hx : plc (asgK due i).E x < n) (hn : (asgK due i).E.length ≤ n) : ∀ k, k ≤ n → bestS dp (stP due n i allP) x k = if k ≤ plc (asgK due i).E x then (if k = 0 then none else some (k - 1)) else some (plc (asgK due i).E x)
  | 0, _ => rfl
  | k + 1, hk => by
    have hp := plc_le (asgK due i).E x
    have hlt : (bgs due (laneP due i allP k)).length < dp := Nat.lt_of_le_of_lt (lane_short ..) hd
    rw [bestS, best_fill hi hd hx hn k (by omega), stP_at (by omega)]
    rcases Nat.lt_trichotomy k (plc (asgK due i).E x) with h | h | h
    · rw [if_pos (by omega), if_pos (show k + 1 ≤ _ from h), if_neg (show ¬ k + 1 = 0 by omega)]
      by_cases h0 : k = 0
      · subst h0; rw [if_pos rfl]; simp only []; rw [if_pos hlt]
      · rw [if_neg h0]; simp only []
        obtain ⟨a1, a2⟩ := rank_some (x := x) hi (show k < (asgK due i).E.length by omega)
        obtain ⟨b1, b2⟩ := rank_some (x := x) hi (show k - 1 < (asgK due i).E.length by omega)
        rw [if_neg (by have := plc_ahead h; omega)] at a1
        rw [if_neg (by have := plc_ahead (E := (asgK due i).E) (x := x) (show k - 1 < plc (asgK due i).E x by omega); omega)] at b1
        rw [stP_at (by omega), if_pos ⟨hlt, by
          rw [betterS, a1, b1, if_neg (by omega), if_neg (by omega), a2, b2]
          exact decide_eq_true ((asgI due i hi).desc (k - 1) k (by omega) (by omega))⟩]
        rfl
    · rw [if_pos (by omega), if_neg (show ¬ k + 1 ≤ plc (asgK due i).E x by omega), ← h]
      by_cases h0 : k = 0
      · rw [if_pos h0]; simp only []; rw [if_pos hlt]
      · rw [if_neg h0]; simp only []
        obtain ⟨b1, b2⟩ := rank_some (x := x) hi (show k - 1 < (asgK due i).E.length by omega)
        rw [if_neg (by have := plc_ahead (show k - 1 < plc (asgK due i).E x by omega); omega)] at b1
        rw [stP_at (by omega), if_pos ⟨hlt, by
          rcases Nat.lt_or_ge k (asgK due i).E.length with hE | hE
          · obtain ⟨a1, a2⟩ := rank_some (x := x) hi hE
            rw [if_pos (by have := plc_at (h ▸ hE : plc (asgK due i).E x < (asgK due i).E.length); rw [← h] at this; exact this)] at a1
            rw [betterS, a1, b1, if_pos (.inl (by omega))]; rfl
          · rw [betterS, rank_none hi hE, b1, if_pos (.inr rfl)]; rfl⟩]
    · rw [if_neg (by omega), if_neg (show ¬ k + 1 ≤ plc (asgK due i).E x by omega)]; simp only []
      rw [stP_at hx, if_neg (fun hb => by
        have hb := hb.2
        rcases Nat.lt_or_ge (plc (asgK due i).E x) (asgK due i).E.length with hE | hE
        · obtain ⟨b1, b2⟩ := rank_some (x := x) hi hE
          rw [if_pos (plc_at hE)] at b1
          rcases Nat.lt_or_ge k (asgK due i).E.length with hK | hK
          · obtain ⟨a1, a2⟩ := rank_some (x := x) hi hK
            have hdsc := (asgI due i hi).desc _ _ h hK
            have := plc_at hE
            rw [if_pos (by omega)] at a1
            rw [betterS, a1, b1, if_neg (by omega), if_pos rfl, a2, b2] at hb
            have := of_decide_eq_true hb; omega
          · rw [betterS, rank_none hi hK, b1, if_pos (.inr rfl)] at hb
            have := of_decide_eq_true hb; omega
        · rw [betterS, rank_none hi (Nat.le_trans hE (Nat.le_of_lt h)), rank_none hi hE, if_pos (.inr rfl)] at hb
          have := of_decide_eq_true hb; omega)]
theorem has_none {due : List Int} {m : Nat} {p : Nat → Bool} {k : Nat} {bag : Int} (h : ∀ j, j < m → p j = true → (asgF due).getD j 0 = k → 1 + (j : Int) ≠ bag) : hasB (bgs due (laneP due m p k)) bag = false := by
  rw [hasB, List.any_eq_false]
  intro s hs
  rw [bgs, List.mem_map] at hs
  obtain ⟨j, hj, rfl⟩ := hs
  rw [laneP, List.mem_filter, List.mem_range] at hj
  have h2 := hj.2
  simp only [Bool.and_eq_true, beq_iff_eq] at h2
  have := h j hj.1 h2.1 h2.2
  simpa using this
theorem takeWhile_all {α : Type} {p : α → Bool} : ∀ {l : List α}, (∀ a ∈ l, p a = true) → l.takeWhile p = l
  | [], _ => rfl
  | a :: l, h => by rw [List.takeWhile_cons_of_pos (h a (List.mem_cons_self ..)), takeWhile_all fun b hb => h b (List.mem_cons_of_mem _ hb)]
theorem getElem_getD {α : Type} {l : List α} {k : Nat} {d : α} (h : k < l.length) : l[k] = l.getD k d := by
  rw [List.getD_eq_getElem?_getD, List.getElem?_eq_getElem h]; rfl
theorem find_none {L : List (List Bg)} {bag : Int} (h : ∀ l ∈ L, hasB l bag = false) : findS L bag = L.length := by
  rw [findS, takeWhile_all fun l hl => by rw [h l hl]; rfl]
theorem lane_next {due : List Int} {i k : Nat} (p : Nat → Bool) (hp : p i = true) : laneP due (i + 1) p k = laneP due i p k ++ if (asgF due).getD i 0 = k then [i] else [] := by
  rw [laneP, List.range_succ, List.filter_append]
  congr 1
  by_cases h : (asgF due).getD i 0 = k
  · rw [if_pos h, List.filter_cons_of_pos (by rw [hp, h, beq_self_eq_true]; rfl)]; rfl
  · rw [if_neg h, List.filter_cons_of_neg (by rw [beq_false_of_ne h, Bool.and_false]; decide)]; rfl
theorem ext_getD {α : Type} {l r : List α} {d : α} (h : l.length = r.length) (he : ∀ k, k < l.length → l.getD k d = r.getD k d) : l = r := by
  apply List.ext_getElem h
  intro k a b
  have := he k a
  rwa [List.getD_eq_getElem?_getD, List.getD_eq_getElem?_getD, List.getElem?_eq_getElem a, List.getElem?_eq_getElem b] at this
/-- Putting the next bag. -/
theorem put_step {due : List Int} {n i dp : Nat} (hn : cntF due = n) (hi : i < due.length) (hd : i < dp) (h40 : due.length ≤ 40) (ht : ∀ x ∈ due, 0 ≤ x ∧ x ≤ 1048576) : putS dp (stP due n i allP) (1 + (i : Int), due.getD i 0) = (stP due n (i + 1) allP, (asgF due).getD i 0, 0) := by
  have hx : due.getD i 0 ∈ due := by rw [List.getD_eq_getElem?_getD, List.getElem?_eq_getElem hi]; exact List.getElem_mem hi
  have hr := ht _ hx
  have hlow := asgF_low due hi
  have hE : (asgK due i).E.length ≤ n := by
    rcases Nat.eq_zero_or_pos (asgK due i).E.length with h | h
    · omega
    · obtain ⟨j, ⟨h1, h2, _⟩, _⟩ := (asgI due i (by omega)).ends ((asgK due i).E.length - 1) (by omega)
      have := asgF_low due (show j < due.length by omega)
      rw [asg_cut h1 (by omega), h2] at this; omega
  have hp := asg_plc hi
  rw [putS, if_neg (by show ¬ (1 + (i : Int) < 1 ∨ 40 < 1 + (i : Int) ∨ due.getD i 0 < 0 ∨ 1048576 < due.getD i 0); omega), if_neg (by
    show ¬ findS _ (1 + (i : Int)) < _
    rw [find_none fun l hl => by
      rw [stP, List.mem_map] at hl
      obtain ⟨k, _, rfl⟩ := hl
      exact has_none fun j hj _ _ => by omega]
    exact Nat.lt_irrefl _)]
  show (match bestS dp (stP due n i allP) (due.getD i 0) (stP due n i allP).length with | none => _ | some k => _) = _
  rw [stP_len, best_fill (by omega) hd (by omega) hE n (Nat.le_refl _), if_neg (by omega), ← hp]
  show (_, _, _) = (_, _, _)
  congr 1
  refine ext_getD (d := []) (by rw [List.length_set, stP_len, stP_len]) fun k hk => ?_
  rw [List.length_set, stP_len] at hk
  rw [getD_set (by rw [stP_len]; omega), stP_at hk, stP_at hk, lane_next allP rfl]
  by_cases h : (asgF due).getD i 0 = k
  · rw [if_pos h, if_pos h, h, stP_at hk, bgs, bgs, List.map_append]; rfl
  · rw [if_neg h, if_neg h, List.append_nil]

/-- The first bag with the least due time among the first k ones that pass. -/
def minS (due : List Int) (p : Nat → Bool) : Nat → Option Nat
  | 0 => none
  | k + 1 => match minS due p k with
    | none => if p k = true then some k else none
    | some b => if p k = true ∧ due.getD k 0 < due.getD b 0 then some k else some b
theorem minS_spec {due : List Int} {p : Nat → Bool} : ∀ k, match minS due p k with | none => ∀ a, a < k → p a = false | some b => b < k ∧ p b = true ∧ (∀ a, a < k → p a = true → due.getD b 0 ≤ due.getD a 0) ∧ ∀ a, a < b → p a = true → due.getD b 0 < due.getD a 0
  | 0 => fun a ha => absurd ha (Nat.not_lt_zero _)
  | k + 1 => by
    have ih := minS_spec (due := due) (p := p) k
    rw [minS]
    cases hm : minS due p k with
    | none =>
      rw [hm] at ih
      simp only [] at ih ⊢
      by_cases hk : p k = true
      · rw [if_pos hk]
        refine ⟨Nat.lt_succ_self _, hk, fun a ha hp => ?_, fun a ha hp => ?_⟩
        · rcases Nat.lt_or_ge a k with h | h
          · rw [ih a h] at hp; cases hp
          · obtain rfl : a = k := by omega
            exact Int.le_refl _
        · rw [ih a ha] at hp; cases hp
      · rw [if_neg hk]
        intro a ha
        rcases Nat.lt_or_ge a k with h | h
        · exact ih a h
        · obtain rfl : a = k := by omega
          simpa using hk
    | some b =>
      rw [hm] at ih
      simp only [] at ih ⊢
      obtain ⟨i1, i2, i3, i4⟩ := ih
      by_cases hk : p k = true ∧ due.getD k 0 < due.getD b 0
      · rw [if_pos hk]
        refine ⟨Nat.lt_succ_self _, hk.1, fun a ha hp => ?_, fun a ha hp => ?_⟩
        · rcases Nat.lt_or_ge a k with h | h
          · have := i3 a h hp; omega
          · obtain rfl : a = k := by omega
            exact Int.le_refl _
        · have := i3 a ha hp; omega
      · rw [if_neg hk]
        refine ⟨by omega, i2, fun a ha hp => ?_, i4⟩
        rcases Nat.lt_or_ge a k with h | h
        · exact i3 a h hp
        · obtain rfl : a = k := by omega
          have : ¬ due.getD a 0 < due.getD b 0 := fun h => hk ⟨hp, h⟩
          omega
def butP (p : Nat → Bool) (b : Nat) : Nat → Bool := fun a => p a && !(a == b)
theorem minS_some {due : List Int} {p : Nat → Bool} {m : Nat} (h : 0 < ((List.range m).filter p).length) : ∃ b, minS due p m = some b := by
  obtain ⟨j, h1, h2⟩ := some_filter h
  have := minS_spec (due := due) (p := p) m
  cases hm : minS due p m with
  | some b => exact ⟨b, rfl⟩
  | none => rw [hm] at this; rw [this j h1] at h2; cases h2
/-- Taking the first bag with the least due time: none stands before it. -/
theorem take_step {due : List Int} {n b : Nat} {p : Nat → Bool} (hn : cntF due = n) (hb : minS due p due.length = some b) : takeS (stP due n due.length p) (1 + (b : Int)) = (stP due n due.length (butP p b), [], 0) := by
  have hs := minS_spec (due := due) (p := p) due.length
  rw [hb] at hs
  obtain ⟨h1, h2, h3, h4⟩ := hs
  have hlow := asgF_low due h1
  have hh : laneP due due.length p ((asgF due).getD b 0) = b :: laneP due due.length (butP p b) ((asgF due).getD b 0) := by
    rw [laneP, head_filter (j := b) h1 (by simp [h2]) fun m hm => by
      by_cases hp : p m = true
      · have h5 := h4 m hm hp
        have : (asgF due).getD m 0 ≠ (asgF due).getD b 0 := fun he => by have := asgF_good due hm h1 he; omega
        rw [beq_false_of_ne this, Bool.and_false]
      · rw [show p m = false from by simpa using hp]; rfl, laneP]
    congr 1
    exact List.filter_congr fun a _ => by rw [butP]; cases p a <;> cases (a == b) <;> cases ((asgF due).getD a 0 == (asgF due).getD b 0) <;> rfl
  have hf : findS (stP due n due.length p) (1 + (b : Int)) = (asgF due).getD b 0 := by
    have hlen : ∀ k, k ≤ n → k ≤ (asgF due).getD b 0 → ((stP due n due.length p).take k).takeWhile (fun l => !hasB l (1 + (b : Int))) = (stP due n due.length p).take k := fun k hk hk2 => by
      refine takeWhile_all fun l hl => ?_
      obtain ⟨j, hj, rfl⟩ := List.getElem_of_mem hl
      rw [List.length_take, stP_len] at hj
      have e : ((stP due n due.length p).take k)[j] = (stP due n due.length p).getD j [] := by
        rw [List.getElem_take]; exact getElem_getD _
      rw [e, stP_at (by omega), has_none fun a _ _ hk3 => by intro h6; obtain rfl : a = b := by omega
                                                             omega]
      rfl
    have hsplit : stP due n due.length p = (stP due n due.length p).take ((asgF due).getD b 0) ++ bgs due (laneP due due.length p ((asgF due).getD b 0)) :: (stP due n due.length p).drop ((asgF due).getD b 0 + 1) := by
      have hg : (asgF due).getD b 0 < (stP due n due.length p).length := by rw [stP_len]; omega
      conv => lhs; rw [← List.take_append_drop ((asgF due).getD b 0) (stP due n due.length p)]
      rw [List.drop_eq_getElem_cons hg]
      congr 2
      exact (getElem_getD hg).trans (stP_at (by omega))
    rw [findS, hsplit, List.takeWhile_append, hlen _ (by omega) (Nat.le_refl _), if_pos rfl, List.takeWhile_cons_of_neg (by
      rw [hh]; simp [hasB, bgs]), List.append_nil, List.length_take, stP_len]
    omega
  rw [takeS, hf, stP_len, if_pos (by omega), stP_at (by omega), hh]
  have hpos : posB (bgs due (b :: laneP due due.length (butP p b) ((asgF due).getD b 0))) (1 + (b : Int)) = 0 := by
    rw [posB, bgs, List.map_cons, List.takeWhile_cons_of_neg (by simp)]; rfl
  rw [hpos, List.take_zero, List.append_nil]
  show (_, _, _) = (_, _, _)
  congr 1
  refine ext_getD (d := []) (by rw [List.length_set, stP_len, stP_len]) fun k hk => ?_
  rw [List.length_set, stP_len] at hk
  rw [getD_set (by rw [stP_len]; omega)]
  by_cases h : (asgF due).getD b 0 = k
  · rw [if_pos h, stP_at hk, h]; rfl
  · rw [if_neg h, stP_at hk, stP_at hk]
    congr 1
    refine List.filter_congr fun a _ => ?_
    rw [butP]
    by_cases ha : a = b
    · subst ha; rw [show ((asgF due).getD a 0 == k) = false from by simpa using h, Bool.and_false, Bool.and_false]
    · rw [show (a == b) = false from by simpa using ha]; simp
end Go.Proofs.Ytmmhchhekmcihaa
