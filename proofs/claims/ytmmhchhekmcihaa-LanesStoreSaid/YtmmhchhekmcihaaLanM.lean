/-
  Lanes (layer 17): mathematics: the assignment of bags to lanes, the chain, the check of an assignment.
-/
import Derived.Test.YtmmhchhekmcihaaTelA
namespace Go.Proofs.Ytmmhchhekmcihaa

/-- The lane for a time, where the lanes end so. -/
def plc (E : List Int) (x : Int) : Nat := (E.takeWhile fun e => decide (x < e)).length
def putE (E : List Int) (x : Int) : List Int := if plc E x < E.length then E.set (plc E x) x else E ++ [x]
structure Asg where
  L : List Nat
  E : List Int
def asgS (s : Asg) (x : Int) : Asg := ⟨s.L ++ [plc s.E x], putE s.E x⟩
def asgK (due : List Int) (k : Nat) : Asg := (due.take k).foldl asgS ⟨[], []⟩
def asgF (due : List Int) : List Nat := (asgK due due.length).L
def cntF (due : List Int) : Nat := (asgK due due.length).E.length
theorem asgK_step {due : List Int} {k : Nat} (hk : k < due.length) : asgK due (k + 1) = asgS (asgK due k) (due.getD k 0) := by
  unfold asgK
  rw [List.take_succ_eq_append_getElem hk, List.foldl_append, at_k hk]
  rfl
theorem plc_le (E : List Int) (x : Int) : plc E x ≤ E.length := (List.takeWhile_sublist _).length_le
theorem plc_cons_lt {e x : Int} {E : List Int} (h : x < e) : plc (e :: E) x = plc E x + 1 := by
  unfold plc; rw [List.takeWhile_cons_of_pos (by simpa using h)]; rfl
theorem plc_cons_ge {e x : Int} {E : List Int} (h : ¬ x < e) : plc (e :: E) x = 0 := by
  unfold plc; rw [List.takeWhile_cons_of_neg (by simpa using h)]; rfl
/-- All lanes ahead end later. -/
theorem plc_ahead {x : Int} : ∀ {E : List Int} {k : Nat}, k < plc E x → x < E.getD k 0
  | [], k, h => by simp [plc] at h
  | e :: E, k, h => by
    by_cases hx : x < e
    · cases k with
      | zero => exact hx
      | succ k => rw [plc_cons_lt hx] at h; exact plc_ahead (E := E) (k := k) (by omega)
    · rw [plc_cons_ge hx] at h; omega
theorem plc_at {x : Int} : ∀ {E : List Int}, plc E x < E.length → E.getD (plc E x) 0 ≤ x
  | [], h => by simp at h
  | e :: E, h => by
    by_cases hx : x < e
    · rw [plc_cons_lt hx] at h ⊢; exact plc_at (E := E) (by simpa using h)
    · rw [plc_cons_ge hx]; show e ≤ x; omega
/-- What a list tells before an index: the last place of a lane. -/
def isLast (L : List Nat) (i lane j : Nat) : Prop := j < i ∧ L.getD j 0 = lane ∧ ∀ m, j < m → m < i → L.getD m 0 ≠ lane
structure AsgI (due : List Int) (k : Nat) (s : Asg) : Prop where
  len : s.L.length = k
  desc : ∀ a b, a < b → b < s.E.length → s.E.getD b 0 < s.E.getD a 0
  ends : ∀ lane, lane < s.E.length → ∃ j, isLast s.L k lane j ∧ due.getD j 0 = s.E.getD lane 0
  low : ∀ j, j < k → s.L.getD j 0 < s.E.length
  good : ∀ a b, a < b → b < k → s.L.getD a 0 = s.L.getD b 0 → due.getD a 0 ≤ due.getD b 0
  back : ∀ b lane, b < k → s.L.getD b 0 = lane + 1 → ∃ a, isLast s.L b lane a ∧ due.getD b 0 < due.getD a 0
theorem getD_app {α : Type} {l r : List α} {d : α} {i : Nat} (h : i < l.length) : (l ++ r).getD i d = l.getD i d := by
  rw [List.getD_eq_getElem?_getD, List.getD_eq_getElem?_getD, List.getElem?_append_left h]
theorem getD_end {α : Type} {l : List α} {x d : α} {i : Nat} (h : i = l.length) : (l ++ [x]).getD i d = x := by
  subst h; rw [List.getD_eq_getElem?_getD, List.getElem?_append_right (Nat.le_refl _), Nat.sub_self]; rfl
theorem getD_set {α : Type} {l : List α} {x d : α} {i j : Nat} (h : i < l.length) : (l.set i x).getD j d = if i = j then x else l.getD j d := by
  rw [List.getD_eq_getElem?_getD, List.getD_eq_getElem?_getD, List.getElem?_set]
  by_cases e : i = j
  · subst e; rw [if_pos rfl, if_pos h, if_pos rfl]; rfl
  · rw [if_neg e, if_neg e]
theorem putE_len (E : List Int) (x : Int) : (putE E x).length = if plc E x < E.length then E.length else E.length + 1 := by
  unfold putE; split <;> simp
theorem putE_at {E : List Int} {x : Int} {j : Nat} (hj : j < (putE E x).length) : (putE E x).getD j 0 = if j = plc E x then x else E.getD j 0 := by
  have hp := plc_le E x
  rw [putE_len] at hj
  unfold putE
  by_cases h : plc E x < E.length
  · rw [if_pos h, getD_set h]
    by_cases e : plc E x = j
    · rw [if_pos e, if_pos e.symm]
    · rw [if_neg e, if_neg (fun h => e h.symm)]
  · rw [if_neg h] at hj ⊢
    have hp' : plc E x = E.length := by omega
    by_cases e : j = plc E x
    · rw [if_pos e, getD_end (by omega)]
    · rw [if_neg e, getD_app (by omega)]
theorem asgI_zero (due : List Int) : AsgI due 0 ⟨[], []⟩ :=
  ⟨rfl, fun a b _ h => by simp at h, fun lane h => by simp at h, fun j h => by omega, fun a b _ h => by omega, fun b lane h => by omega⟩
theorem asgI_step {due : List Int} {k : Nat} {s : Asg} (h : AsgI due k s) (x : Int) (hx : due.getD k 0 = x) : AsgI due (k + 1) (asgS s x) := by
  obtain ⟨L, E⟩ := s
  have hlen : L.length = k := h.len
  have hdesc : ∀ a b, a < b → b < E.length → E.getD b 0 < E.getD a 0 := h.desc
  have hends : ∀ lane, lane < E.length → ∃ j, isLast L k lane j ∧ due.getD j 0 = E.getD lane 0 := h.ends
  have hlow : ∀ j, j < k → L.getD j 0 < E.length := h.low
  have hgood : ∀ a b, a < b → b < k → L.getD a 0 = L.getD b 0 → due.getD a 0 ≤ due.getD b 0 := h.good
  have hback : ∀ b lane, b < k → L.getD b 0 = lane + 1 → ∃ a, isLast L b lane a ∧ due.getD b 0 < due.getD a 0 := h.back
  have hp := plc_le E x
  have hold : ∀ j, j < k → (L ++ [plc E x]).getD j 0 = L.getD j 0 := fun j hj => getD_app (by omega)
  have hnew : (L ++ [plc E x]).getD k 0 = plc E x := getD_end hlen.symm
  have hl := putE_len E x
  have hgrow : E.length ≤ (putE E x).length ∧ plc E x < (putE E x).length := by rw [hl]; split <;> omega
  refine ⟨by simp [asgS, hlen], fun a b hab hb => ?_, fun lane hlane => ?_, fun j hj => ?_, fun a b hab hb he => ?_, fun b lane hb he => ?_⟩
  · show (putE E x).getD b 0 < (putE E x).getD a 0
    have hb' : b < (putE E x).length := hb
    rw [putE_at hb', putE_at (by omega)]
    rw [hl] at hb'
    by_cases eb : b = plc E x
    · rw [if_pos eb, if_neg (by omega)]
      exact plc_ahead (by omega)
    · rw [if_neg eb]
      have hbE : b < E.length := by split at hb' <;> omega
      by_cases ea : a = plc E x
      · rw [if_pos ea]
        have h1 := hdesc a b hab hbE
        have h2 := plc_at (E := E) (x := x) (by omega)
        rw [← ea] at h2
        omega
      · rw [if_neg ea]; exact hdesc a b hab hbE
  · show ∃ j, isLast (L ++ [plc E x]) (k + 1) lane j ∧ due.getD j 0 = (putE E x).getD lane 0
    rw [putE_at hlane]
    by_cases el : lane = plc E x
    · rw [if_pos el]
      exact ⟨k, ⟨by omega, by rw [hnew, el], fun m h1 h2 => by omega⟩, hx⟩
    · rw [if_neg el]
      have hlE : lane < E.length := by
        have hlane' : lane < (putE E x).length := hlane
        rw [hl] at hlane'
        split at hlane' <;> omega
      obtain ⟨j, ⟨j1, j2, j3⟩, j4⟩ := hends lane hlE
      refine ⟨j, ⟨by omega, by rw [hold j j1]; exact j2, fun m h1 h2 => ?_⟩, j4⟩
      by_cases em : m = k
      · rw [em, hnew]; exact fun e => el e.symm
      · rw [hold m (by omega)]; exact j3 m h1 (by omega)
  · show (L ++ [plc E x]).getD j 0 < (putE E x).length
    by_cases ej : j = k
    · rw [ej, hnew]; exact hgrow.2
    · rw [hold j (by omega)]
      have : L.getD j 0 < E.length := hlow j (by omega)
      omega
  · have he' : (L ++ [plc E x]).getD a 0 = (L ++ [plc E x]).getD b 0 := he
    by_cases eb : b = k
    · subst eb
      rw [hnew, hold a hab] at he'
      have hlo : L.getD a 0 < E.length := hlow a hab
      obtain ⟨j, ⟨j1, j2, j3⟩, j4⟩ := hends (plc E x) (by omega)
      have h1 := plc_at (E := E) (x := x) (by omega)
      have h2 : due.getD a 0 ≤ due.getD j 0 := by
        rcases Nat.lt_trichotomy a j with haj | haj | haj
        · exact hgood a j haj j1 (by show L.getD a 0 = L.getD j 0; rw [he', j2])
        · rw [haj]; exact Int.le_refl _
        · exact absurd he' (j3 a haj hab)
      have j4' : due.getD j 0 = E.getD (plc E x) 0 := j4
      omega
    · rw [hold a (by omega), hold b (by omega)] at he'
      exact hgood a b hab (by omega) he'
  · have he' : (L ++ [plc E x]).getD b 0 = lane + 1 := he
    by_cases eb : b = k
    · subst eb
      rw [hnew] at he'
      obtain ⟨j, ⟨j1, j2, j3⟩, j4⟩ := hends lane (by omega)
      refine ⟨j, ⟨j1, by show (L ++ [plc E x]).getD j 0 = lane; rw [hold j j1]; exact j2, fun m h1 h2 => by show (L ++ [plc E x]).getD m 0 ≠ lane; rw [hold m h2]; exact j3 m h1 h2⟩, ?_⟩
      have j4' : due.getD j 0 = E.getD lane 0 := j4
      rw [hx, j4']
      exact plc_ahead (by omega)
    · rw [hold b (by omega)] at he'
      obtain ⟨a, ⟨a1, a2, a3⟩, a4⟩ := hback b lane (by omega) he'
      exact ⟨a, ⟨a1, by show (L ++ [plc E x]).getD a 0 = lane; rw [hold a (by omega)]; exact a2, fun m h1 h2 => by show (L ++ [plc E x]).getD m 0 ≠ lane; rw [hold m (by omega)]; exact a3 m h1 h2⟩, a4⟩
theorem asgI (due : List Int) : ∀ k, k ≤ due.length → AsgI due k (asgK due k)
  | 0, _ => by simpa [asgK] using asgI_zero due
  | k + 1, h => by rw [asgK_step (by omega)]; exact asgI_step (asgI due k (by omega)) _ rfl
/-- The last place of a lane ahead of an index. -/
def lastI (L : List Nat) (lane : Nat) : Nat → Nat
  | 0 => 0
  | i + 1 => if L.getD i 0 = lane then i else lastI L lane i
theorem lastI_is {L : List Nat} {lane j : Nat} : ∀ {i : Nat}, isLast L i lane j → lastI L lane i = j
  | 0, h => absurd h.1 (Nat.not_lt_zero _)
  | i + 1, ⟨h1, h2, h3⟩ => by
    unfold lastI
    by_cases e : L.getD i 0 = lane
    · rw [if_pos e]
      rcases Nat.lt_or_ge j i with hj | hj
      · exact absurd e (h3 i hj (Nat.lt_succ_self i))
      · omega
    · rw [if_neg e]
      refine lastI_is ⟨?_, h2, fun m hm hi => h3 m hm (by omega)⟩
      rcases Nat.lt_or_ge j i with hj | hj
      · exact hj
      · obtain rfl : j = i := by omega
        exact absurd h2 e
/-- The chain ahead of a bag in lane q. -/
def preC (L : List Nat) : Nat → Nat → List Nat
  | _, 0 => []
  | i, q + 1 => preC L (lastI L q i) q ++ [lastI L q i]
/-- The first bag of the last lane. -/
def firstI (L : List Nat) (lane : Nat) : Nat := (L.takeWhile fun x => decide (x ≠ lane)).length
def chnF (due : List Int) : List Nat := if cntF due = 0 then [] else preC (asgF due) (firstI (asgF due) (cntF due - 1)) (cntF due - 1) ++ [firstI (asgF due) (cntF due - 1)]
theorem asgF_inv (due : List Int) : AsgI due due.length (asgK due due.length) := asgI due _ (Nat.le_refl _)
theorem asgF_len (due : List Int) : (asgF due).length = due.length := (asgF_inv due).len
theorem asgF_low (due : List Int) {j : Nat} (hj : j < due.length) : (asgF due).getD j 0 < cntF due := (asgF_inv due).low j hj
theorem asgF_good (due : List Int) {a b : Nat} (hab : a < b) (hb : b < due.length) (he : (asgF due).getD a 0 = (asgF due).getD b 0) : due.getD a 0 ≤ due.getD b 0 := (asgF_inv due).good a b hab hb he
theorem asgF_back (due : List Int) {b lane : Nat} (hb : b < due.length) (he : (asgF due).getD b 0 = lane + 1) : lastI (asgF due) lane b < b ∧ (asgF due).getD (lastI (asgF due) lane b) 0 = lane ∧ due.getD b 0 < due.getD (lastI (asgF due) lane b) 0 := by
  obtain ⟨a, h1, h2⟩ := (asgF_inv due).back b lane hb he
  have e := lastI_is h1
  unfold asgF
  rw [e]
  exact ⟨h1.1, h1.2.1, h2⟩
theorem cntF_pos (due : List Int) : cntF due = 0 ↔ due.length = 0 := by
  constructor
  · intro h
    rcases Nat.eq_zero_or_pos due.length with h0 | h0
    · exact h0
    · have := asgF_low due h0; omega
  · intro h
    have e : due = [] := List.eq_nil_of_length_eq_zero h
    subst e; rfl
theorem asgF_has (due : List Int) {lane : Nat} (h : lane < cntF due) : ∃ j, j < due.length ∧ (asgF due).getD j 0 = lane := by
  obtain ⟨j, ⟨h1, h2, _⟩, _⟩ := (asgF_inv due).ends lane h
  exact ⟨j, h1, h2⟩
theorem firstI_spec {lane : Nat} : ∀ {L : List Nat}, (∃ j, j < L.length ∧ L.getD j 0 = lane) → firstI L lane < L.length ∧ L.getD (firstI L lane) 0 = lane ∧ ∀ m, m < firstI L lane → L.getD m 0 ≠ lane
  | [], ⟨j, h, _⟩ => by simp at h
  | x :: L, ⟨j, h, e⟩ => by
    by_cases hx : x = lane
    · have e0 : firstI (x :: L) lane = 0 := by unfold firstI; rw [List.takeWhile_cons_of_neg (by simpa using hx)]; rfl
      rw [e0]
      exact ⟨by simp, hx, fun m hm => by omega⟩
    · have e1 : firstI (x :: L) lane = firstI L lane + 1 := by unfold firstI; rw [List.takeWhile_cons_of_pos (by simpa using hx)]; rfl
      have h' : ∃ j, j < L.length ∧ L.getD j 0 = lane := by
        cases j with
        | zero => exact absurd e hx
        | succ j => exact ⟨j, by simpa using h, e⟩
      obtain ⟨i1, i2, i3⟩ := firstI_spec h'
      rw [e1]
      refine ⟨by rw [List.length_cons]; omega, i2, fun m hm => ?_⟩
      cases m with
      | zero => exact hx
      | succ m => exact i3 m (by omega)
/-- A chain: its places ascend, its times descend, it ends in a bag of lane q. -/
structure ChnI (due : List Int) (c : List Nat) (at_ q : Nat) : Prop where
  len : c.length = q + 1
  end_ : c.getD q 0 = at_
  low : ∀ i, i < c.length → c.getD i 0 < due.length
  step : ∀ i, i + 1 < c.length → c.getD i 0 < c.getD (i + 1) 0 ∧ due.getD (c.getD (i + 1) 0) 0 < due.getD (c.getD i 0) 0
theorem chn_inv (due : List Int) : ∀ (q at_ : Nat), at_ < due.length → (asgF due).getD at_ 0 = q → ChnI due (preC (asgF due) at_ q ++ [at_]) at_ q
  | 0, at_, h, _ => ⟨rfl, rfl, fun i hi => by
      have : i = 0 := by simp [preC] at hi; omega
      subst this; exact h, fun i hi => by simp [preC] at hi⟩
  | q + 1, at_, h, he => by
    obtain ⟨b1, b2, b3⟩ := asgF_back due h he
    have ih := chn_inv due q (lastI (asgF due) q at_) (by omega) b2
    have e : preC (asgF due) at_ (q + 1) = preC (asgF due) (lastI (asgF due) q at_) q ++ [lastI (asgF due) q at_] := rfl
    rw [e]
    generalize preC (asgF due) (lastI (asgF due) q at_) q ++ [lastI (asgF due) q at_] = c at ih
    have hl := ih.len
    refine ⟨by rw [List.length_append, hl]; rfl, getD_end (by omega), fun i hi => ?_, fun i hi => ?_⟩
    · rw [List.length_append, hl] at hi
      by_cases ei : i = q + 1
      · rw [ei, getD_end (by omega)]; exact h
      · rw [getD_app (by simp at hi; omega)]; exact ih.low i (by simp at hi; omega)
    · rw [List.length_append, hl] at hi
      have hi' : i < q + 1 := by simp at hi; omega
      rw [getD_app (by omega)]
      by_cases ei : i = q
      · rw [ei, getD_end (by omega), ih.end_]; exact ⟨b1, b3⟩
      · rw [getD_app (by omega)]; exact ih.step i (by omega)
theorem chnF_inv (due : List Int) (h : 0 < cntF due) : ∃ at_, ChnI due (chnF due) at_ (cntF due - 1) := by
  obtain ⟨f1, f2, _⟩ := firstI_spec (L := asgF due) (lane := cntF due - 1) (by rw [asgF_len]; exact asgF_has due (by omega))
  rw [asgF_len] at f1
  refine ⟨firstI (asgF due) (cntF due - 1), ?_⟩
  unfold chnF
  rw [if_neg (by omega)]
  exact chn_inv due _ _ f1 f2
theorem chnF_len (due : List Int) : (chnF due).length = cntF due := by
  rcases Nat.eq_zero_or_pos (cntF due) with h | h
  · rw [h]; unfold chnF; rw [if_pos h]; rfl
  · obtain ⟨_, hc⟩ := chnF_inv due h
    have := hc.len
    omega
/-- Farther apart on the chain. -/
theorem chn_far {due : List Int} {c : List Nat} {at_ q : Nat} (h : ChnI due c at_ q) : ∀ (b a : Nat), a < b → b < c.length → c.getD a 0 < c.getD b 0 ∧ due.getD (c.getD b 0) 0 < due.getD (c.getD a 0) 0
  | 0, a, hab, _ => absurd hab (Nat.not_lt_zero _)
  | b + 1, a, hab, hb => by
    have s := h.step b hb
    by_cases e : a = b
    · rw [e]; exact s
    · have ih := chn_far h b a (by omega) (by omega)
      exact ⟨by omega, by omega⟩
theorem nodup_le : ∀ (m : Nat) (l : List Nat), l.Nodup → (∀ x ∈ l, x < m) → l.length ≤ m
  | 0, l, _, h => by
    cases l with
    | nil => exact Nat.le_refl _
    | cons x l => exact absurd (h x (by simp)) (Nat.not_lt_zero _)
  | m + 1, l, hn, h => by
    by_cases hm : m ∈ l
    · have h1 := nodup_le m (l.erase m) (hn.erase m) (fun x hx => by
        have h2 := (hn.mem_erase_iff).1 hx
        have := h x h2.2
        have := h2.1
        omega)
      rw [List.length_erase_of_mem hm] at h1
      omega
    · have := nodup_le m l hn (fun x hx => by
        have h1 := h x hx
        have : x ≠ m := fun e => hm (e ▸ hx)
        omega)
      omega
theorem pigeon {m : Nat} {l : List Nat} (h : ∀ x ∈ l, x < m) (hm : m < l.length) : ∃ i j, i < j ∧ j < l.length ∧ l.getD i 0 = l.getD j 0 := by
  apply Classical.byContradiction
  intro hc
  have hn : l.Nodup := by
    rw [List.Nodup, List.pairwise_iff_getElem]
    intro i j hi hj hij he
    exact hc ⟨i, j, hij, hj, by rw [at_k hi, at_k hj]; exact he⟩
  have := nodup_le m l hn h
  omega
/-- Whether an assignment is good; the document's check. -/
def goodB (due lanes : List Int) : Prop := ∀ a b, a < b → b < lanes.length → lanes.getD a 0 = lanes.getD b 0 → due.getD a 0 ≤ due.getD b 0
def valE (due : List Int) : Int := if 200 < due.length then 2 else if ∀ x ∈ due, 0 ≤ x ∧ x ≤ 1048576 then 0 else 1
def goodb (due lanes : List Int) : Bool := (List.range lanes.length).all fun b => (List.range b).all fun a => !(lanes.getD a 0 == lanes.getD b 0) || decide (due.getD a 0 ≤ due.getD b 0)
theorem goodb_iff {due lanes : List Int} : goodb due lanes = true ↔ goodB due lanes := by
  unfold goodb goodB
  rw [List.all_eq_true]
  constructor
  · intro h a b hab hb he
    have h1 := h b (List.mem_range.2 hb)
    rw [List.all_eq_true] at h1
    have h2 := h1 a (List.mem_range.2 hab)
    rw [Bool.or_eq_true, decide_eq_true_eq] at h2
    rcases h2 with h2 | h2
    · rw [Bool.not_eq_true', beq_eq_false_iff_ne] at h2; exact absurd he h2
    · exact h2
  · intro h b hb
    rw [List.all_eq_true]
    intro a ha
    rw [Bool.or_eq_true, decide_eq_true_eq]
    by_cases he : lanes.getD a 0 = lanes.getD b 0
    · exact .inr (h a b (List.mem_range.1 ha) (List.mem_range.1 hb) he)
    · left; rw [Bool.not_eq_true', beq_eq_false_iff_ne]; exact he
def negb (lanes : List Int) : Bool := lanes.any fun x => decide (x < 0)
theorem negb_iff {lanes : List Int} : negb lanes = false ↔ ∀ x ∈ lanes, 0 ≤ x := by
  unfold negb
  rw [List.any_eq_false]
  exact ⟨fun h x hx => by have := h x hx; rw [decide_eq_true_eq] at this; omega, fun h x hx => by rw [decide_eq_true_eq]; have := h x hx; omega⟩
def chkE (due lanes : List Int) : Int := if valE due ≠ 0 then valE due else if lanes.length ≠ due.length then 1 else if negb lanes = true then 1 else if goodb due lanes = true then 0 else 9
/-- With fewer lanes than the chain has bags no assignment is good. -/
theorem fewer_bad {due a : List Int} {n : Nat} (hn : cntF due = n) (hl : a.length = due.length) (h : ∀ x ∈ a, 0 ≤ x ∧ x < (n : Int) - 1) (h1 : 0 < n) : ¬ goodB due a := fun hg => by
  obtain ⟨at_, hc⟩ := chnF_inv due (by omega)
  have hcl := chnF_len due
  obtain ⟨i, j, hij, hj, he⟩ := pigeon (m := n - 1) (l := (chnF due).map fun c => (a.getD c 0).toNat) (fun x hx => by
    obtain ⟨c, hc1, rfl⟩ := List.mem_map.1 hx
    obtain ⟨i, hi, rfl⟩ := List.getElem_of_mem hc1
    have h2 := hc.low i hi
    rw [at_k hi] at h2
    have h3 := h _ (show a.getD ((chnF due)[i]) 0 ∈ a by rw [at_k (by omega)]; exact List.getElem_mem _)
    omega) (by rw [List.length_map]; omega)
  rw [List.length_map] at hj
  rw [at_k (by rw [List.length_map]; omega), at_k (by rw [List.length_map]; omega), List.getElem_map, List.getElem_map] at he
  obtain ⟨f1, f2⟩ := chn_far hc j i hij hj
  have li := hc.low i (by omega)
  have lj := hc.low j hj
  rw [at_k (show i < (chnF due).length by omega), at_k hj] at f1 f2
  rw [at_k (show i < (chnF due).length by omega)] at li
  rw [at_k hj] at lj
  have m1 := h _ (show a.getD ((chnF due)[i]) 0 ∈ a by rw [at_k (by omega)]; exact List.getElem_mem _)
  have m2 := h _ (show a.getD ((chnF due)[j]) 0 ∈ a by rw [at_k (by omega)]; exact List.getElem_mem _)
  have hg' := hg _ _ f1 (by omega) (by omega)
  omega
/-- Numbers as a row holds them. -/
def nI (l : List Nat) : List Int := l.map Int.ofNat
theorem nI_len (l : List Nat) : (nI l).length = l.length := List.length_map _
theorem nI_at {l : List Nat} {i : Nat} (h : i < l.length) : (nI l).getD i 0 = (l.getD i 0 : Int) := by
  rw [at_k (by rw [nI_len]; exact h), at_k h]; exact List.getElem_map _
theorem nI_app (l m : List Nat) : nI (l ++ m) = nI l ++ nI m := List.map_append
theorem asg_len {due : List Int} {k : Nat} (h : k ≤ due.length) : (asgK due k).L.length = k := (asgI due k h).len
theorem asg_low {due : List Int} {k : Nat} (h : k ≤ due.length) : (asgK due k).E.length ≤ k := by
  have hi := asgI due k h
  have hn : ((List.range (asgK due k).E.length).map fun lane => lastI (asgK due k).L lane k).Nodup := by
    rw [List.Nodup, List.pairwise_iff_getElem]
    intro a b ha hb hab he
    rw [List.getElem_map, List.getElem_map, List.getElem_range, List.getElem_range] at he
    rw [List.length_map, List.length_range] at ha hb
    obtain ⟨i, h1, _⟩ := hi.ends a ha
    obtain ⟨j, h2, _⟩ := hi.ends b hb
    rw [lastI_is h1, lastI_is h2] at he
    subst he
    have e1 := h1.2.1
    have e2 := h2.2.1
    omega
  have := nodup_le k _ hn (fun x hx => by
    obtain ⟨lane, hl, rfl⟩ := List.mem_map.1 hx
    obtain ⟨i, h1, _⟩ := hi.ends lane (List.mem_range.1 hl)
    rw [lastI_is h1]; exact h1.1)
  rwa [List.length_map, List.length_range] at this
/-- The best lane so far. -/
def bestK (E : List Int) (x : Int) (k : Nat) : Nat := if plc E x < k then plc E x else E.length
theorem bestK_zero (E : List Int) (x : Int) : bestK E x 0 = E.length := if_neg (Nat.not_lt_zero _)
theorem bestK_all (E : List Int) (x : Int) : bestK E x E.length = plc E x := by
  unfold bestK
  have := plc_le E x
  split <;> omega
/-- What a look at lane k tells. -/
theorem bestK_step {due : List Int} {i : Nat} {s : Asg} (h : AsgI due i s) {x : Int} {k : Nat} (hk : k < s.E.length) :
    (x < s.E.getD k 0 ∧ bestK s.E x (k + 1) = bestK s.E x k) ∨
    (s.E.getD k 0 ≤ x ∧ bestK s.E x k = s.E.length ∧ bestK s.E x (k + 1) = k) ∨
    (s.E.getD k 0 ≤ x ∧ bestK s.E x k < s.E.length ∧ s.E.getD k 0 < s.E.getD (bestK s.E x k) 0 ∧ bestK s.E x (k + 1) = bestK s.E x k) := by
  unfold bestK
  rcases Nat.lt_trichotomy (plc s.E x) k with h1 | h1 | h1
  · right; right
    have h2 := plc_at (E := s.E) (x := x) (by omega)
    have h3 := h.desc _ _ h1 hk
    rw [if_pos h1, if_pos (by omega)]
    exact ⟨by omega, by omega, h3, rfl⟩
  · right; left
    have h2 := plc_at (E := s.E) (x := x) (by omega)
    rw [h1] at h2 ⊢
    exact ⟨h2, if_neg (by omega), if_pos (by omega)⟩
  · left
    rw [if_neg (by omega), if_neg (by omega)]
    exact ⟨plc_ahead h1, rfl⟩
/-- The greatest number, and one. -/
def maxK (l : List Nat) (k : Nat) : Nat := (l.take k).foldl (fun m x => max m (x + 1)) 0
theorem maxK_step {l : List Nat} {k : Nat} (hk : k < l.length) : maxK l (k + 1) = max (maxK l k) (l.getD k 0 + 1) := by
  unfold maxK
  rw [List.take_succ_eq_append_getElem hk, List.foldl_append, at_k hk]; rfl
theorem maxK_le {l : List Nat} {n : Nat} (h : ∀ j, j < l.length → l.getD j 0 < n) : ∀ k, k ≤ l.length → maxK l k ≤ n
  | 0, _ => by simp [maxK]
  | k + 1, hk => by
    rw [maxK_step (by omega)]
    have h1 := maxK_le h k (by omega)
    have h2 := h k (by omega)
    omega
theorem maxK_ge {l : List Nat} {j : Nat} : ∀ k, k ≤ l.length → j < k → l.getD j 0 + 1 ≤ maxK l k
  | 0, _, h => absurd h (Nat.not_lt_zero _)
  | k + 1, hk, h => by
    rw [maxK_step (by omega)]
    by_cases e : j = k
    · rw [e]; omega
    · have := maxK_ge (l := l) (j := j) k (by omega) (by omega)
      omega
theorem maxK_cnt (due : List Int) : maxK (asgF due) due.length = cntF due := by
  have hl := asgF_len due
  have h1 := maxK_le (l := asgF due) (n := cntF due) (fun j hj => asgF_low due (by omega)) due.length (by omega)
  rcases Nat.eq_zero_or_pos (cntF due) with h0 | h0
  · omega
  · obtain ⟨j, hj, e⟩ := asgF_has due (lane := cntF due - 1) (by omega)
    have := maxK_ge (l := asgF due) (j := j) due.length (by omega) hj
    omega
end Go.Proofs.Ytmmhchhekmcihaa
