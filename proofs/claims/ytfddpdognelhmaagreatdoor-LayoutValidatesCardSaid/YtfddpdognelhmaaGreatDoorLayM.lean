/-
  Layouts: mathematics, the counts of the order, rows in memory, a map of numbers.
-/
import Derived.Test.YtfddpdognelhmaaGreatDoorMsgF
import Derived.Maps.Own
import Derived.Maps.OwnOps
import Derived.Maps.OwnSet

/- LayM: Layouts: plain mathematics: what Validate finds, the order of the nodes, names and windows; no program, no world. -/
namespace Go.Proofs.YtfddpdognelhmaaGreatDoor

/-- A node, a device, a layout. -/
structure Nd where
  name : ByteArray
  kind : Int
  len : Int
  zone : Int
  exits : List Int
structure Dv where
  kind : Int
  node : Int
  win : Int
structure Lay where
  nodes : List Nd
  devs : List Dv
def nd0 : Nd := ⟨ByteArray.empty, 0, 0, 0, []⟩
def dv0 : Dv := ⟨0, 0, 0⟩

/-- A number is in a range. -/
def wIn (n lo hi : Int) : Bool := decide (lo ≤ n) && decide (n ≤ hi)
theorem wIn_iff {n lo hi : Int} : wIn n lo hi = true ↔ lo ≤ n ∧ n ≤ hi := by simp [wIn]
theorem wIn_not {n lo hi : Int} : wIn n lo hi = false ↔ ¬ (lo ≤ n ∧ n ≤ hi) := by rw [← wIn_iff]; simp
def lenOk (x : Nd) : Bool := if x.kind = 7 ∨ x.kind = 8 ∨ x.kind = 9 then decide (x.len = 0) else if x.kind = 5 then wIn x.len 2 8 else wIn x.len 1 8
def exN (k : Int) : Nat := if k = 4 ∨ k = 5 ∨ k = 6 then 2 else if k = 8 ∨ k = 9 then 0 else 1
theorem exN_le (k : Int) : exN k ≤ 2 := by unfold exN; split <;> (try split) <;> omega
/-- The exit e of the node i of N. -/
def ownB (x : Nd) (e : Nat) : Bool := decide (x.kind = 5) && decide (e = 0)
def exOk1 (N i : Nat) (x : Nd) (e : Nat) : Bool := wIn (x.exits.getD e 0) 0 ((N : Int) - 1) && ((decide (x.exits.getD e 0 = (i : Int)) == ownB x e) && !((x.exits.take e).contains (x.exits.getD e 0)))
def exOk (N i : Nat) (x : Nd) : Bool := decide (x.exits.length = exN x.kind) && (List.range x.exits.length).all (exOk1 N i x)
def ndE (N i : Nat) (x : Nd) : Int := if nameB x.name then (if wIn x.kind 1 9 then (if lenOk x && (wIn x.zone 0 1 && exOk N i x) then 0 else 1) else 4) else 3
/-- The first of some numbers that is not 0. -/
def fstE (f : Nat → Int) : Nat → Int
  | 0 => 0
  | n + 1 => if fstE f n = 0 then f n else fstE f n
theorem fstE_step {f : Nat → Int} {k : Nat} (h : fstE f k = 0) (h1 : f k = 0) : fstE f (k + 1) = 0 := by
  show (if fstE f k = 0 then f k else fstE f k) = 0
  rw [if_pos h, h1]
theorem fstE_stay {f : Nat → Int} {k : Nat} (h : fstE f k ≠ 0) : ∀ n, k ≤ n → fstE f n = fstE f k := by
  intro n hn
  induction n with
  | zero => obtain rfl : k = 0 := by omega
            rfl
  | succ n ih =>
    by_cases e : k = n + 1
    · rw [e]
    · have := ih (by omega)
      show (if fstE f n = 0 then f n else fstE f n) = _
      rw [this, if_neg h]
theorem fstE_hit {f : Nat → Int} {k n : Nat} (h : fstE f k = 0) (h1 : f k ≠ 0) (hn : k < n) : fstE f n = f k := by
  have e : fstE f (k + 1) = f k := by
    show (if fstE f k = 0 then f k else fstE f k) = f k
    rw [if_pos h]
  rw [fstE_stay (by rw [e]; exact h1) n hn, e]
theorem fstE_all {f : Nat → Int} {n : Nat} (h : fstE f n = 0) : ∀ k, k < n → f k = 0 := by
  induction n with
  | zero => intro k hk; omega
  | succ n ih =>
    intro k hk
    have h2 : (if fstE f n = 0 then f n else fstE f n) = 0 := h
    by_cases e : fstE f n = 0
    · rw [if_pos e] at h2
      by_cases e2 : k = n
      · rw [e2]; exact h2
      · exact ih e k (by omega)
    · rw [if_neg e] at h2; exact absurd h2 e
theorem fstE_zero {f : Nat → Int} {n : Nat} (h : ∀ k, k < n → f k = 0) : fstE f n = 0 := by
  induction n with
  | zero => rfl
  | succ n ih => exact fstE_step (ih fun k hk => h k (by omega)) (h n (by omega))

def ndsE (l : List Nd) : Int := fstE (fun i => ndE l.length i (l.getD i nd0)) l.length
def winN (l : List Nd) : Int := (l.map Nd.len).sum
theorem winN_step {l : List Nd} {k : Nat} (h : k < l.length) : winN (l.take (k + 1)) = winN (l.take k) + (l.getD k nd0).len := by
  unfold winN
  rw [List.take_succ_eq_append_getElem h, List.map_append, List.sum_append, at_k h]
  simp
theorem winN_le {l : List Nd} (h : ∀ k, k < l.length → 0 ≤ (l.getD k nd0).len ∧ (l.getD k nd0).len ≤ 8) : ∀ k, k ≤ l.length → 0 ≤ winN (l.take k) ∧ winN (l.take k) ≤ 8 * k := by
  intro k
  induction k with
  | zero => intro _; simp [winN]
  | succ k ih =>
    intro hk
    have := ih (by omega)
    have := h k (by omega)
    rw [winN_step (by omega)]
    omega
/-- The index of the first node with a name, or -1. -/
def findN (l : List Nd) (s : ByteArray) : Nat := l.findIdx fun x => decide (x.name = s)
def findI (l : List Nd) (s : ByteArray) : Int := if findN l s < l.length then (findN l s : Int) else -1
theorem findI_hit {l : List Nd} {s : ByteArray} {k : Nat} (hk : k < l.length) (h : ∀ i, i < k → (l.getD i nd0).name ≠ s) (h1 : (l.getD k nd0).name = s) : findI l s = k := by
  have e : findN l s = k := by
    unfold findN
    rw [List.findIdx_eq hk]
    refine ⟨?_, fun j hj => ?_⟩
    · rw [at_k hk] at h1; simpa using h1
    · have := h j hj
      rw [at_k (by omega)] at this
      simpa using this
  unfold findI
  rw [e, if_pos hk]
theorem findI_no {l : List Nd} {s : ByteArray} (h : ∀ i, i < l.length → (l.getD i nd0).name ≠ s) : findI l s = -1 := by
  have e : findN l s = l.length := by
    unfold findN
    rw [List.findIdx_eq_length]
    intro x hx
    obtain ⟨i, hi, rfl⟩ := List.getElem_of_mem hx
    have := h i hi
    rw [at_k hi] at this
    simpa using this
  unfold findI
  rw [e, if_neg (Nat.lt_irrefl _)]
theorem findI_range (l : List Nd) (s : ByteArray) : -1 ≤ findI l s ∧ findI l s < l.length := by
  unfold findI
  split <;> omega
def difB (l : List Nd) : Bool := (List.range l.length).all fun i => decide ((i : Int) ≤ findI l (l.getD i nd0).name)
def isEn (x : Nd) : Bool := decide (x.kind = 1)
def fitZ (x : Nd) : Bool := if x.kind = 1 ∨ x.kind = 3 ∨ x.kind = 6 then decide (x.zone = 0) else if x.kind = 7 ∨ x.kind = 8 then decide (x.zone = 1) else true
def zBeh (x : Nd) (e : Int) : Int := if x.kind = 6 ∧ e = 1 then 1 else x.zone
def atE (l : List Nd) (x : Nd) (e : Nat) : Nd := l.getD (x.exits.getD e 0).toNat nd0
def zoOk (l : List Nd) (x : Nd) (e : Nat) : Bool := !isEn (atE l x e) && decide ((atE l x e).zone = zBeh x e)
def zoN (l : List Nd) (x : Nd) : Bool := fitZ x && (List.range x.exits.length).all (zoOk l x)
def zonB (l : List Nd) : Bool := l.all (zoN l)

/-- The node k has an exit to another node j. -/
def leadB (l : List Nd) (k j : Nat) : Bool := decide (k ≠ j) && (l.getD k nd0).exits.contains (j : Int)
/-- How many of the first m nodes, without those of a list, lead to j. -/
def cntM (l : List Nd) (out : List Nat) (m j : Nat) : Nat := ((List.range m).filter fun k => leadB l k j && !out.contains k).length
def wtF (l : List Nd) (out : List Nat) (j : Nat) : Option Int := if j < l.length ∧ out.contains j = false then some (cntM l out l.length j) else none
def nextO (l : List Nd) (out : List Nat) : Option Nat := (List.range l.length).find? fun i => decide (wtF l out i = some 0)
def ordG (l : List Nd) : Nat → List Nat → List Nat
  | 0, out => out
  | f + 1, out => match nextO l out with
    | none => out
    | some i => ordG l f (out ++ [i])
def ordN (l : List Nd) : List Nat := ordG l l.length []
def ordF (l : List Nd) : List Int := (ordN l).map Int.ofNat
theorem ordG_stop {l : List Nd} {out : List Nat} (h : nextO l out = none) : ∀ f, ordG l f out = out
  | 0 => rfl
  | f + 1 => by unfold ordG; rw [h]
theorem ordG_go {l : List Nd} {out : List Nat} {i : Nat} (h : nextO l out = some i) (f : Nat) : ordG l (f + 1) out = ordG l f (out ++ [i]) := by
  show (match nextO l out with | none => out | some i => ordG l f (out ++ [i])) = _
  rw [h]

/-- Nodes that are ordered: known ones, each once, each behind all that lead to it. -/
structure Ord (l : List Nd) (out : List Nat) : Prop where
  lt : ∀ i ∈ out, i < l.length
  nodup : out.Nodup
  shut : ∀ j ∈ out, ∀ k, k < l.length → leadB l k j = true → k ∈ out
theorem Ord.nil (l : List Nd) : Ord l [] := ⟨fun _ h => (nomatch h), List.nodup_nil, fun _ h => (nomatch h)⟩
theorem nextO_some {l : List Nd} {out : List Nat} {i : Nat} (h : nextO l out = some i) : i < l.length ∧ i ∉ out ∧ cntM l out l.length i = 0 ∧ (∀ j, j < i → wtF l out j ≠ some 0) := by
  have h1 := List.find?_some h
  have h2 : i < l.length := by simpa using List.mem_of_find?_eq_some h
  have h3 : wtF l out i = some 0 := by simpa using h1
  have h5 : ∀ j, j < i → wtF l out j ≠ some 0 := by
    intro j hj
    have h4 := (List.find?_eq_some_iff_getElem.1 h).2
    obtain ⟨n, hn, e1, e2⟩ := h4
    rw [List.getElem_range] at e1
    have := e2 j (by omega)
    rw [List.getElem_range] at this
    simpa using this
  unfold wtF at h3
  split at h3
  · rename_i hc
    refine ⟨h2, fun hm => ?_, ?_, h5⟩
    · rw [List.contains_iff_mem.2 hm] at hc; exact Bool.noConfusion hc.2
    · have := Option.some.inj h3; omega
  · exact absurd h3 (by simp)
theorem nextO_none {l : List Nd} {out : List Nat} (h : nextO l out = none) : ∀ j, j < l.length → wtF l out j ≠ some 0 := fun j hj => by
  have := List.find?_eq_none.1 h j (by simpa using hj)
  simpa using this
theorem nextO_eq {l : List Nd} {out : List Nat} {i : Nat} (hi : i < l.length) (h : wtF l out i = some 0) (h1 : ∀ j, j < i → wtF l out j ≠ some 0) : nextO l out = some i := by
  unfold nextO
  rw [List.find?_eq_some_iff_getElem]
  refine ⟨by simpa using h, i, by simpa using hi, by rw [List.getElem_range], fun j hj => ?_⟩
  rw [List.getElem_range]
  simpa using h1 j hj
theorem nextO_no {l : List Nd} {out : List Nat} (h : ∀ j, j < l.length → wtF l out j ≠ some 0) : nextO l out = none := by
  unfold nextO
  rw [List.find?_eq_none]
  intro j hj
  simpa using h j (by simpa using hj)
theorem cnt_zero {l : List Nd} {out : List Nat} {m j : Nat} (h : cntM l out m j = 0) {k : Nat} (hk : k < m) (hl : leadB l k j = true) : k ∈ out := by
  unfold cntM at h
  rw [List.length_eq_zero_iff, List.filter_eq_nil_iff] at h
  have := h k (by simpa using hk)
  rw [hl, Bool.true_and] at this
  simpa using this
theorem Ord.snoc {l : List Nd} {out : List Nat} {i : Nat} (h : Ord l out) (hn : nextO l out = some i) : Ord l (out ++ [i]) := by
  obtain ⟨h1, h2, h3, -⟩ := nextO_some hn
  refine ⟨fun j hj => ?_, ?_, fun j hj k hk hl => ?_⟩
  · rcases List.mem_append.1 hj with hj | hj
    · exact h.lt j hj
    · rw [List.mem_singleton.1 hj]; exact h1
  · rw [List.nodup_append]
    exact ⟨h.nodup, by simp, fun a ha b hb e => h2 (by rw [List.mem_singleton.1 hb] at e; rw [← e]; exact ha)⟩
  · rcases List.mem_append.1 hj with hj | hj
    · exact List.mem_append_left _ (h.shut j hj k hk hl)
    · rw [List.mem_singleton.1 hj] at hl
      exact List.mem_append_left _ (cnt_zero h3 hk hl)
theorem Ord.len {l : List Nd} {out : List Nat} (h : Ord l out) : out.length ≤ l.length := by
  have h1 : out.length ≤ (List.range l.length).length := h.nodup.length_le_of_subset fun i hi => by simpa using h.lt i hi
  simpa using h1
theorem Ord.lt_of_next {l : List Nd} {out : List Nat} {i : Nat} (h : Ord l out) (hn : nextO l out = some i) : out.length < l.length := by
  have := (h.snoc hn).len
  rw [List.length_append] at this
  exact this
theorem ordG_ord {l : List Nd} : ∀ (f : Nat) (out : List Nat), Ord l out → Ord l (ordG l f out)
  | 0, _, h => h
  | f + 1, out, h => by
    cases hn : nextO l out with
    | none => rw [ordG_stop hn]; exact h
    | some i => rw [ordG_go hn]; exact ordG_ord f _ (h.snoc hn)
theorem ordN_ord (l : List Nd) : Ord l (ordN l) := ordG_ord _ _ (Ord.nil l)
theorem ordF_len (l : List Nd) : (ordF l).length = (ordN l).length := by unfold ordF; simp

def nodesE (l : List Nd) : Int := if ndsE l = 0 then (if winN l ≤ 80 then (if difB l then (if zonB l then (if (ordF l).length < l.length then 9 else 0) else 7) else 5) else 2) else ndsE l
def dvE (l : List Nd) (d : Dv) : Int := if wIn d.kind 1 2 then (if wIn d.node 0 ((l.length : Int) - 1) && wIn d.win 0 ((l.getD d.node.toNat nd0).len - 1) then 0 else 1) else 4
def sameD (d e : Dv) : Bool := decide (d.kind = e.kind) && (decide (d.node = e.node) && decide (d.win = e.win))
def difD (ds : List Dv) : Bool := (List.range ds.length).all fun i => decide (i ≤ ds.findIdx (sameD (ds.getD i dv0)))
def dvsE (l : List Nd) (ds : List Dv) : Int := if fstE (fun i => dvE l (ds.getD i dv0)) ds.length = 0 then (if difD ds then 0 else 5) else fstE (fun i => dvE l (ds.getD i dv0)) ds.length
/-- The first error of a layout. -/
def layE (x : Lay) : Int :=
  if x.nodes.length ≤ 24 ∧ x.devs.length ≤ 24 then (if nodesE x.nodes = 0 then (if dvsE x.nodes x.devs = 0 then (if x.nodes.any isEn then 0 else 6) else dvsE x.nodes x.devs) else nodesE x.nodes) else 2
end Go.Proofs.YtfddpdognelhmaaGreatDoor

/- LayO: Layouts: plain mathematics of the counts that the order of the nodes keeps in a map. -/
namespace Go.Proofs.YtfddpdognelhmaaGreatDoor

/-- All exits are indices of nodes, those of a node are different, and at most two. -/
structure ExG (l : List Nd) : Prop where
  len : ∀ i, i < l.length → (l.getD i nd0).exits.length ≤ 2
  rng : ∀ i, i < l.length → ∀ t ∈ (l.getD i nd0).exits, 0 ≤ t ∧ t < l.length
  dif : ∀ i, i < l.length → (l.getD i nd0).exits.Nodup

theorem exN_cases {l : List Int} (hl : l.length ≤ 2) : l = [] ∨ (∃ a, l = [a]) ∨ ∃ a b, l = [a, b] := by
  match l, hl with
  | [], _ => exact Or.inl rfl
  | [a], _ => exact Or.inr (Or.inl ⟨a, rfl⟩)
  | [a, b], _ => exact Or.inr (Or.inr ⟨a, b, rfl⟩)
  | _ :: _ :: _ :: r, h => simp at h
theorem exg_of {l : List Nd} (h : ndsE l = 0) : ExG l := by
  have key : ∀ i, i < l.length → exOk l.length i (l.getD i nd0) = true := fun i hi => by
    have h1 := fstE_all (show fstE (fun i => ndE l.length i (l.getD i nd0)) l.length = 0 from h) i hi
    unfold ndE at h1
    split at h1
    · split at h1
      · split at h1
        · rename_i h2
          simp only [Bool.and_eq_true] at h2
          exact h2.2.2
        · omega
      · omega
    · omega
  have at' : ∀ i, i < l.length → ∀ e, e < (l.getD i nd0).exits.length → exOk1 l.length i (l.getD i nd0) e = true := fun i hi e he => by
    have h1 := key i hi
    unfold exOk at h1
    rw [Bool.and_eq_true] at h1
    exact List.all_eq_true.1 h1.2 e (by simpa using he)
  refine ⟨fun i hi => ?_, fun i hi t ht => ?_, fun i hi => ?_⟩
  · have h1 := key i hi
    unfold exOk at h1
    rw [Bool.and_eq_true, decide_eq_true_eq] at h1
    have := exN_le (l.getD i nd0).kind
    omega
  · obtain ⟨e, he, rfl⟩ := List.getElem_of_mem ht
    have h1 := at' i hi e he
    unfold exOk1 at h1
    rw [Bool.and_eq_true, wIn_iff, at_k he] at h1
    omega
  · have hl : (l.getD i nd0).exits.length ≤ 2 := by
      have h1 := key i hi
      unfold exOk at h1
      rw [Bool.and_eq_true, decide_eq_true_eq] at h1
      have := exN_le (l.getD i nd0).kind
      omega
    have h2 := at' i hi
    rcases exN_cases hl with e | ⟨a, e⟩ | ⟨a, b, e⟩
    · rw [e]; exact List.nodup_nil
    · rw [e]; simp
    · have h3 := h2 1 (by rw [e]; simp)
      unfold exOk1 at h3
      rw [e] at h3
      simp only [Bool.and_eq_true] at h3
      have h4 := h3.2.2
      rw [e]
      have : ¬ b = a := by simpa using h4
      have hab : ¬ a = b := fun h => this h.symm
      simp [hab]

theorem cntM_succ (l : List Nd) (out : List Nat) (m j : Nat) : cntM l out (m + 1) j = cntM l out m j + if (leadB l m j && !out.contains m) = true then 1 else 0 := by
  unfold cntM
  rw [List.range_succ, List.filter_append, List.length_append]
  congr 1
  by_cases h : (leadB l m j && !out.contains m) = true
  · rw [if_pos h, List.filter_cons_of_pos (p := fun k => leadB l k j && !out.contains k) h]; rfl
  · rw [if_neg h, List.filter_cons_of_neg (p := fun k => leadB l k j && !out.contains k) h]; rfl
theorem cntM_le (l : List Nd) (out : List Nat) (m j : Nat) : cntM l out m j ≤ m := by
  unfold cntM
  have := List.length_filter_le (fun k => leadB l k j && !out.contains k) (List.range m)
  simpa using this
theorem cntM_snoc (l : List Nd) (out : List Nat) (i j : Nat) (hi : i ∉ out) : ∀ m, cntM l (out ++ [i]) m j + (if i < m ∧ leadB l i j = true then 1 else 0) = cntM l out m j
  | 0 => by rw [if_neg (by omega)]; rfl
  | m + 1 => by
    have ih := cntM_snoc l out i j hi m
    rw [cntM_succ, cntM_succ]
    by_cases e : m = i
    · subst e
      have h1 : (out ++ [m]).contains m = true := by simp
      have h2 : out.contains m = false := by simpa using hi
      rw [h1, h2, if_neg (by simp)]
      rw [if_neg (by omega)] at ih
      cases h3 : leadB l m j
      · rw [if_neg (by simp), if_neg (by simp)]; omega
      · rw [if_pos ⟨by omega, rfl⟩, if_pos (by simp)]; omega
    · have h1 : (out ++ [i]).contains m = out.contains m := by
        rw [Bool.eq_iff_iff, List.contains_iff_mem, List.contains_iff_mem, List.mem_append, List.mem_singleton]
        exact ⟨fun h => h.resolve_right e, Or.inl⟩
      rw [h1]
      by_cases h2 : i < m ∧ leadB l i j = true
      · rw [if_pos h2] at ih
        rw [if_pos (show i < m + 1 ∧ leadB l i j = true from ⟨by omega, h2.2⟩)]
        omega
      · rw [if_neg h2] at ih
        rw [if_neg (show ¬ (i < m + 1 ∧ leadB l i j = true) from fun h => h2 ⟨by omega, h.2⟩)]
        omega

/-- How many of the first e exits of a node i, without that to itself, lead to j. -/
def cE (x : Nd) (i e j : Nat) : Nat := ((x.exits.take e).filter fun t => decide (t = (j : Int)) && !decide (t = (i : Int))).length
theorem cE_zero (x : Nd) (i j : Nat) : cE x i 0 j = 0 := rfl
theorem cE_step {x : Nd} {i e j : Nat} (h : e < x.exits.length) : cE x i (e + 1) j = cE x i e j + if x.exits.getD e 0 = (j : Int) ∧ x.exits.getD e 0 ≠ (i : Int) then 1 else 0 := by
  unfold cE
  rw [List.take_succ_eq_append_getElem h, List.filter_append, List.length_append, at_k h]
  congr 1
  by_cases h : x.exits[e] = (j : Int) ∧ x.exits[e] ≠ (i : Int)
  · rw [if_pos h, List.filter_cons_of_pos (by simp [h.1]; exact fun h' => h.2 (by rw [h.1, h']))]; rfl
  · rw [if_neg h, List.filter_cons_of_neg (by simpa using h)]; rfl
theorem cE_le (x : Nd) (i e j : Nat) : cE x i e j ≤ x.exits.length := by
  unfold cE
  have h1 := List.length_filter_le (fun t => decide (t = (j : Int)) && !decide (t = (i : Int))) (x.exits.take e)
  have h2 := List.length_take_le e x.exits
  have h3 : (x.exits.take e).length ≤ x.exits.length := by rw [List.length_take]; omega
  omega
theorem cE_all {l : List Nd} (h : ExG l) {i : Nat} (hi : i < l.length) (j : Nat) : cE (l.getD i nd0) i (l.getD i nd0).exits.length j = if leadB l i j = true then 1 else 0 := by
  have h1 := h.len i hi
  have h2 := h.dif i hi
  unfold cE leadB
  rw [List.take_length]
  rcases exN_cases h1 with e | ⟨a, e⟩ | ⟨a, b, e⟩
  · rw [e]; simp
  · rw [e]
    by_cases ha : a = (j : Int)
    · subst ha
      by_cases hij : i = j
      · subst hij; simp
      · have : ¬ ((j : Int) = (i : Int)) := by omega
        simp [this, hij]
    · have ha' : ¬ ((j : Int) = a) := fun h => ha h.symm
      simp [ha, ha']
  · rw [e] at h2 ⊢
    have hab : a ≠ b := by
      intro h; subst h; simp at h2
    by_cases ha : a = (j : Int)
    · subst ha
      have hb : ¬ (b = (j : Int)) := fun h => hab h.symm
      have hb' : ¬ ((j : Int) = b) := fun h => hab h
      by_cases hij : i = j
      · subst hij; simp [hb']
      · have : ¬ ((j : Int) = (i : Int)) := by omega
        simp [this, hij, hb]
    · have ha' : ¬ ((j : Int) = a) := fun h => ha h.symm
      by_cases hb : b = (j : Int)
      · subst hb
        by_cases hij : i = j
        · subst hij; simp [ha']
        · have : ¬ ((j : Int) = (i : Int)) := by omega
          simp [this, hij, ha]
      · have hb' : ¬ ((j : Int) = b) := fun h => hb h.symm
        simp [ha, ha', hb, hb']

/-- What the map holds while the nodes are counted: m nodes are done, e exits of the node m; the first n nodes are in it. -/
def gW (l : List Nd) (n m e j : Nat) : Option Int :=
  if j < n ∨ 0 < cntM l [] m j + cE (l.getD m nd0) m e j then some ((cntM l [] m j + cE (l.getD m nd0) m e j : Nat) : Int) else none
theorem gW_start (l : List Nd) (j : Nat) : gW l 0 0 0 j = none := by
  unfold gW; rw [if_neg]; rw [cE_zero]; have : cntM l [] 0 j = 0 := rfl; omega
theorem gW_get (l : List Nd) (n m e j : Nat) : (gW l n m e j).getD 0 = ((cntM l [] m j + cE (l.getD m nd0) m e j : Nat) : Int) := by
  unfold gW
  by_cases h : j < n ∨ 0 < cntM l [] m j + cE (l.getD m nd0) m e j
  · rw [if_pos h]; rfl
  · rw [if_neg h]; show (0 : Int) = _; omega
theorem gW_touch (l : List Nd) (m j : Nat) : (if j = m then some ((gW l m m 0 m).getD 0 + 0) else gW l m m 0 j) = gW l (m + 1) m 0 j := by
  by_cases e : j = m
  · subst e
    rw [if_pos rfl, gW_get]
    unfold gW
    rw [if_pos (Or.inl (by omega)), Int.add_zero]
  · rw [if_neg e]
    unfold gW
    by_cases h : j < m ∨ 0 < cntM l [] m j + cE (l.getD m nd0) m 0 j
    · rw [if_pos h, if_pos (by omega)]
    · rw [if_neg h, if_neg (by omega)]
theorem gW_own {l : List Nd} {n m e : Nat} (h : e < (l.getD m nd0).exits.length) (hs : (l.getD m nd0).exits.getD e 0 = (m : Int)) (j : Nat) : gW l n m e j = gW l n m (e + 1) j := by
  unfold gW
  rw [cE_step h, if_neg (show ¬ ((l.getD m nd0).exits.getD e 0 = (j : Int) ∧ (l.getD m nd0).exits.getD e 0 ≠ (m : Int)) from fun h => h.2 hs), Nat.add_zero]
theorem gW_exit {l : List Nd} {n m e t : Nat} (h : e < (l.getD m nd0).exits.length) (ht : (l.getD m nd0).exits.getD e 0 = (t : Int)) (hs : t ≠ m) (j : Nat) : (if j = t then some ((gW l n m e t).getD 0 + 1) else gW l n m e j) = gW l n m (e + 1) j := by
  by_cases ej : j = t
  · subst ej
    rw [if_pos rfl, gW_get]
    unfold gW
    have : cE (l.getD m nd0) m (e + 1) j = cE (l.getD m nd0) m e j + 1 := by
      rw [cE_step h, if_pos ⟨ht, by rw [ht]; omega⟩]
    rw [this, if_pos (Or.inr (by omega))]
    congr 1
  · rw [if_neg ej]
    unfold gW
    have : cE (l.getD m nd0) m (e + 1) j = cE (l.getD m nd0) m e j := by
      rw [cE_step h, if_neg (by rw [ht]; omega), Nat.add_zero]
    rw [this]
theorem gW_next {l : List Nd} (h : ExG l) {m : Nat} (hm : m < l.length) (j : Nat) : gW l (m + 1) m (l.getD m nd0).exits.length j = gW l (m + 1) (m + 1) 0 j := by
  unfold gW
  rw [cE_all h hm, cE_zero, cntM_succ]
  have : (leadB l m j && !([] : List Nat).contains m) = leadB l m j := by simp
  rw [this]; rfl
theorem gW_end {l : List Nd} (h : ExG l) (j : Nat) : gW l l.length l.length 0 j = wtF l [] j := by
  unfold gW wtF
  rw [cE_zero, Nat.add_zero]
  by_cases hj : j < l.length
  · rw [if_pos (Or.inl hj), if_pos ⟨hj, rfl⟩]
  · have : cntM l [] l.length j = 0 := by
      unfold cntM
      rw [List.length_eq_zero_iff, List.filter_eq_nil_iff]
      intro k hk hc
      have hk' : k < l.length := by simpa using hk
      unfold leadB at hc
      simp only [Bool.and_eq_true] at hc
      have h1 := List.contains_iff_mem.1 hc.1.2
      have := h.rng k hk' _ h1
      omega
    rw [this, if_neg (by omega), if_neg (fun h => hj h.1)]

/-- What the map holds behind the node i, of which e exits are done. -/
def gO (l : List Nd) (out : List Nat) (i e j : Nat) : Option Int :=
  if j < l.length ∧ (out ++ [i]).contains j = false then some ((cntM l out l.length j : Int) - (cE (l.getD i nd0) i e j : Int)) else none
theorem mem_snoc_no {out : List Nat} {i j : Nat} : (out ++ [i]).contains j = false ↔ out.contains j = false ∧ j ≠ i := by
  constructor
  · intro h
    have : ¬ j ∈ out ++ [i] := fun hm => by rw [List.contains_iff_mem.2 hm] at h; exact Bool.noConfusion h
    rw [List.mem_append, List.mem_singleton] at this
    exact ⟨by simpa using fun h => this (Or.inl h), fun h => this (Or.inr h)⟩
  · rintro ⟨h1, h2⟩
    have : ¬ j ∈ out := by simpa using h1
    cases h : (out ++ [i]).contains j
    · rfl
    · have := List.contains_iff_mem.1 h
      rw [List.mem_append, List.mem_singleton] at this
      rcases this with h | h
      · exact absurd h ‹_›
      · exact absurd h h2
theorem gO_start (l : List Nd) (out : List Nat) (i j : Nat) : (if j = i then none else wtF l out j) = gO l out i 0 j := by
  unfold gO wtF
  rw [cE_zero]
  by_cases e : j = i
  · subst e
    rw [if_pos rfl, if_neg (fun h => (mem_snoc_no.1 h.2).2 rfl)]
  · rw [if_neg e]
    by_cases h : j < l.length ∧ out.contains j = false
    · rw [if_pos h, if_pos ⟨h.1, mem_snoc_no.2 ⟨h.2, e⟩⟩]; simp
    · rw [if_neg h, if_neg (fun h' => h ⟨h'.1, (mem_snoc_no.1 h'.2).1⟩)]
theorem gO_own {l : List Nd} {out : List Nat} {i e : Nat} (h : e < (l.getD i nd0).exits.length) (hs : (l.getD i nd0).exits.getD e 0 = (i : Int)) (j : Nat) : gO l out i e j = gO l out i (e + 1) j := by
  unfold gO
  rw [cE_step h, if_neg (show ¬ ((l.getD i nd0).exits.getD e 0 = (j : Int) ∧ (l.getD i nd0).exits.getD e 0 ≠ (i : Int)) from fun h => h.2 hs), Nat.add_zero]
theorem exit_lead {l : List Nd} {i e t : Nat} (h : e < (l.getD i nd0).exits.length) (ht : (l.getD i nd0).exits.getD e 0 = (t : Int)) (hs : t ≠ i) : leadB l i t = true := by
  unfold leadB
  rw [Bool.and_eq_true]
  refine ⟨by simpa using hs.symm, List.contains_iff_mem.2 ?_⟩
  rw [at_k h] at ht
  rw [← ht]
  exact List.getElem_mem _
theorem gO_at {l : List Nd} {out : List Nat} {i e t : Nat} (ho : Ord l out) (hi : i < l.length) (hio : i ∉ out) (h : e < (l.getD i nd0).exits.length) (ht : (l.getD i nd0).exits.getD e 0 = (t : Int)) (hs : t ≠ i) (htl : t < l.length) :
    gO l out i e t = some ((cntM l out l.length t : Int) - (cE (l.getD i nd0) i e t : Int)) := by
  have h1 : ¬ t ∈ out := fun hm => hio (ho.shut t hm i hi (exit_lead h ht hs))
  have h2 : out.contains t = false := by simpa using h1
  unfold gO
  rw [if_pos ⟨htl, mem_snoc_no.2 ⟨h2, hs⟩⟩]
theorem gO_exit {l : List Nd} {out : List Nat} {i e t : Nat} (ho : Ord l out) (hi : i < l.length) (hio : i ∉ out) (h : e < (l.getD i nd0).exits.length) (ht : (l.getD i nd0).exits.getD e 0 = (t : Int)) (hs : t ≠ i) (htl : t < l.length) (j : Nat) :
    (if j = t then some ((gO l out i e t).getD 0 - 1) else gO l out i e j) = gO l out i (e + 1) j := by
  by_cases ej : j = t
  · subst ej
    have h1 : cE (l.getD i nd0) i (e + 1) j = cE (l.getD i nd0) i e j + 1 := by
      rw [cE_step h, if_pos ⟨ht, by rw [ht]; omega⟩]
    have h2 := gO_at ho hi hio h ht hs htl
    rw [if_pos rfl, h2]
    unfold gO at h2 ⊢
    split at h2
    · rename_i hc
      rw [if_pos hc, h1]
      congr 1
      show _ - _ - 1 = _
      omega
    · exact absurd h2 (by simp)
  · rw [if_neg ej]
    unfold gO
    have : cE (l.getD i nd0) i (e + 1) j = cE (l.getD i nd0) i e j := by
      rw [cE_step h, if_neg (by rw [ht]; omega), Nat.add_zero]
    rw [this]
theorem gO_end {l : List Nd} {out : List Nat} {i : Nat} (hx : ExG l) (hi : i < l.length) (hio : i ∉ out) (j : Nat) : gO l out i (l.getD i nd0).exits.length j = wtF l (out ++ [i]) j := by
  unfold gO wtF
  by_cases h : j < l.length ∧ (out ++ [i]).contains j = false
  · rw [if_pos h, if_pos h, cE_all hx hi]
    have := cntM_snoc l out i j hio l.length
    congr 1
    by_cases hl : leadB l i j = true
    · rw [if_pos ⟨hi, hl⟩] at this
      rw [if_pos hl]; omega
    · rw [if_neg (fun h => hl h.2)] at this
      rw [if_neg hl]; omega
  · rw [if_neg h, if_neg h]
end Go.Proofs.YtfddpdognelhmaaGreatDoor

/- LayA: Layouts in memory: rows of nodes and of devices. -/
namespace Go.Proofs.YtfddpdognelhmaaGreatDoor
open Go.RowKit

/-- One node, in five cells of block g. -/
structure NdAt (b : Nat) (w : World) (g off i : Nat) (x : Nd) : Prop where
  c0 : w.cell? ⟨g, off + i * 5, none⟩ = some (.string x.name)
  c1 : w.cell? ⟨g, off + i * 5 + 1, none⟩ = some (.int .i64 x.kind)
  c2 : w.cell? ⟨g, off + i * 5 + 2, none⟩ = some (.int .i64 x.len)
  c3 : w.cell? ⟨g, off + i * 5 + 3, none⟩ = some (.int .i64 x.zone)
  c4 : ∃ A c, w.cell? ⟨g, off + i * 5 + 4, none⟩ = some (.slice A x.exits.length c) ∧ x.exits.length ≤ c ∧ NumsIn b w A x.exits
theorem NdAt.keep {b : Nat} {w w1 : World} {g off i : Nat} {x : Nd} (h : NdAt b w g off i x) (hb : Below w.heap.size w w1) : NdAt b w1 g off i x := by
  obtain ⟨h0, h1, h2, h3, A, c, h4, hl, h5⟩ := h
  exact ⟨kept hb h0, kept hb h1, kept hb h2, kept hb h3, A, c, kept hb h4, hl, h5.keep hb⟩
theorem NdAt.grown {b : Nat} {w w1 : World} {g off i : Nat} {x : Nd} (h : NdAt b w g off i x) (hg : w.grownBy w1 (some b)) (hgb : g ≠ b) : NdAt b w1 g off i x := by
  obtain ⟨h0, h1, h2, h3, A, c, h4, hl, h5⟩ := h
  have k : ∀ {p : Nat} {v : Value}, w.cell? ⟨g, p, none⟩ = some v → w1.cell? ⟨g, p, none⟩ = some v := fun hc => hg.cell hc (by simpa using hgb)
  exact ⟨k h0, k h1, k h2, k h3, A, c, k h4, hl, h5.grown hg⟩
/-- Some nodes, in blocks that are not b. -/
def NdsIn (b : Nat) (w : World) (A : Option Addr) (l : List Nd) : Prop :=
  0 < l.length → ∃ g off, A = some ⟨g, off, none⟩ ∧ g ≠ b ∧ ∀ i, i < l.length → NdAt b w g off i (l.getD i nd0)
theorem NdsIn.keep {b : Nat} {w w1 : World} {A : Option Addr} {l : List Nd} (h : NdsIn b w A l) (hb : Below w.heap.size w w1) : NdsIn b w1 A l := fun hn => by
  obtain ⟨g, off, hA, hg, hc⟩ := h hn
  exact ⟨g, off, hA, hg, fun i hi => (hc i hi).keep hb⟩
theorem NdsIn.grown {b : Nat} {w w1 : World} {A : Option Addr} {l : List Nd} (h : NdsIn b w A l) (hg : w.grownBy w1 (some b)) : NdsIn b w1 A l := fun hn => by
  obtain ⟨g, off, hA, hgb, hc⟩ := h hn
  exact ⟨g, off, hA, hgb, fun i hi => (hc i hi).grown hg hgb⟩
theorem NdsIn.other {b b' : Nat} {w : World} {A : Option Addr} {l : List Nd} (h : NdsIn b w A l) (hb : w.heap.size ≤ b') : NdsIn b' w A l := fun hn => by
  obtain ⟨g, off, hA, _, hc⟩ := h hn
  have hg := World.block_lt_of_cell? w _ (hc 0 hn).c0
  refine ⟨g, off, hA, by simp only [] at hg; omega, fun i hi => ?_⟩
  obtain ⟨h0, h1, h2, h3, A, c, h4, hl, h5⟩ := hc i hi
  exact ⟨h0, h1, h2, h3, A, c, h4, hl, h5.other hb⟩
theorem NdsIn.nil (b : Nat) (w : World) (A : Option Addr) : NdsIn b w A [] := fun h => absurd h (Nat.lt_irrefl 0)

/-- Some devices, of three cells each, in a block that is not b. -/
def DvsIn (b : Nat) (w : World) (A : Option Addr) (l : List Dv) : Prop :=
  0 < l.length → ∃ g off, A = some ⟨g, off, none⟩ ∧ g ≠ b ∧ ∀ i, i < l.length → w.cell? ⟨g, off + i * 3, none⟩ = some (.int .i64 (l.getD i dv0).kind) ∧ w.cell? ⟨g, off + i * 3 + 1, none⟩ = some (.int .i64 (l.getD i dv0).node) ∧ w.cell? ⟨g, off + i * 3 + 2, none⟩ = some (.int .i64 (l.getD i dv0).win)
theorem DvsIn.keep {b : Nat} {w w1 : World} {A : Option Addr} {l : List Dv} (h : DvsIn b w A l) (hb : Below w.heap.size w w1) : DvsIn b w1 A l := fun hn => by
  obtain ⟨g, off, hA, hg, hc⟩ := h hn
  exact ⟨g, off, hA, hg, fun i hi => ⟨kept hb (hc i hi).1, kept hb (hc i hi).2.1, kept hb (hc i hi).2.2⟩⟩
theorem DvsIn.grown {b : Nat} {w w1 : World} {A : Option Addr} {l : List Dv} (h : DvsIn b w A l) (hg : w.grownBy w1 (some b)) : DvsIn b w1 A l := fun hn => by
  obtain ⟨g, off, hA, hgb, hc⟩ := h hn
  have k : ∀ {p : Nat} {v : Value}, w.cell? ⟨g, p, none⟩ = some v → w1.cell? ⟨g, p, none⟩ = some v := fun hc => hg.cell hc (by simpa using hgb)
  exact ⟨g, off, hA, hgb, fun i hi => ⟨k (hc i hi).1, k (hc i hi).2.1, k (hc i hi).2.2⟩⟩
theorem DvsIn.other {b b' : Nat} {w : World} {A : Option Addr} {l : List Dv} (h : DvsIn b w A l) (hb : w.heap.size ≤ b') : DvsIn b' w A l := fun hn => by
  obtain ⟨g, off, hA, _, hc⟩ := h hn
  have hg := World.block_lt_of_cell? w _ (hc 0 hn).1
  exact ⟨g, off, hA, by simp only [] at hg; omega, hc⟩
theorem DvsIn.nil (b : Nat) (w : World) (A : Option Addr) : DvsIn b w A [] := fun h => absurd h (Nat.lt_irrefl 0)

/-- Few exits. -/
def FewX (l : List Nd) : Prop := ∀ x ∈ l, x.exits.length ≤ 3000
theorem FewX.at {l : List Nd} (h : FewX l) {i : Nat} (hi : i < l.length) : (l.getD i nd0).exits.length ≤ 3000 := by
  rw [at_k hi]; exact h _ (List.getElem_mem _)
abbrev layV (A : Option Addr) (n c : Nat) (B : Option Addr) (m d : Nat) : Value := .agg #[.slice A n c, .slice B m d]
end Go.Proofs.YtfddpdognelhmaaGreatDoor

/- LayW: A map of numbers: what it holds as a plain function. -/
namespace Go.Proofs.YtfddpdognelhmaaGreatDoor
open Go.RowKit Go.Maps

theorem lawMI : Keyed Tryz.prog 3 := int_keyed Tryz.underlying3
theorem zeroMI (w : World) : (zeroValue 3).run Tryz.prog w = .ok (.int .i64 0) w := by kernel_rfl

abbrev kN (j : Nat) : Lit := .int .i64 (j : Int)
abbrev vI (v : Int) : DataW Unit := .lit (.int .i64 v)
/-- What a map's datum says. -/
structure MapsTo (D : DataW Unit) (f : Nat → Option Int) : Prop where
  isMap : IsMap D
  has : ∀ j : Nat, Maps.has D (kN j) = (f j).isSome
  get : ∀ j : Nat, D.atKey (kN j) (vI 0) = vI ((f j).getD 0)
abbrev OwnMI (w : World) (B n : Nat) (D : DataW Unit) : Prop := w.ownsMap Tryz.prog 3 (plainElem Tryz.prog 3) B n D
/-- A map of numbers in block B, of at most n entries. -/
def Wts (w : World) (B n : Nat) (f : Nat → Option Int) : Prop := ∃ D : DataW Unit, OwnMI w B n D ∧ MapsTo D f
theorem key_mk {j : Nat} (h : j < 1000000) : keyOf Tryz.prog 3 (.int .i64 (j : Int)) = some (kN j) := keyOf_int_mk Tryz.underlying3 (WalkArith.wf_i64 (by omega))
theorem kN_ne {j k : Nat} (h : k ≠ j) : kN k ≠ kN j := fun e => h (by
  have := Lit.int.inj e
  omega)
theorem MapsTo.empty : MapsTo (.map []) fun _ => none := ⟨isMap_empty, fun _ => rfl, fun _ => rfl⟩
theorem MapsTo.put {D : DataW Unit} {f : Nat → Option Int} (h : MapsTo D f) (j : Nat) (v : Int) : MapsTo (D.put (kN j) (vI v)) fun k => if k = j then some v else f k := by
  have hk : WideAt.IsKeyLit (kN j) := trivial
  refine ⟨h.isMap.put _ _, fun k => ?_, fun k => ?_⟩
  · by_cases e : k = j
    · subst e; rw [has_put_same h.isMap hk, if_pos rfl]; rfl
    · rw [has_put_other (kN_ne e), h.has, if_neg e]
  · by_cases e : k = j
    · subst e; rw [atKey_put_same h.isMap hk, if_pos rfl]; rfl
    · rw [atKey_put_other (kN_ne e), h.get, if_neg e]
theorem MapsTo.del {D : DataW Unit} {f : Nat → Option Int} (h : MapsTo D f) (j : Nat) : MapsTo (D.del (kN j)) fun k => if k = j then none else f k := by
  refine ⟨h.isMap.del _, fun k => ?_, fun k => ?_⟩
  · by_cases e : k = j
    · subst e; rw [has_del_same, if_pos rfl]; rfl
    · rw [has_del_other (kN_ne e), h.has, if_neg e]
  · by_cases e : k = j
    · subst e; rw [atKey_del_same, if_pos rfl]; rfl
    · rw [atKey_del_other (kN_ne e), h.get, if_neg e]
theorem MapsTo.congr {D : DataW Unit} {f g : Nat → Option Int} (h : MapsTo D f) (e : ∀ j, f j = g j) : MapsTo D g := by
  obtain rfl : f = g := funext e
  exact h
theorem Wts.congr {w : World} {B n : Nat} {f g : Nat → Option Int} (h : Wts w B n f) (e : ∀ j, f j = g j) : Wts w B n g := by
  obtain rfl : f = g := funext e
  exact h
theorem Wts.mono {w : World} {B n m : Nat} {f : Nat → Option Int} (h : Wts w B n f) (e : n ≤ m) : Wts w B m f := by
  obtain ⟨D, h1, h2⟩ := h
  exact ⟨D, h1.mono e, h2⟩
theorem Wts.kept {w w' : World} {B n : Nat} {f : Nat → Option Int} {row : Option Nat} (h : Wts w B n f) (hg : w.grownBy w' row) (hne : some B ≠ row) : Wts w' B n f := by
  obtain ⟨D, h1, h2⟩ := h
  exact ⟨D, h1.kept hg hne, h2⟩
theorem Wts.made (w : World) : Wts (w.alloc (.map #[] 0)) w.heap.size 0 fun _ => none := ⟨_, World.ownsMap_made _ _ _ _, MapsTo.empty⟩
end Go.Proofs.YtfddpdognelhmaaGreatDoor
