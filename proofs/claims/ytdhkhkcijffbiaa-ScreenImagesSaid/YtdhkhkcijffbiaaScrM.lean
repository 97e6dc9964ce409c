/-
  Screening (layer 15): plain mathematics: checks, starts, expirations, verdicts; what each keeps.
-/
import Derived.Test.YtdhkhkcijffbiaaTelA
namespace Go.Proofs.Ytdhkhkcijffbiaa

/-- A check. -/
structure Ck where
  bag : Int
  lv : Int
  si : Int
  im : Int
  st : Int
theorem Ck.ext_iff' {a b : Ck} : a = b ↔ (a.bag = b.bag ∧ a.lv = b.lv ∧ a.si = b.si ∧ a.im = b.im ∧ a.st = b.st) := by cases a; cases b; simp
instance : DecidableEq Ck := fun _ _ => decidable_of_iff _ Ck.ext_iff'.symm
def ck0 : Ck := ⟨0, 0, 0, 0, 0⟩
/-- A screening. -/
structure Scr where
  l0 : Int
  l1 : Int
  l2 : Int
  l3 : Int
  next : Int
  l : List Ck
def scr0 : Scr := ⟨0, 0, 0, 0, 0, []⟩
/-- The time limit of a level. -/
def limF (s : Scr) (k : Int) : Int := if k = 1 then s.l0 else if k = 2 then s.l1 else if k = 3 then s.l2 else s.l3
def dlF (s : Scr) (x : Ck) : Int := x.si + limF s x.lv

def limB (n : Int) : Bool := decide (0 ≤ n ∧ n ≤ 1000)
def newE (a b c d : Int) : Int := if limB a && (limB b && (limB c && limB d)) then 0 else 1
def newS (a b c d : Int) : Scr := if newE a b c d = 0 then ⟨a, b, c, d, 1, []⟩ else scr0
/-- The check of a bag. -/
def findO (s : Scr) (bag : Int) : Option Ck := s.l.find? fun x => decide (x.bag = bag)
def findX (s : Scr) (bag : Int) : Ck := (findO s bag).getD ck0
def findB (s : Scr) (bag : Int) : Bool := (findO s bag).isSome
/-- A start. -/
def startE (s : Scr) (bag now : Int) : Int := if 1 ≤ bag ∧ bag ≤ 40 ∧ 0 ≤ now ∧ now ≤ 1048576 then (if findB s bag then 5 else if 1048576 < s.next then 2 else 0) else 1
def insC (x : Ck) : List Ck → List Ck
  | [] => [x]
  | y :: l => if y.bag < x.bag then y :: insC x l else x :: y :: l
def startS (s : Scr) (bag now : Int) : Scr := if startE s bag now = 0 then { s with next := s.next + 1, l := insC ⟨bag, 1, now, s.next, 1⟩ s.l } else scr0
/-- A check that fails, and the next image. -/
def failF (x : Ck) (next now : Int) : Ck × Int := if x.lv = 4 then ({ x with st := 3 }, next) else (⟨x.bag, x.lv + 1, now, next, x.st⟩, next + 1)
/-- An expiration of one check. -/
def expC (s : Scr) (now : Int) (x : Ck) (n : Int) : Ck × Int := if x.st = 1 ∧ dlF s x < now then failF x n now else (x, n)
def expG (s : Scr) (now : Int) : List Ck → Int → List Ck × Int
  | [], n => ([], n)
  | x :: l, n => ((expC s now x n).1 :: (expG s now l (expC s now x n).2).1, (expG s now l (expC s now x n).2).2)
def expE (s : Scr) (now : Int) : Int := if 0 ≤ now ∧ now ≤ 1048576 then (if 1048577 < (expG s now s.l s.next).2 then 2 else 0) else 1
def expT (s : Scr) (now : Int) : Scr := { s with next := (expG s now s.l s.next).2, l := (expG s now s.l s.next).1 }
def expS (s : Scr) (now : Int) : Scr := if expE s now = 0 then expT s now else scr0
/-- A verdict: the check that it is about, what becomes of it. -/
def vHit (s : Scr) (image : Int) (x : Ck) : Bool := decide (x.st = 1) && (decide (x.im = image) && decide (image < s.next))
def vIdx (s : Scr) (image now : Int) : Nat := (expT s now).l.findIdx (vHit s image)
def vNew (s : Scr) (clear : Bool) (now : Int) (x : Ck) : Ck × Int := if clear then ({ x with st := 2 }, (expT s now).next) else failF x (expT s now).next now
def verE (s : Scr) (image : Int) (clear : Bool) (now : Int) : Int :=
  if expE s now ≠ 0 then expE s now else
  if vIdx s image now < (expT s now).l.length then (if 1048577 < (vNew s clear now ((expT s now).l.getD (vIdx s image now) ck0)).2 then 2 else 0) else 6
def verS (s : Scr) (image : Int) (clear : Bool) (now : Int) : Scr :=
  if verE s image clear now = 0 then { expT s now with next := (vNew s clear now ((expT s now).l.getD (vIdx s image now) ck0)).2, l := (expT s now).l.set (vIdx s image now) (vNew s clear now ((expT s now).l.getD (vIdx s image now) ck0)).1 } else scr0
def verBag (s : Scr) (image : Int) (clear : Bool) (now : Int) : Int := if verE s image clear now = 0 then ((expT s now).l.getD (vIdx s image now) ck0).bag else 0
/-- The cleared bags; the alarms. -/
def clrL (s : Scr) : List Int := (s.l.filter fun x => decide (x.st = 2)).map Ck.bag
structure Al where
  im : Int
  bag : Int
  lv : Int
  dl : Int
def al0 : Al := ⟨0, 0, 0, 0⟩
theorem Al.ext_iff' {a b : Al} : a = b ↔ (a.im = b.im ∧ a.bag = b.bag ∧ a.lv = b.lv ∧ a.dl = b.dl) := by cases a; cases b; simp
instance : DecidableEq Al := fun _ _ => decidable_of_iff _ Al.ext_iff'.symm
def alB (a b : Al) : Bool := decide (a.dl < b.dl) || (decide (a.dl = b.dl) && decide (a.im < b.im))
def insA (x : Al) : List Al → List Al
  | [] => [x]
  | y :: l => if alB y x then y :: insA x l else x :: y :: l
def alOf (s : Scr) (x : Ck) : Al := ⟨x.im, x.bag, x.lv, dlF s x⟩
def alStep (s : Scr) (out : List Al) (x : Ck) : List Al := if x.st = 1 then insA (alOf s x) out else out
def alL (s : Scr) : List Al := s.l.foldl (alStep s) []

/-- A check that stands in a screening. -/
def okC (n : Int) (x : Ck) : Prop := (1 ≤ x.bag ∧ x.bag ≤ 40) ∧ (1 ≤ x.lv ∧ x.lv ≤ 4) ∧ (0 ≤ x.si ∧ x.si ≤ 1048576) ∧ (1 ≤ x.im ∧ x.im < n) ∧ (1 ≤ x.st ∧ x.st ≤ 3)
def ascC (l : List Ck) : Prop := l.Pairwise fun x y => x.bag < y.bag
structure ValS (s : Scr) : Prop where
  lim : (0 ≤ s.l0 ∧ s.l0 ≤ 1000) ∧ (0 ≤ s.l1 ∧ s.l1 ≤ 1000) ∧ (0 ≤ s.l2 ∧ s.l2 ≤ 1000) ∧ (0 ≤ s.l3 ∧ s.l3 ≤ 1000)
  nx : 1 ≤ s.next ∧ s.next ≤ 1048577
  ok : ∀ x ∈ s.l, okC s.next x
  asc : ascC s.l
  len : s.l.length ≤ 40
theorem okC.up {n m : Int} {x : Ck} (h : okC n x) (hm : n ≤ m) : okC m x := by unfold okC at *; omega

/-- What becomes of a list of checks: bag by bag. -/
theorem failF_bag (x : Ck) (n now : Int) : (failF x n now).1.bag = x.bag := by unfold failF; split <;> rfl
theorem expC_bag (s : Scr) (now : Int) (x : Ck) (n : Int) : (expC s now x n).1.bag = x.bag := by
  unfold expC; split
  · exact failF_bag _ _ _
  · rfl
theorem failF_next (x : Ck) (n now : Int) : n ≤ (failF x n now).2 ∧ (failF x n now).2 ≤ n + 1 := by unfold failF; split <;> simp <;> omega
theorem expC_next (s : Scr) (now : Int) (x : Ck) (n : Int) : n ≤ (expC s now x n).2 ∧ (expC s now x n).2 ≤ n + 1 := by
  unfold expC; split
  · exact failF_next _ _ _
  · simp; omega
theorem expG_bags (s : Scr) (now : Int) : ∀ (l : List Ck) (n : Int), (expG s now l n).1.map Ck.bag = l.map Ck.bag
  | [], _ => rfl
  | x :: l, n => by
    show (expC s now x n).1.bag :: (expG s now l (expC s now x n).2).1.map Ck.bag = x.bag :: l.map Ck.bag
    rw [expC_bag, expG_bags s now l]
theorem expG_len (s : Scr) (now : Int) (l : List Ck) (n : Int) : (expG s now l n).1.length = l.length := by
  have := congrArg List.length (expG_bags s now l n)
  simpa using this
theorem expG_next (s : Scr) (now : Int) : ∀ (l : List Ck) (n : Int), n ≤ (expG s now l n).2 ∧ (expG s now l n).2 ≤ n + l.length
  | [], n => by show n ≤ n ∧ n ≤ n + 0; omega
  | x :: l, n => by
    have h1 := expC_next s now x n
    have h2 := expG_next s now l (expC s now x n).2
    show n ≤ (expG s now l (expC s now x n).2).2 ∧ (expG s now l (expC s now x n).2).2 ≤ n + ((x :: l).length : Nat)
    rw [List.length_cons]
    omega
theorem asc_map {l m : List Ck} (h : ascC l) (e : m.map Ck.bag = l.map Ck.bag) : ascC m := by
  unfold ascC at *
  have h1 : (l.map Ck.bag).Pairwise (· < ·) := List.pairwise_map.2 h
  rw [← e] at h1
  exact List.pairwise_map.1 h1
theorem failF_ok {x : Ck} {n now : Int} (h : okC n x) (h0 : 0 ≤ now) (h1 : now ≤ 1048576) (hp : 1 ≤ n) : okC (failF x n now).2 (failF x n now).1 := by
  unfold failF okC at *
  split <;> simp <;> omega
/-- What one check becomes in an expiration. -/
theorem expG_at (s : Scr) (now : Int) : ∀ (l : List Ck) (n : Int) (k : Nat) (_ : k < l.length), ∃ m, n ≤ m ∧ m ≤ (expG s now l n).2 ∧ (expG s now l n).1.getD k ck0 = (expC s now (l.getD k ck0) m).1 ∧ (expC s now (l.getD k ck0) m).2 ≤ (expG s now l n).2
  | x :: l, n, 0, _ => by
    have h2 := expG_next s now l (expC s now x n).2
    have h1 := expC_next s now x n
    exact ⟨n, by omega, by show n ≤ (expG s now l (expC s now x n).2).2; omega, rfl, h2.1⟩
  | x :: l, n, k + 1, hk => by
    obtain ⟨m, h1, h2, h3, h4⟩ := expG_at s now l (expC s now x n).2 k (by simpa using hk)
    have h5 := expC_next s now x n
    exact ⟨m, by omega, h2, h3, h4⟩
theorem mem_getD {l : List Ck} {x : Ck} (h : x ∈ l) : ∃ k, k < l.length ∧ l.getD k ck0 = x := by
  obtain ⟨k, hk, e⟩ := List.getElem_of_mem h
  exact ⟨k, hk, by rw [List.getD_eq_getElem?_getD, List.getElem?_eq_getElem hk]; exact e⟩
theorem getD_mem {l : List Ck} {k : Nat} (h : k < l.length) : l.getD k ck0 ∈ l := by
  rw [List.getD_eq_getElem?_getD, List.getElem?_eq_getElem h]; exact List.getElem_mem h
theorem expT_valid {s : Scr} {now : Int} (h : ValS s) (he : expE s now = 0) : ValS (expT s now) := by
  have hn := expG_next s now s.l s.next
  unfold expE at he
  split at he
  · rename_i hr
    split at he
    · omega
    · rename_i h2
      have hnx := h.nx
      refine ⟨h.lim, ⟨?_, ?_⟩, ?_, asc_map h.asc (expG_bags s now s.l s.next), ?_⟩
      · show 1 ≤ (expG s now s.l s.next).2; omega
      · show (expG s now s.l s.next).2 ≤ 1048577; omega
      · intro x hx
        obtain ⟨k, hk, rfl⟩ := mem_getD hx
        have hk' : k < s.l.length := by rw [← expG_len s now s.l s.next]; exact hk
        obtain ⟨m, m1, m2, m3, m4⟩ := expG_at s now s.l s.next k hk'
        show okC (expG s now s.l s.next).2 ((expG s now s.l s.next).1.getD k ck0)
        rw [m3]
        have ho := h.ok _ (getD_mem hk')
        unfold expC at m4 ⊢
        split at m4
        · rename_i hc
          rw [if_pos hc]
          exact (failF_ok (ho.up m1) hr.1 hr.2 (by omega)).up m4
        · rename_i hc
          rw [if_neg hc]
          exact ho.up (by omega)
      · show (expG s now s.l s.next).1.length ≤ 40
        rw [expG_len]; exact h.len
  · omega
theorem expS_valid {s : Scr} {now : Int} (h : ValS s) (he : expE s now = 0) : ValS (expS s now) := by unfold expS; rw [if_pos he]; exact expT_valid h he
theorem newS_valid {a b c d : Int} (he : newE a b c d = 0) : ValS (newS a b c d) := by
  unfold newS
  rw [if_pos he]
  unfold newE at he
  split at he
  · rename_i h
    simp only [limB, Bool.and_eq_true, decide_eq_true_eq] at h
    exact ⟨⟨h.1, h.2.1, h.2.2.1, h.2.2.2⟩, ⟨by show (1 : Int) ≤ 1; omega, by show (1 : Int) ≤ 1048577; omega⟩, (fun x hx => by cases hx), List.Pairwise.nil, Nat.zero_le _⟩
  · omega
theorem insC_mem {x y : Ck} : ∀ {l : List Ck}, y ∈ insC x l ↔ y = x ∨ y ∈ l
  | [] => by simp [insC]
  | z :: l => by
    unfold insC
    split
    · rw [List.mem_cons, insC_mem, List.mem_cons]
      constructor
      · rintro (h | h | h) <;> simp [h]
      · rintro (h | h | h) <;> simp [h]
    · simp
theorem insC_len (x : Ck) : ∀ (l : List Ck), (insC x l).length = l.length + 1
  | [] => rfl
  | z :: l => by
    unfold insC
    split
    · rw [List.length_cons, insC_len x l, List.length_cons]
    · rfl
theorem insC_asc {x : Ck} : ∀ {l : List Ck}, ascC l → (∀ y ∈ l, y.bag ≠ x.bag) → ascC (insC x l)
  | [], _, _ => by unfold insC ascC; simp
  | z :: l, h, hne => by
    unfold ascC at h
    obtain ⟨h1, h2⟩ := List.pairwise_cons.1 h
    unfold insC
    split
    · rename_i hz
      refine List.pairwise_cons.2 ⟨fun y hy => ?_, insC_asc h2 (fun y hy => hne y (List.mem_cons_of_mem _ hy))⟩
      rcases insC_mem.1 hy with rfl | hy
      · exact hz
      · exact h1 y hy
    · rename_i hz
      have hzz := hne z (List.mem_cons_self ..)
      refine List.pairwise_cons.2 ⟨fun y hy => ?_, h⟩
      rcases List.mem_cons.1 hy with rfl | hy
      · omega
      · have := h1 y hy; omega
theorem find_none {s : Scr} {bag : Int} (h : findB s bag = false) : ∀ y ∈ s.l, y.bag ≠ bag := fun y hy e => by
  unfold findB findO at h
  rw [Option.isSome_eq_false_iff, Option.isNone_iff_eq_none, List.find?_eq_none] at h
  exact h y hy (decide_eq_true e)
/-- Strictly ascending numbers from 1 to 40 are forty at most. -/
theorem asc_few : ∀ {l : List Ck} {lo : Int}, ascC l → (∀ x ∈ l, lo < x.bag ∧ x.bag ≤ 40) → lo ≤ 40 → (l.length : Int) ≤ 40 - lo
  | [], lo, _, _, h => by simp; omega
  | x :: l, lo, ha, hb, _ => by
    obtain ⟨h1, h2⟩ := List.pairwise_cons.1 ha
    have hx := hb x (List.mem_cons_self ..)
    have := asc_few (l := l) (lo := x.bag) h2 (fun y hy => ⟨h1 y hy, (hb y (List.mem_cons_of_mem _ hy)).2⟩) hx.2
    rw [List.length_cons]
    omega
theorem startS_valid {s : Scr} {bag now : Int} (h : ValS s) (he : startE s bag now = 0) : ValS (startS s bag now) := by
  have he0 := he
  unfold startE at he
  split at he
  · rename_i hr
    split at he
    · omega
    · rename_i hf
      split at he
      · omega
      · rename_i hn
        unfold startS
        rw [if_pos he0]
        have hnx := h.nx
        have ha : ascC (insC ⟨bag, 1, now, s.next, 1⟩ s.l) := insC_asc h.asc (find_none (by simpa using hf))
        have hok : ∀ x ∈ insC ⟨bag, 1, now, s.next, 1⟩ s.l, okC (s.next + 1) x := fun x hx => by
          rcases insC_mem.1 hx with rfl | hx
          · unfold okC; simp; omega
          · exact (h.ok x hx).up (by omega)
        refine ⟨h.lim, ⟨by show 1 ≤ s.next + 1; omega, by show s.next + 1 ≤ 1048577; omega⟩, hok, ha, ?_⟩
        have := asc_few (lo := 0) ha (fun x hx => by have := (hok x hx).1; omega) (by omega)
        show (insC ⟨bag, 1, now, s.next, 1⟩ s.l).length ≤ 40
        omega
  · omega
theorem vNew_ok {s : Scr} {clear : Bool} {now : Int} {x : Ck} (hp : 1 ≤ (expT s now).next) (h : okC (expT s now).next x) (h0 : 0 ≤ now) (h1 : now ≤ 1048576) : okC (vNew s clear now x).2 (vNew s clear now x).1 ∧ (expT s now).next ≤ (vNew s clear now x).2 ∧ (vNew s clear now x).1.bag = x.bag := by
  unfold vNew
  split
  · refine ⟨?_, Int.le_refl _, rfl⟩
    unfold okC at *
    simp
    omega
  · exact ⟨failF_ok h h0 h1 hp, (failF_next _ _ _).1, failF_bag _ _ _⟩
theorem expE_time {s : Scr} {now : Int} (he : expE s now = 0) : 0 ≤ now ∧ now ≤ 1048576 := by
  unfold expE at he
  split at he
  · assumption
  · omega
theorem verE_zero {s : Scr} {image : Int} {clear : Bool} {now : Int} (he : verE s image clear now = 0) :
    expE s now = 0 ∧ vIdx s image now < (expT s now).l.length ∧ (vNew s clear now ((expT s now).l.getD (vIdx s image now) ck0)).2 ≤ 1048577 := by
  unfold verE at he
  split at he
  · rename_i h; exact absurd he h
  · rename_i h
    split at he
    · rename_i h2
      split at he
      · omega
      · exact ⟨by omega, h2, by omega⟩
    · omega
theorem verS_valid {s : Scr} {image : Int} {clear : Bool} {now : Int} (h : ValS s) (he : verE s image clear now = 0) : ValS (verS s image clear now) := by
  obtain ⟨h1, h2, h3⟩ := verE_zero he
  have hv := expT_valid h h1
  have ht := expE_time h1
  obtain ⟨o1, o2, o3⟩ := vNew_ok (clear := clear) hv.nx.1 (hv.ok _ (getD_mem h2)) ht.1 ht.2
  unfold verS
  rw [if_pos he]
  refine ⟨hv.lim, ⟨?_, h3⟩, ?_, ?_, ?_⟩
  · have := hv.nx.1
    show 1 ≤ (vNew s clear now ((expT s now).l.getD (vIdx s image now) ck0)).2
    omega
  · intro x hx
    rcases List.mem_or_eq_of_mem_set hx with hx | rfl
    · exact (hv.ok x hx).up o2
    · exact o1
  · refine asc_map hv.asc ?_
    rw [List.map_set, o3]
    refine List.ext_getElem (by simp) fun i hi1 hi2 => ?_
    rw [List.getElem_set]
    split
    · rename_i e
      subst e
      rw [List.getElem_map, List.getD_eq_getElem?_getD, List.getElem?_eq_getElem h2]; rfl
    · rfl
  · show ((expT s now).l.set _ _).length ≤ 40
    rw [List.length_set]; exact hv.len
end Go.Proofs.Ytdhkhkcijffbiaa
