/-
  Screening (layer 15): plain mathematics of ScreenOnlyVerdicts and ScreenImages: what a step does to each bag and to the images.
-/
import Derived.Test.YtdhkhkcijffbiaaScrM
namespace Go.Proofs.Ytdhkhkcijffbiaa

/-- The check of a bag is where its bag stands. -/
theorem find_at {bag : Int} : ∀ {l : List Ck} {k : Nat}, ascC l → k < l.length → (l.getD k ck0).bag = bag → l.find? (fun x => decide (x.bag = bag)) = some (l.getD k ck0)
  | x :: l, 0, _, _, h => by
    have h' : x.bag = bag := h
    rw [List.find?_cons_of_pos (by simpa using h')]; rfl
  | x :: l, k + 1, ha, hk, h => by
    obtain ⟨h1, h2⟩ := List.pairwise_cons.1 ha
    have hk' : k < l.length := by simpa using hk
    have hm : l.getD k ck0 ∈ l := getD_mem hk'
    have hlt := h1 _ hm
    have h' : (l.getD k ck0).bag = bag := h
    rw [List.find?_cons_of_neg (by simp; omega)]
    exact find_at h2 hk' h'
theorem find_no {bag : Int} {l : List Ck} (h : l.find? (fun x => decide (x.bag = bag)) = none) : ∀ x ∈ l, x.bag ≠ bag := fun x hx e => by
  rw [List.find?_eq_none] at h
  exact h x hx (decide_eq_true e)
theorem find_some {bag : Int} {l : List Ck} {x : Ck} (h : l.find? (fun x => decide (x.bag = bag)) = some x) : ∃ k, k < l.length ∧ l.getD k ck0 = x ∧ x.bag = bag := by
  obtain ⟨k, hk, e⟩ := mem_getD (List.mem_of_find?_eq_some h)
  exact ⟨k, hk, e, by simpa using List.find?_some h⟩
theorem find_none_bags {bag : Int} {l m : List Ck} (e : m.map Ck.bag = l.map Ck.bag) (h : l.find? (fun x => decide (x.bag = bag)) = none) : m.find? (fun x => decide (x.bag = bag)) = none := by
  rw [List.find?_eq_none]
  intro x hx
  have : x.bag ∈ l.map Ck.bag := by rw [← e]; exact List.mem_map.2 ⟨x, hx, rfl⟩
  obtain ⟨y, hy, hb⟩ := List.mem_map.1 this
  have := find_no h y hy
  simp
  omega

/-- What a step may do to the check of a bag. -/
def StepB (image : Int) (clear : Bool) (now : Int) (s s' : Scr) (b : Int) : Prop :=
  (findB s b = true → findB s' b = true ∧ ((findX s b).st ≠ 1 → findX s' b = findX s b)) ∧
  (findB s' b = true → (findX s' b).st = 2 → (findB s b = false ∨ (findX s b).st = 1) → findB s b = true ∧ clear = true ∧ (findX s b).im = image ∧ (findX s' b).im = image ∧ now ≤ (findX s b).si + limF s' (findX s b).lv)
theorem stepB_same (image : Int) (clear : Bool) (now : Int) (s : Scr) (b : Int) : StepB image clear now s s b :=
  ⟨fun h => ⟨h, fun _ => rfl⟩, fun h h2 h3 => by rcases h3 with h3 | h3; (rw [h3] at h; cases h); omega⟩
theorem findB_none {s : Scr} {b : Int} (h : findO s b = none) : findB s b = false := by unfold findB; rw [h]; rfl
theorem findB_some {s : Scr} {b : Int} {x : Ck} (h : findO s b = some x) : findB s b = true ∧ findX s b = x := by unfold findB findX; rw [h]; exact ⟨rfl, rfl⟩
theorem insC_find {x : Ck} {bag : Int} (hb : bag ≠ x.bag) : ∀ {l : List Ck}, (insC x l).find? (fun y => decide (y.bag = bag)) = l.find? (fun y => decide (y.bag = bag))
  | [] => by
    unfold insC
    rw [List.find?_cons_of_neg (by simpa using fun h => hb h.symm)]
  | z :: l => by
    unfold insC
    split
    · by_cases hz : z.bag = bag
      · rw [List.find?_cons_of_pos (by simpa using hz), List.find?_cons_of_pos (by simpa using hz)]
      · rw [List.find?_cons_of_neg (by simpa using hz), List.find?_cons_of_neg (by simpa using hz), insC_find hb]
    · rw [List.find?_cons_of_neg (by simpa using fun h => hb h.symm)]
theorem insC_find_self {x : Ck} : ∀ {l : List Ck}, (∀ y ∈ l, y.bag ≠ x.bag) → (insC x l).find? (fun y => decide (y.bag = x.bag)) = some x
  | [], _ => by unfold insC; rw [List.find?_cons_of_pos (by simp)]
  | z :: l, h => by
    have hz := h z (List.mem_cons_self ..)
    unfold insC
    split
    · rw [List.find?_cons_of_neg (by simpa using hz)]
      exact insC_find_self fun y hy => h y (List.mem_cons_of_mem _ hy)
    · rw [List.find?_cons_of_pos (by simp)]
theorem startE_zero {s : Scr} {bag now : Int} (he : startE s bag now = 0) : (1 ≤ bag ∧ bag ≤ 40) ∧ (0 ≤ now ∧ now ≤ 1048576) ∧ findB s bag = false ∧ s.next ≤ 1048576 := by
  unfold startE at he
  split at he
  · split at he
    · omega
    · rename_i hf
      split at he
      · omega
      · exact ⟨by omega, by omega, by simpa using hf, by omega⟩
  · omega
theorem stepB_start {image : Int} {clear : Bool} {nw : Int} {s : Scr} {bag now : Int} (he : startE s bag now = 0) (b : Int) : StepB image clear nw s (startS s bag now) b := by
  obtain ⟨-, -, hf, -⟩ := startE_zero he
  have hS : startS s bag now = { s with next := s.next + 1, l := insC ⟨bag, 1, now, s.next, 1⟩ s.l } := by unfold startS; rw [if_pos he]
  by_cases hb : b = bag
  · subst hb
    have e : findO (startS s b now) b = some ⟨b, 1, now, s.next, 1⟩ := by rw [hS]; exact insC_find_self (x := ⟨b, 1, now, s.next, 1⟩) (l := s.l) (find_none hf)
    obtain ⟨e1, e2⟩ := findB_some e
    refine ⟨(fun h => by rw [hf] at h; cases h), fun _ h2 _ => ?_⟩
    rw [e2] at h2
    exact absurd h2 (show ¬ (1 : Int) = 2 by decide)
  · have e : findO (startS s bag now) b = findO s b := by rw [hS]; exact insC_find hb
    have e1 : findB (startS s bag now) b = findB s b := by unfold findB; rw [e]
    have e2 : findX (startS s bag now) b = findX s b := by unfold findX; rw [e]
    refine ⟨fun h => by rw [e1, e2]; exact ⟨h, fun _ => rfl⟩, fun h h2 h3 => ?_⟩
    rw [e1] at h
    rw [e2] at h2
    rcases h3 with h3 | h3
    · rw [h3] at h; cases h
    · omega
/-- An expiration: bag by bag. -/
theorem exp_find {s : Scr} {now : Int} (hv : ValS s) (b : Int) :
    (findO s b = none ∧ findO (expT s now) b = none) ∨ (∃ k m, k < s.l.length ∧ findO s b = some (s.l.getD k ck0) ∧ findO (expT s now) b = some ((expT s now).l.getD k ck0) ∧ (expT s now).l.getD k ck0 = (expC s now (s.l.getD k ck0) m).1 ∧ s.next ≤ m) := by
  have hbags := expG_bags s now s.l s.next
  cases h : findO s b with
  | none => exact .inl ⟨rfl, find_none_bags hbags h⟩
  | some x =>
    obtain ⟨k, hk, e, hb⟩ := find_some h
    subst e
    obtain ⟨m, m1, m2, m3, m4⟩ := expG_at s now s.l s.next k hk
    refine .inr ⟨k, m, hk, rfl, ?_, m3, m1⟩
    have hk' : k < (expT s now).l.length := by show k < (expG s now s.l s.next).1.length; rw [expG_len]; exact hk
    refine find_at (asc_map hv.asc hbags) hk' ?_
    show ((expG s now s.l s.next).1.getD k ck0).bag = b
    rw [m3, expC_bag]
    exact hb
theorem expC_st {s : Scr} {now : Int} {x : Ck} {m : Int} : (x.st ≠ 1 → (expC s now x m).1 = x) ∧ ((expC s now x m).1.st = 2 → x.st = 2) ∧ ((expC s now x m).1.st = 1 → (expC s now x m).1 = x ∧ now ≤ dlF s x ∨ (expC s now x m).1.im = m) := by
  unfold expC failF
  split
  · rename_i h
    refine ⟨fun h1 => absurd h.1 h1, fun h2 => ?_, fun h3 => ?_⟩
    · split at h2
      · cases h2
      · exact h2
    · split at h3
      · cases h3
      · rename_i h4
        rw [if_neg h4]
        exact .inr rfl
  · rename_i h
    exact ⟨fun _ => rfl, fun h => h, fun h3 => .inl ⟨rfl, by have h3' : x.st = 1 := h3; omega⟩⟩
theorem stepB_exp {image : Int} {clear : Bool} {nw : Int} {s : Scr} {now : Int} (hv : ValS s) (he : expE s now = 0) (b : Int) : StepB image clear nw s (expS s now) b := by
  have hS : expS s now = expT s now := by unfold expS; rw [if_pos he]
  rw [hS]
  rcases exp_find (now := now) hv b with ⟨e1, e2⟩ | ⟨k, m, hk, e1, e2, e3, _⟩
  · exact ⟨(fun h => by rw [findB_none e1] at h; cases h), (fun h => by rw [findB_none e2] at h; cases h)⟩
  · obtain ⟨f1, f2⟩ := findB_some e1
    obtain ⟨f3, f4⟩ := findB_some e2
    obtain ⟨c1, c2, -⟩ := expC_st (s := s) (now := now) (x := s.l.getD k ck0) (m := m)
    rw [← e3] at c1 c2
    refine ⟨fun _ => ⟨f3, fun h => by rw [f4, f2]; rw [f2] at h; exact c1 h⟩, fun _ h2 h3 => ?_⟩
    rw [f4] at h2
    have := c2 h2
    rw [f2, f1] at h3
    rcases h3 with h3 | h3
    · cases h3
    · omega
theorem stepB_ver {image : Int} {clear : Bool} {s : Scr} {now : Int} (hv : ValS s) (he : verE s image clear now = 0) (b : Int) : StepB image clear now s (verS s image clear now) b := by
  obtain ⟨h1, h2, h3⟩ := verE_zero he
  have hvT := expT_valid hv h1
  have hS : verS s image clear now = { expT s now with next := (vNew s clear now ((expT s now).l.getD (vIdx s image now) ck0)).2, l := (expT s now).l.set (vIdx s image now) (vNew s clear now ((expT s now).l.getD (vIdx s image now) ck0)).1 } := by unfold verS; rw [if_pos he]
  have hvV := verS_valid hv he
  have hhit : vHit s image ((expT s now).l.getD (vIdx s image now) ck0) = true := by
    have := List.findIdx_getElem (p := vHit s image) (xs := (expT s now).l) (w := h2)
    rw [List.getD_eq_getElem?_getD, List.getElem?_eq_getElem h2]
    exact this
  have hlen : (verS s image clear now).l.length = (expT s now).l.length := by rw [hS]; exact List.length_set ..
  have hbag : (vNew s clear now ((expT s now).l.getD (vIdx s image now) ck0)).1.bag = ((expT s now).l.getD (vIdx s image now) ck0).bag := by
    unfold vNew; split
    · rfl
    · exact failF_bag _ _ _
  have hat : ∀ k, k < (expT s now).l.length → (verS s image clear now).l.getD k ck0 = if vIdx s image now = k then (vNew s clear now ((expT s now).l.getD k ck0)).1 else (expT s now).l.getD k ck0 := fun k hk => by
    rw [hS]
    show ((expT s now).l.set (vIdx s image now) _).getD k ck0 = _
    rw [List.getD_eq_getElem?_getD, List.getElem?_set]
    split
    · rename_i e
      subst e
      first | rfl | (rw [if_pos hk]; rfl)
    · rw [List.getD_eq_getElem?_getD]
  have hbags : (verS s image clear now).l.map Ck.bag = s.l.map Ck.bag := by
    rw [← expG_bags s now s.l s.next]
    refine List.ext_getElem (by rw [List.length_map, List.length_map, hlen]; rfl) fun i hi1 hi2 => ?_
    rw [List.getElem_map, List.getElem_map]
    have hi : i < (expT s now).l.length := by rw [List.length_map] at hi2; exact hi2
    have := hat i hi
    rw [List.getD_eq_getElem?_getD, List.getElem?_eq_getElem (by rw [hlen]; exact hi)] at this
    simp only [Option.getD_some] at this
    rw [this]
    split
    · rename_i e
      subst e
      rw [hbag, List.getD_eq_getElem?_getD, List.getElem?_eq_getElem hi]; rfl
    · rw [List.getD_eq_getElem?_getD, List.getElem?_eq_getElem hi]; rfl
  rcases exp_find (now := now) hv b with ⟨e1, e2⟩ | ⟨k, m, hk, e1, e2, e3, em⟩
  · have e4 : findO (verS s image clear now) b = none := find_none_bags hbags e1
    exact ⟨(fun h => by rw [findB_none e1] at h; cases h), (fun h => by rw [findB_none e4] at h; cases h)⟩
  · obtain ⟨f1, f2⟩ := findB_some e1
    have hkT : k < (expT s now).l.length := by show k < (expG s now s.l s.next).1.length; rw [expG_len]; exact hk
    have hkb : (s.l.getD k ck0).bag = b := by
      obtain ⟨k', _, e', hb'⟩ := find_some e1
      exact hb'
    have e5 : findO (verS s image clear now) b = some ((verS s image clear now).l.getD k ck0) := by
      refine find_at hvV.asc (by rw [hlen]; exact hkT) ?_
      rw [hat k hkT]
      have hx : ((expT s now).l.getD k ck0).bag = b := by rw [e3, expC_bag]; exact hkb
      split
      · rename_i e; subst e; rw [hbag]; exact hx
      · exact hx
    obtain ⟨f5, f6⟩ := findB_some e5
    obtain ⟨c1, c2, c3⟩ := expC_st (s := s) (now := now) (x := s.l.getD k ck0) (m := m)
    rw [← e3] at c1 c2 c3
    rw [hat k hkT] at f6
    by_cases hi : vIdx s image now = k
    · rw [if_pos hi] at f6
      rw [hi] at hhit
      simp only [vHit, Bool.and_eq_true, decide_eq_true_eq] at hhit
      obtain ⟨g1, g2, g3⟩ := hhit
      have hx : (expT s now).l.getD k ck0 = s.l.getD k ck0 ∧ now ≤ dlF s (s.l.getD k ck0) := by
        rcases c3 g1 with h | h
        · exact h
        · omega
      refine ⟨fun _ => ⟨f5, fun h => ?_⟩, fun _ h2 _ => ?_⟩
      · rw [f2, ← hx.1] at h
        exact absurd g1 h
      · rw [f6] at h2 ⊢
        rw [f2]
        have hcl : clear = true := by
          cases clear with
          | true => rfl
          | false =>
            exfalso
            unfold vNew failF at h2
            rw [if_neg (by decide)] at h2
            split at h2
            · cases h2
            · have : ((expT s now).l.getD k ck0).st = 2 := h2
              omega
        refine ⟨f1, hcl, by rw [← hx.1]; exact g2, ?_, ?_⟩
        · rw [hcl]; exact g2
        · have := hx.2
          unfold dlF at this
          rw [hS]
          exact this
    · rw [if_neg hi] at f6
      refine ⟨fun _ => ⟨f5, fun h => by rw [f6, f2]; rw [f2] at h; exact c1 h⟩, fun _ h2 h3 => ?_⟩
      rw [f6] at h2
      have := c2 h2
      rw [f2, f1] at h3
      rcases h3 with h3 | h3
      · cases h3
      · omega

/-- The images: no two checks have the same one. -/
def sumLv (l : List Ck) : Int := (l.map Ck.lv).sum
theorem expC_way (s : Scr) (now : Int) (x : Ck) (n : Int) :
    ((expC s now x n).1.im = x.im ∧ (expC s now x n).1.bag = x.bag ∧ (expC s now x n).1.lv = x.lv ∧ (expC s now x n).2 = n) ∨ ((expC s now x n).1.im = n ∧ (expC s now x n).1.lv = x.lv + 1 ∧ (expC s now x n).2 = n + 1) := by
  unfold expC failF
  split
  · split
    · exact .inl ⟨rfl, rfl, rfl, rfl⟩
    · exact .inr ⟨rfl, rfl, rfl⟩
  · exact .inl ⟨rfl, rfl, rfl, rfl⟩
theorem expG_ims (s : Scr) (now : Int) : ∀ (l : List Ck) (n : Int), (∀ x ∈ l, x.im < n) → (l.map Ck.im).Nodup →
    ((expG s now l n).1.map Ck.im).Nodup ∧ (∀ y ∈ (expG s now l n).1, y.im < (expG s now l n).2 ∧ ((∃ x ∈ l, x.im = y.im ∧ x.bag = y.bag ∧ x.lv = y.lv) ∨ n ≤ y.im)) ∧ (expG s now l n).2 = n + sumLv (expG s now l n).1 - sumLv l
  | [], n, _, _ => ⟨List.nodup_nil, (fun y hy => by cases hy), by show n = n + 0 - 0; omega⟩
  | x :: l, n, hl, hn => by
    rw [List.map_cons, List.nodup_cons] at hn
    have hx := hl x (List.mem_cons_self ..)
    have h1 := expC_next s now x n
    have hw := expC_way s now x n
    obtain ⟨i1, i2, i3⟩ := expG_ims s now l (expC s now x n).2 (fun z hz => by have := hl z (List.mem_cons_of_mem _ hz); omega) hn.2
    have h2 := (expG_next s now l (expC s now x n).2).1
    have eG : expG s now (x :: l) n = ((expC s now x n).1 :: (expG s now l (expC s now x n).2).1, (expG s now l (expC s now x n).2).2) := rfl
    rw [eG]
    refine ⟨?_, fun y hy => ?_, ?_⟩
    · show ((expC s now x n).1 :: (expG s now l (expC s now x n).2).1).map Ck.im |>.Nodup
      rw [List.map_cons, List.nodup_cons]
      refine ⟨fun hm => ?_, i1⟩
      obtain ⟨z, hz, e⟩ := List.mem_map.1 hm
      obtain ⟨_, h | h⟩ := i2 z hz
      · obtain ⟨x', hx', e1, -, -⟩ := h
        have h3 := hl x' (List.mem_cons_of_mem _ hx')
        rcases hw with ⟨w1, _, _, w4⟩ | ⟨w1, _, w4⟩
        · exact hn.1 (List.mem_map.2 ⟨x', hx', by omega⟩)
        · omega
      · rcases hw with ⟨w1, _, _, w4⟩ | ⟨w1, _, w4⟩ <;> omega
    · rcases List.mem_cons.1 hy with rfl | hy
      · rcases hw with ⟨w1, w2, w3, w4⟩ | ⟨w1, _, w4⟩
        · exact ⟨by show (expC s now x n).1.im < (expG s now l (expC s now x n).2).2; omega, .inl ⟨x, List.mem_cons_self .., w1.symm, w2.symm, w3.symm⟩⟩
        · exact ⟨by show (expC s now x n).1.im < (expG s now l (expC s now x n).2).2; omega, .inr (by omega)⟩
      · obtain ⟨k1, k2⟩ := i2 y hy
        refine ⟨k1, ?_⟩
        rcases k2 with ⟨x', hx', e⟩ | k2
        · exact .inl ⟨x', List.mem_cons_of_mem _ hx', e⟩
        · exact .inr (by omega)
    · show (expG s now l (expC s now x n).2).2 = n + ((expC s now x n).1.lv + sumLv (expG s now l (expC s now x n).2).1) - (x.lv + sumLv l)
      rw [i3]
      rcases hw with ⟨w1, w2, w3, w4⟩ | ⟨w1, w3, w4⟩ <;> omega
theorem insC_sum (x : Ck) : ∀ l, sumLv (insC x l) = x.lv + sumLv l
  | [] => rfl
  | z :: l => by
    unfold insC
    split
    · show z.lv + sumLv (insC x l) = x.lv + (z.lv + sumLv l)
      rw [insC_sum x l]; omega
    · rfl
theorem insC_ims {x : Ck} : ∀ {l : List Ck}, (∀ y ∈ l, y.im ≠ x.im) → (l.map Ck.im).Nodup → ((insC x l).map Ck.im).Nodup
  | [], _, _ => by unfold insC; simp
  | z :: l, h, hn => by
    rw [List.map_cons, List.nodup_cons] at hn
    unfold insC
    split
    · rw [List.map_cons, List.nodup_cons]
      refine ⟨fun hm => ?_, insC_ims (fun y hy => h y (List.mem_cons_of_mem _ hy)) hn.2⟩
      obtain ⟨y, hy, e⟩ := List.mem_map.1 hm
      rcases insC_mem.1 hy with rfl | hy
      · exact h z (List.mem_cons_self ..) e.symm
      · exact hn.1 (List.mem_map.2 ⟨y, hy, e⟩)
    · rw [List.map_cons, List.nodup_cons]
      refine ⟨fun hm => ?_, by rw [List.map_cons, List.nodup_cons]; exact hn⟩
      obtain ⟨y, hy, e⟩ := List.mem_map.1 hm
      exact h y hy e
theorem set_sum (y : Ck) : ∀ (l : List Ck) (i : Nat), i < l.length → sumLv (l.set i y) = sumLv l - (l.getD i ck0).lv + y.lv
  | x :: l, 0, _ => by show y.lv + sumLv l = x.lv + sumLv l - x.lv + y.lv; omega
  | x :: l, i + 1, h => by
    show x.lv + sumLv (l.set i y) = x.lv + sumLv l - (l.getD i ck0).lv + y.lv
    rw [set_sum y l i (by simpa using h)]; omega
theorem set_ims {y : Ck} : ∀ {l : List Ck} {i : Nat}, i < l.length → (l.map Ck.im).Nodup → (y.im = (l.getD i ck0).im ∨ ∀ x ∈ l, x.im < y.im) → ((l.set i y).map Ck.im).Nodup
  | x :: l, 0, _, hn, hy => by
    rw [List.map_cons, List.nodup_cons] at hn
    show ((y :: l).map Ck.im).Nodup
    rw [List.map_cons, List.nodup_cons]
    refine ⟨fun hm => ?_, hn.2⟩
    obtain ⟨z, hz, e⟩ := List.mem_map.1 hm
    rcases hy with hy | hy
    · exact hn.1 (List.mem_map.2 ⟨z, hz, e.trans hy⟩)
    · have := hy z (List.mem_cons_of_mem _ hz); omega
  | x :: l, i + 1, h, hn, hy => by
    have hi : i < l.length := by simpa using h
    rw [List.map_cons, List.nodup_cons] at hn
    show ((x :: l.set i y).map Ck.im).Nodup
    rw [List.map_cons, List.nodup_cons]
    refine ⟨fun hm => ?_, set_ims hi hn.2 ?_⟩
    · obtain ⟨z, hz, e⟩ := List.mem_map.1 hm
      rcases List.mem_or_eq_of_mem_set hz with hz | rfl
      · exact hn.1 (List.mem_map.2 ⟨z, hz, e⟩)
      · rcases hy with hy | hy
        · exact hn.1 (List.mem_map.2 ⟨l.getD i ck0, getD_mem hi, by have hy' : z.im = (l.getD i ck0).im := hy; omega⟩)
        · have := hy x (List.mem_cons_self ..); omega
    · rcases hy with hy | hy
      · exact .inl hy
      · exact .inr fun z hz => hy z (List.mem_cons_of_mem _ hz)

/-- The images that were seen, and whose they were. -/
structure ImI (s : Scr) (own : Nat → Int × Int) : Prop where
  val : ValS s
  ims : (s.l.map Ck.im).Nodup
  sum : s.next = 1 + sumLv s.l
  six : ∀ x ∈ s.l, x.bag ≤ 6
  old : ∀ i, own i ≠ (0, 0) → (i : Int) < s.next ∧ ∀ x ∈ s.l, x.im = (i : Int) → own i = (x.bag, x.lv)
theorem asc_fewer {hi : Int} : ∀ {l : List Ck} {lo : Int}, ascC l → (∀ x ∈ l, lo < x.bag ∧ x.bag ≤ hi) → lo ≤ hi → (l.length : Int) ≤ hi - lo
  | [], lo, _, _, h => by simp; omega
  | x :: l, lo, ha, hb, _ => by
    obtain ⟨h1, h2⟩ := List.pairwise_cons.1 ha
    have hx := hb x (List.mem_cons_self ..)
    have := asc_fewer (l := l) (lo := x.bag) h2 (fun y hy => ⟨h1 y hy, (hb y (List.mem_cons_of_mem _ hy)).2⟩) hx.2
    rw [List.length_cons]
    omega
theorem sum_four : ∀ {l : List Ck}, (∀ x ∈ l, x.lv ≤ 4) → sumLv l ≤ 4 * (l.length : Int)
  | [], _ => by show (0 : Int) ≤ 4 * 0; omega
  | x :: l, h => by
    have h1 := h x (List.mem_cons_self ..)
    have h2 := sum_four (l := l) fun y hy => h y (List.mem_cons_of_mem _ hy)
    show x.lv + sumLv l ≤ 4 * ((x :: l).length : Int)
    rw [List.length_cons]
    omega
section
variable {s : Scr} {own : Nat → Int × Int}
theorem ImI.small (h : ImI s own) : s.next ≤ 25 := by
  have h1 := asc_fewer (lo := 0) (hi := 6) h.val.asc (fun x hx => ⟨by have := (h.val.ok x hx).1; omega, h.six x hx⟩) (by omega)
  have h2 := sum_four fun x hx => ((h.val.ok x hx).2.1).2
  have := h.sum
  omega
/-- A step: checks are kept, or have images that are new. -/
theorem ImI.step {s' : Scr} (h : ImI s own) (hv : ValS s') (hi : (s'.l.map Ck.im).Nodup) (hs : s'.next = 1 + sumLv s'.l) (h6 : ∀ x ∈ s'.l, x.bag ≤ 6) (hn : s.next ≤ s'.next)
    (hk : ∀ y ∈ s'.l, (∃ x ∈ s.l, x.im = y.im ∧ x.bag = y.bag ∧ x.lv = y.lv) ∨ s.next ≤ y.im) : ImI s' own := by
  refine ⟨hv, hi, hs, h6, fun i hne => ?_⟩
  obtain ⟨o1, o2⟩ := h.old i hne
  refine ⟨by omega, fun y hy e => ?_⟩
  rcases hk y hy with ⟨x, hx, e1, e2, e3⟩ | hk
  · rw [o2 x hx (by omega), e2, e3]
  · omega
theorem ImI.start {bag now : Int} (h : ImI s own) (he : startE s bag now = 0) (hb : bag ≤ 6) : ImI (startS s bag now) own := by
  have hv := startS_valid h.val he
  have hS : startS s bag now = { s with next := s.next + 1, l := insC ⟨bag, 1, now, s.next, 1⟩ s.l } := by unfold startS; rw [if_pos he]
  rw [hS] at hv ⊢
  refine h.step hv (insC_ims (fun y hy => by have := ((h.val.ok y hy).2.2.2.1).2; show y.im ≠ s.next; omega) h.ims) ?_ (fun x hx => ?_) (by show s.next ≤ s.next + 1; omega) (fun y hy => ?_)
  · show s.next + 1 = 1 + sumLv (insC ⟨bag, 1, now, s.next, 1⟩ s.l)
    rw [insC_sum]
    have := h.sum
    show s.next + 1 = 1 + (1 + sumLv s.l)
    omega
  · rcases insC_mem.1 hx with rfl | hx
    · exact hb
    · exact h.six x hx
  · rcases insC_mem.1 hy with rfl | hy
    · exact .inr (Int.le_refl _)
    · exact .inl ⟨y, hy, rfl, rfl, rfl⟩
theorem ImI.expired {now : Int} (h : ImI s own) (he : expE s now = 0) : ImI (expT s now) own := by
  obtain ⟨i1, i2, i3⟩ := expG_ims s now s.l s.next (fun x hx => ((h.val.ok x hx).2.2.2.1).2) h.ims
  refine h.step (expT_valid h.val he) i1 ?_ (fun x hx => ?_) (expG_next s now s.l s.next).1 (fun y hy => (i2 y hy).2)
  · show (expG s now s.l s.next).2 = 1 + sumLv (expG s now s.l s.next).1
    have := h.sum
    omega
  · have : x.bag ∈ (expG s now s.l s.next).1.map Ck.bag := List.mem_map.2 ⟨x, hx, rfl⟩
    rw [expG_bags] at this
    obtain ⟨y, hy, e⟩ := List.mem_map.1 this
    rw [← e]; exact h.six y hy
theorem ImI.exp {now : Int} (h : ImI s own) (he : expE s now = 0) : ImI (expS s now) own := by unfold expS; rw [if_pos he]; exact h.expired he
theorem ImI.ver {image : Int} {clear : Bool} {now : Int} (h : ImI s own) (he : verE s image clear now = 0) : ImI (verS s image clear now) own := by
  obtain ⟨h1, h2, h3⟩ := verE_zero he
  have hT := h.expired h1
  have hv := verS_valid h.val he
  have hS : verS s image clear now = { expT s now with next := (vNew s clear now ((expT s now).l.getD (vIdx s image now) ck0)).2, l := (expT s now).l.set (vIdx s image now) (vNew s clear now ((expT s now).l.getD (vIdx s image now) ck0)).1 } := by unfold verS; rw [if_pos he]
  have hw : ((vNew s clear now ((expT s now).l.getD (vIdx s image now) ck0)).1.im = ((expT s now).l.getD (vIdx s image now) ck0).im ∧ (vNew s clear now ((expT s now).l.getD (vIdx s image now) ck0)).1.lv = ((expT s now).l.getD (vIdx s image now) ck0).lv ∧ (vNew s clear now ((expT s now).l.getD (vIdx s image now) ck0)).2 = (expT s now).next) ∨
      ((vNew s clear now ((expT s now).l.getD (vIdx s image now) ck0)).1.im = (expT s now).next ∧ (vNew s clear now ((expT s now).l.getD (vIdx s image now) ck0)).1.lv = ((expT s now).l.getD (vIdx s image now) ck0).lv + 1 ∧ (vNew s clear now ((expT s now).l.getD (vIdx s image now) ck0)).2 = (expT s now).next + 1) := by
    unfold vNew failF
    split
    · exact .inl ⟨rfl, rfl, rfl⟩
    · split
      · exact .inl ⟨rfl, rfl, rfl⟩
      · exact .inr ⟨rfl, rfl, rfl⟩
  have hb : (vNew s clear now ((expT s now).l.getD (vIdx s image now) ck0)).1.bag = ((expT s now).l.getD (vIdx s image now) ck0).bag := by
    unfold vNew; split
    · rfl
    · exact failF_bag _ _ _
  have hm := getD_mem h2
  rw [hS] at hv ⊢
  generalize (vNew s clear now ((expT s now).l.getD (vIdx s image now) ck0)).1 = y at *
  generalize (vNew s clear now ((expT s now).l.getD (vIdx s image now) ck0)).2 = n at *
  refine hT.step hv (set_ims h2 hT.ims ?_) ?_ (fun x hx => ?_) ?_ (fun z hz => ?_)
  · rcases hw with ⟨w1, _⟩ | ⟨w1, _⟩
    · exact .inl w1
    · exact .inr fun x hx => by have := ((hT.val.ok x hx).2.2.2.1).2; omega
  · show n = 1 + sumLv ((expT s now).l.set (vIdx s image now) y)
    rw [set_sum y _ _ h2]
    have := hT.sum
    rcases hw with ⟨_, w2, w3⟩ | ⟨_, w2, w3⟩ <;> omega
  · rcases List.mem_or_eq_of_mem_set hx with hx | rfl
    · exact hT.six x hx
    · rw [hb]; exact hT.six _ hm
  · show (expT s now).next ≤ n
    rcases hw with ⟨_, _, w3⟩ | ⟨_, _, w3⟩ <;> omega
  · rcases List.mem_or_eq_of_mem_set hz with hz | rfl
    · exact .inl ⟨z, hz, rfl, rfl, rfl⟩
    · rcases hw with ⟨w1, w2, _⟩ | ⟨w1, _, _⟩
      · exact .inl ⟨_, hm, w1.symm, hb.symm, w2.symm⟩
      · exact .inr (by omega)
/-- What the law looks at, and what it writes down. -/
theorem ImI.look (h : ImI s own) {x : Ck} (hx : x ∈ s.l) : (1 ≤ x.im ∧ x.im < s.next ∧ x.im < 80) ∧ (own x.im.toNat = (0, 0) ∨ own x.im.toNat = (x.bag, x.lv)) := by
  have h1 := (h.val.ok x hx).2.2.2.1
  have h2 := h.small
  refine ⟨by omega, ?_⟩
  by_cases ho : own x.im.toNat = (0, 0)
  · exact .inl ho
  · exact .inr ((h.old _ ho).2 x hx (by omega))
theorem ImI.put (h : ImI s own) {x : Ck} (hx : x ∈ s.l) : ImI s (fun i => if i = x.im.toNat then (x.bag, x.lv) else own i) := by
  have h1 := (h.val.ok x hx).2.2.2.1
  refine ⟨h.val, h.ims, h.sum, h.six, fun i hne => ?_⟩
  by_cases hi : i = x.im.toNat
  · refine ⟨by omega, fun y hy e => ?_⟩
    have e2 : y = x := by
      obtain ⟨a, ha, ea⟩ := mem_getD hy
      obtain ⟨c, hc, ec⟩ := mem_getD hx
      have hab : a = c := by
        have hn := List.pairwise_iff_getElem.1 (show List.Pairwise (· ≠ ·) (s.l.map Ck.im) from h.ims)
        rw [at_k ha] at ea
        rw [at_k hc] at ec
        rcases Nat.lt_trichotomy a c with hlt | heq | hlt
        · have := hn a c (by rw [List.length_map]; exact ha) (by rw [List.length_map]; exact hc) hlt
          rw [List.getElem_map, List.getElem_map, ea, ec] at this
          omega
        · exact heq
        · have := hn c a (by rw [List.length_map]; exact hc) (by rw [List.length_map]; exact ha) hlt
          rw [List.getElem_map, List.getElem_map, ea, ec] at this
          omega
      rw [at_k ha] at ea
      rw [at_k hc] at ec
      subst hab
      exact ea.symm.trans ec
    show (if i = x.im.toNat then (x.bag, x.lv) else own i) = (y.bag, y.lv)
    rw [if_pos hi, e2]
  · have hne' : own i ≠ (0, 0) := by
      have h3 : (if i = x.im.toNat then (x.bag, x.lv) else own i) ≠ (0, 0) := hne
      rwa [if_neg hi] at h3
    obtain ⟨o1, o2⟩ := h.old i hne'
    refine ⟨o1, fun y hy e => ?_⟩
    show (if i = x.im.toNat then (x.bag, x.lv) else own i) = (y.bag, y.lv)
    rw [if_neg hi]
    exact o2 y hy e
end
end Go.Proofs.Ytdhkhkcijffbiaa
