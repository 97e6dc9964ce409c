/-
  Screening (layer 15): the program's Alarms: the alarms of the pending checks, sorted.
-/
import Derived.Test.YtdhkhkcijffbiaaScrY
namespace Go.Proofs.Ytdhkhkcijffbiaa
open Go.RowKit

instance : Inhabited Al := ⟨al0⟩
theorem alC_lt (x y : Al) : ltOf alC x y = alB x y := by
  unfold ltOf alC orF alB Lib.compareInt
  by_cases h1 : x.dl < y.dl
  · rw [if_pos h1, if_neg (by omega), decide_eq_true h1]; rfl
  · rw [if_neg h1, decide_eq_false h1]
    by_cases h2 : y.dl < x.dl
    · rw [if_pos h2, if_neg (by omega), decide_eq_false (show ¬ x.dl = y.dl by omega)]; rfl
    · rw [if_neg h2, if_pos rfl, decide_eq_true (show x.dl = y.dl by omega)]
      by_cases h3 : x.im < y.im
      · rw [if_pos h3, decide_eq_true h3]; rfl
      · rw [if_neg h3, decide_eq_false h3]
        by_cases h4 : y.im < x.im
        · rw [if_pos h4]; rfl
        · rw [if_neg h4]; rfl
theorem alB_iff {x y : Al} : alB x y = true ↔ x.dl < y.dl ∨ (x.dl = y.dl ∧ x.im < y.im) := by
  unfold alB; rw [Bool.or_eq_true, Bool.and_eq_true, decide_eq_true_eq, decide_eq_true_eq, decide_eq_true_eq]
theorem alB_no {x y : Al} : alB x y = false ↔ ¬ (x.dl < y.dl ∨ (x.dl = y.dl ∧ x.im < y.im)) := by
  rw [← alB_iff, Bool.not_eq_true]
theorem alC_swo : Sort.SWO (ltOf alC) where
  irrefl x := by rw [alC_lt, alB_no]; omega
  trans x y z h1 h2 := by rw [alC_lt, alB_iff] at *; omega
  ntrans x y z h1 h2 := by rw [alC_lt, alB_no] at *; omega
/-- The alarms of the first checks, in the checks' order. -/
def pend (s : Scr) (k : Nat) : List Al := ((s.l.take k).filter fun x => decide (x.st = 1)).map (alOf s)
theorem pend_step {s : Scr} {k : Nat} {x : Ck} (hk : k < s.l.length) (hx : s.l.getD k ck0 = x) : pend s (k + 1) = if x.st = 1 then pend s k ++ [alOf s x] else pend s k := by
  unfold pend
  rw [List.take_succ_eq_append_getElem hk, List.filter_append, List.map_append, ← at_k hk (d := ck0), hx]
  split
  · rename_i h; rw [List.filter_cons_of_pos (by simpa using h)]; rfl
  · rename_i h; rw [List.filter_cons_of_neg (by simpa using h)]; simp
theorem pend_len (s : Scr) (k : Nat) : (pend s k).length ≤ s.l.length := by
  unfold pend
  rw [List.length_map]
  exact Nat.le_trans (List.length_filter_le _ _) (List.length_take_le' _ _)
theorem insA_perm (x : Al) : ∀ (l : List Al), (insA x l).Perm (x :: l)
  | [] => List.Perm.refl _
  | y :: l => by
    unfold insA
    split
    · exact ((insA_perm x l).cons y).trans (List.Perm.swap x y l)
    · exact List.Perm.refl _
theorem insA_sorted (x : Al) : ∀ {l : List Al}, l.Pairwise (fun a b => alB b a = false) → (insA x l).Pairwise (fun a b => alB b a = false)
  | [], _ => List.pairwise_singleton _ _
  | y :: l, h => by
    obtain ⟨h1, h2⟩ := List.pairwise_cons.1 h
    unfold insA
    split
    · rename_i hy
      refine List.pairwise_cons.2 ⟨fun z hz => ?_, insA_sorted x h2⟩
      rcases List.mem_cons.1 ((insA_perm x l).mem_iff.1 hz) with rfl | hz
      · rw [alB_iff] at hy; rw [alB_no]; omega
      · exact h1 z hz
    · rename_i hy
      rw [Bool.not_eq_true] at hy
      refine List.pairwise_cons.2 ⟨fun z hz => ?_, h⟩
      rcases List.mem_cons.1 hz with rfl | hz
      · exact hy
      · have := h1 z hz
        rw [alB_no] at *
        omega
theorem alStep_fold (s : Scr) : ∀ (l : List Ck) (out : List Al), out.Pairwise (fun a b => alB b a = false) → (l.foldl (alStep s) out).Pairwise (fun a b => alB b a = false) ∧ (l.foldl (alStep s) out).Perm (out ++ (l.filter fun x => decide (x.st = 1)).map (alOf s))
  | [], out, h => ⟨h, by simp⟩
  | x :: l, out, h => by
    by_cases hp : x.st = 1
    · have e : alStep s out x = insA (alOf s x) out := by unfold alStep; rw [if_pos hp]
      obtain ⟨h1, h2⟩ := alStep_fold s l (insA (alOf s x) out) (insA_sorted _ h)
      rw [List.foldl_cons, e]
      refine ⟨h1, h2.trans ?_⟩
      rw [List.filter_cons_of_pos (by simpa using hp), List.map_cons]
      exact ((insA_perm _ _).append_right _).trans (List.perm_middle.symm)
    · have e : alStep s out x = out := by unfold alStep; rw [if_neg hp]
      rw [List.foldl_cons, e, List.filter_cons_of_neg (by simpa using hp)]
      exact alStep_fold s l out h
/-- Whatever permutes the alarms and is sorted is the document's list. -/
theorem al_sorted {s : Scr} (hd : ImD s) {m : List Al} (hp : m.Perm (pend s s.l.length)) (hs : m.Pairwise fun a b => alB b a = false) : m = alL s := by
  obtain ⟨h1, h2⟩ := alStep_fold s s.l [] List.Pairwise.nil
  rw [List.nil_append] at h2
  have e : pend s s.l.length = (s.l.filter fun x => decide (x.st = 1)).map (alOf s) := by unfold pend; rw [List.take_length]
  rw [e] at hp
  refine List.Perm.eq_of_pairwise (le := fun a b => alB b a = false) (fun a b ha hb hab hba => ?_) hs h1 (hp.trans h2.symm)
  obtain ⟨x, hx, rfl⟩ := List.mem_map.1 (hp.mem_iff.1 ha)
  obtain ⟨y, hy, rfl⟩ := List.mem_map.1 (h2.mem_iff.1 hb)
  rw [List.mem_filter, decide_eq_true_eq] at hx hy
  rw [alB_no] at hab hba
  have : x.im = y.im := by
    have h3 : (alOf s x).im = x.im := rfl
    have h4 : (alOf s y).im = y.im := rfl
    omega
  rw [hd x hx.1 y hy.1 hx.2 hy.2 this]

theorem Al.cs_len (x : Al) : x.cs.length = 4 := rfl
theorem al_one {l : List Al} : ∀ u ∈ l.flatMap Al.cs, u.oneCell' = true := fun u hu => by
  obtain ⟨x, _, hx⟩ := List.mem_flatMap.1 hu
  simp only [Al.cs, List.mem_cons, List.not_mem_nil, or_false] at hx
  rcases hx with rfl | rfl | rfl | rfl <;> rfl
theorem linfo_al : (Try.prog.info? 72).map (fun i => (i.zero, i.size, i.bytes)) = some (some (.agg #[.int .i64 0, .int .i64 0, .int .i64 0, .int .i64 0]), 4, 32) := by kernel_rfl
/-- A world of the sort's: as the caller's but for the row and what lies behind. -/
theorem below_sort {α : Type} [Inhabited α] (enc : α → List Value) (k : Nat) {n : Nat} {a w : World} (h : Below n a w) (blk off m : Nat) (d : Array α) (os : Array Obj) (hb : n ≤ blk) (hn : n ≤ w.heap.size) : Below n a (sortWorldK enc k w blk off m d os) := by
  have hs := h.size
  refine ⟨h.os, h.tape, h.output, ?_, fun q hq => ?_⟩
  · exact Nat.le_trans hs (size_sortWorldK_c enc k w blk off m d os)
  · rw [← h.block q hq]
    unfold sortWorldK Sort.putRowK Sort.putRow Sort.mapBlock Sort.ahead Sort.grow
    simp only []
    rw [Array.getElem?_append_left (by simp; omega), Array.getElem?_modify, if_neg (by omega)]
theorem alsIn_sort {w : World} {blk m : Nat} {d0 d : Array Al} {os : Array Obj} (hblk : blk < w.heap.size) (h0 : Sort.HoldsK Al.cs 4 w blk 0 d0) (hs : d.size = d0.size) {b : Nat} (hb : b ≠ blk) : AlsIn b (sortWorldK Al.cs 4 w blk 0 m d os) (some ⟨blk, 0, none⟩) d.toList := fun hn => by
  have hH := holdsK_sortWorldK Al.cs 4 w blk 0 m d0 d os hblk h0 hs
  refine ⟨blk, 0, rfl, fun e => hb e.symm, fun j u hu => ?_⟩
  have hl := flatK_len Al.cs 4 Al.cs_len d.toList
  have hj : j < d.toList.length * 4 := by rw [← hl]; exact (List.getElem?_eq_some_iff.1 hu).1
  rw [Array.length_toList] at hj
  have hi : j / 4 < d.toList.length := by rw [Array.length_toList]; omega
  have hu' := flatK_at Al.cs 4 Al.cs_len d.toList (j / 4) hi (j % 4) (by omega)
  rw [show j / 4 * 4 + j % 4 = j by omega, hu] at hu'
  have hd : d.toList[j / 4] = d[j / 4]! := by rw [Array.getElem_toList, getElem!_pos]
  rw [hd] at hu'
  have hc := HoldsK.cells hH Al.cs_len (i := j / 4) (by rw [Array.length_toList] at hi; exact hi) (j % 4) u hu'.symm
  rw [Addr.add_lit] at hc
  rw [show 0 + j = 0 + j / 4 * 4 + j % 4 by omega]
  exact hc
theorem holds_row {w : World} {base n c g : Nat} {l : List Al} (h : w.ownsRow base 72 4 (.slice (some ⟨g, 0, none⟩) n c) n (l.flatMap Al.cs)) (hl : l.length = n) (hn : 0 < n) : Sort.HoldsK Al.cs 4 w g 0 l.toArray ∧ g < w.heap.size := by
  obtain ⟨g', cur, hA, hb, hg, _, _, hc⟩ := own_cells h hn
  injection hA with hA; injection hA with hA
  subst hA
  refine ⟨fun j hj => ?_, (Array.getElem?_eq_some_iff.1 hg).1⟩
  rw [Sort.size_flatK, List.size_toArray] at hj
  rw [Lib.cell_of_heap hg, Nat.zero_add]
  refine ⟨?_, Lib.frozen_of_heap hg j⟩
  rw [Sort.get_flatK Al.cs 4 l.toArray j (by rw [List.size_toArray]; exact hj)]
  refine hc _ _ ?_
  have hi : j / 4 < l.length := by omega
  have hf := flatK_at Al.cs 4 Al.cs_len l (j / 4) hi (j % 4) (by omega)
  rw [show j / 4 * 4 + j % 4 = j by omega] at hf
  rw [hf, show l.toArray[j / 4]! = l[j / 4] by rw [getElem!_pos _ _ (by rw [List.size_toArray]; exact hi), List.getElem_toArray]]
  have hk : j % 4 < (Al.cs l[j / 4]).length := by rw [Al.cs_len]; omega
  rw [List.getElem?_eq_getElem hk]
  show some _ = some ((Al.cs l[j / 4])[j % 4]!)
  rw [getElem!_pos (Al.cs l[j / 4]) (j % 4) hk]
/-- The sort's contract at a row of alarms. -/
theorem sort_any {s : Scr} (hd : ImD s) (hl40 : s.l.length ≤ 40) {w : World} {base c : Nat} {A : Option Addr} (h : w.ownsRow base 72 4 (.slice A (pend s s.l.length).length c) (pend s s.l.length).length ((pend s s.l.length).flatMap Al.cs)) :
    Calls Try.prog 43 #[.slice A (pend s s.l.length).length c, .func (.func 44) #[] #[]] w
      fun e w' => e = .returned (.tuple #[]) ∧ (alL s).length = (pend s s.l.length).length ∧ (∀ b, b < base → AlsIn b w' A (alL s)) ∧ Below base w w' := by
  by_cases h0 : 0 < (pend s s.l.length).length
  · obtain ⟨g, cur, hA, hb, hg, _, _, _⟩ := own_cells h h0
    subst hA
    obtain ⟨hH, hlt⟩ := holds_row h rfl h0
    have hpl := pend_len s s.l.length
    have eg : ∀ args w, (callFunc 44 args).run Try.prog w = .ok (.enter 44 args) w := enters_of Try.func44 (by kernel_rfl) rfl
    have hcon := Try.slices_SortFunc 4 Try.isAgg72 Try.sizeOf72 Al.cs Al.cs_len (fun x v hv => al_one (l := [x]) v (by simpa using hv)) alC alC_swo 44 #[] g 0 c (pend s s.l.length).toArray w eg (fun m os dk _ x y => al1_any x y _) hH hlt (by rw [List.size_toArray]; omega)
    rw [List.size_toArray] at hcon
    refine hcon.mono ?_
    rintro e w' ⟨rfl, d', m, os, ⟨hs, _, hp⟩, hso, rfl⟩
    have hs' : d'.size = (pend s s.l.length).length := by rw [hs, List.size_toArray]
    have hp' : d'.toList.Perm (pend s s.l.length) := by
      rw [Array.extract_eq_self_of_le (by omega), Array.extract_eq_self_of_le (by rw [List.size_toArray]; omega), List.toList_toArray] at hp
      exact hp
    have hsorted : d'.toList.Pairwise fun a b => alB b a = false := by
      rw [List.pairwise_iff_getElem]
      intro i j hi hj hij
      rw [Array.length_toList] at hi hj
      have := hso i j (Nat.zero_le _) hij (by omega)
      rw [alC_lt, getElem!_pos d' i hi, getElem!_pos d' j hj] at this
      rw [Array.getElem_toList, Array.getElem_toList]
      exact this
    have he := al_sorted hd hp' hsorted
    have hbase : base ≤ w.heap.size := by omega
    refine ⟨rfl, by rw [← he, Array.length_toList, hs'], fun b hb' => ?_, below_sort Al.cs 4 (Below.refl base w) g 0 m d' os hb hbase⟩
    rw [← he]
    exact alsIn_sort hlt hH (by rw [List.size_toArray]; exact hs') (by omega)
  · have hz : (pend s s.l.length).length = 0 := by omega
    rw [hz]
    refine (Try.slices_SortFunc_none (α := Al) A c (.func (.func 44) #[] #[]) w).mono ?_
    rintro e w' ⟨rfl, rfl⟩
    have hn : pend s s.l.length = [] := List.eq_nil_of_length_eq_zero hz
    have he : [] = alL s := al_sorted hd (by rw [hn]) List.Pairwise.nil
    rw [← he]
    exact ⟨rfl, rfl, fun _ _ => RowIn.nil, Below.refl _ _⟩
end Go.Proofs.Ytdhkhkcijffbiaa
