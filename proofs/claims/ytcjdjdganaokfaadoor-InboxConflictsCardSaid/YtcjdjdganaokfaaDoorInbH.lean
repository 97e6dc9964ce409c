/-
  hold and release at a sender in a row of senders.
-/
import Derived.Test.YtcjdjdganaokfaaDoorInbG
namespace Go.Proofs.YtcjdjdganaokfaaDoor
open Go.RowKit

def numM (t : Int) (m : Msg) : Int := Lib.compareInt m.num t
theorem lbF_map {α β : Type} (f : β → Int) (g : α → β) (l : List α) : lbF (fun x => f (g x)) l = lbF f (l.map g) := by
  unfold lbF
  rw [List.takeWhile_map, List.length_map]
  rfl
theorem numC_lb (t : Int) (l : List MsS) : lbF (numC t) l = lbF (numM t) (l.map (·.m)) := by
  show lbF (fun x : MsS => numM t x.m) l = _
  exact lbF_map (numM t) (fun x : MsS => x.m) l

theorem chg_cells {l : List SnS} {cur cur' : Array Value} {i : Nat} (hc : ∀ (j : Nat) (u : Value), (l.flatMap SnS.cs)[j]? = some u → cur[j]? = some u) (hi : i < l.length) (h : ∀ j, j ≠ i * 3 + 1 → j ≠ i * 3 + 2 → cur'[j]? = cur[j]?) {s1 : SnS} (hp : s1.port = (l.getD i sn0).port)
    (h1 : cur'[i * 3 + 1]? = some (.int .i64 s1.next)) (h2 : cur'[i * 3 + 2]? = some (.slice s1.A s1.held.length s1.c)) : ∀ (j : Nat) (u : Value), ((l.set i s1).flatMap SnS.cs)[j]? = some u → cur'[j]? = some u := fun (j : Nat) (u : Value) hu => by
  have hlen := flatK_len SnS.cs 3 SnS.cs_len (l.set i s1)
  have hj : j < (l.set i s1).length * 3 := by rw [← hlen]; exact (List.getElem?_eq_some_iff.1 hu).1
  have ha : j / 3 < (l.set i s1).length := by omega
  have ha' : j / 3 < l.length := by simpa using ha
  have e := flatK_at SnS.cs 3 SnS.cs_len (l.set i s1) (j / 3) ha (j % 3) (by omega)
  rw [show j / 3 * 3 + j % 3 = j by omega, hu] at e
  have e' := flatK_at SnS.cs 3 SnS.cs_len l (j / 3) ha' (j % 3) (by omega)
  rw [show j / 3 * 3 + j % 3 = j by omega] at e'
  by_cases hai : j / 3 = i
  · rw [at_k hi] at hp
    have es : (l.set i s1)[j / 3] = s1 := by simp [hai]
    rw [es] at e
    have hr : j % 3 = 0 ∨ j % 3 = 1 ∨ j % 3 = 2 := by omega
    rcases hr with hr | hr | hr
    · rw [h j (by omega) (by omega)]
      rw [hr] at e e'
      refine hc j u ?_
      rw [e', e]
      show some (Value.string (l[j / 3]).port) = some (Value.string s1.port)
      rw [hp]
      simp [hai]
    · rw [hr] at e
      rw [show j = i * 3 + 1 by omega, h1]
      exact e.symm
    · rw [hr] at e
      rw [show j = i * 3 + 2 by omega, h2]
      exact e.symm
  · rw [h j (by omega) (by omega)]
    refine hc j u ?_
    rw [e', e]
    have es : (l.set i s1)[j / 3] = l[j / 3] := by rw [List.getElem_set_ne (by omega)]
    rw [es]

/-- A row of senders in block G, of which sender i has become s1. -/
structure Half (base G i : Nat) (ss : List SnS) (s1 : SnS) (W : World) (cur : Array Value) : Prop where
  row : W.heap[G]? = some (.cells cur 93 (0, 0))
  cells : ∀ (j : Nat) (u : Value), ((ss.set i s1).flatMap SnS.cs)[j]? = some u → cur[j]? = some u
  others : ∀ j, j < ss.length → j ≠ i → MsgsOwn base W (ss.getD j sn0).A (ss.getD j sn0).c (ss.getD j sn0).held
  self : MsgsOwn base W s1.A s1.c s1.held
  lb : base ≤ G
  sz : base ≤ W.heap.size
theorem Half.below {base G i : Nat} {ss : List SnS} {s1 : SnS} {W W' : World} {cur : Array Value} (h : Half base G i ss s1 W cur) (hb : Below W.heap.size W W') : Half base G i ss s1 W' cur :=
  ⟨(hb.block _ (Array.getElem?_eq_some_iff.1 h.row).1).trans h.row, h.cells, fun j hj hne => (h.others j hj hne).below hb, h.self.below hb, h.lb, Nat.le_trans h.sz hb.size⟩
theorem cs_at (l : List SnS) (i : Nat) (hi : i < l.length) {cur : Array Value} (hc : ∀ (j : Nat) (u : Value), (l.flatMap SnS.cs)[j]? = some u → cur[j]? = some u) :
    cur[i * 3]? = some (.string (l.getD i sn0).port) ∧ cur[i * 3 + 1]? = some (.int .i64 (l.getD i sn0).next) ∧ cur[i * 3 + 2]? = some (.slice (l.getD i sn0).A (l.getD i sn0).held.length (l.getD i sn0).c) := by
  rw [at_k hi]
  have h0 := flatK_at SnS.cs 3 SnS.cs_len l i hi 0 (by omega)
  have h1 := flatK_at SnS.cs 3 SnS.cs_len l i hi 1 (by omega)
  have h2 := flatK_at SnS.cs 3 SnS.cs_len l i hi 2 (by omega)
  exact ⟨hc _ _ h0, hc _ _ h1, hc _ _ h2⟩

/-- hold at a sender of a row. -/
theorem hold_at (b base i : Nat) (A : Option Addr) (c : Nat) (ss : List SnS) (x : MsS) (w : World) (h : SndsOwn base w A c ss) (hi : i < ss.length) (hb : b < base) (hbase : base ≤ w.heap.size) (hz : (ss.getD i sn0).held.length ≤ 900) (hx : x.Lies b w)
    (hz1 : x.m.onw.length ≤ 1000) (hz2 : x.m.lst.length ≤ 1000) (hm : MonoF (numC x.m.num) (ss.getD i sn0).held ms0) :
    ∃ G, A = some ⟨G, 0, none⟩ ∧ Calls Tryd.prog 41 #[.pointer (some ⟨G, i * 3, none⟩), x.v] w fun e w' => e = .returned (.tuple #[]) ∧ ∃ s1 cur, Half base G i ss s1 w' cur ∧ s1.port = (ss.getD i sn0).port ∧ s1.next = (ss.getD i sn0).next ∧
      s1.held.map (·.m) = insL ((ss.getD i sn0).held.map (·.m)) (lbF (numM x.m.num) ((ss.getD i sn0).held.map (·.m))) x.m ∧ Below base w w' ∧ KeepTy 46 w w' := by
  obtain ⟨G, cur, hA, hlG, hG, _, _, hc⟩ := own_cells h.row (by omega)
  refine ⟨G, hA, ?_⟩
  obtain ⟨k0, k1, k2⟩ := cs_at ss i hi hc
  have hmem : ss.getD i sn0 ∈ ss := by rw [at_k hi]; exact List.getElem_mem _
  have hs := h.each _ hmem
  refine (hold_any b base G (i * 3) cur (ss.getD i sn0) x w hG k0 k1 k2 hs hb hbase hz hx hz1 hz2 hm).mono ?_
  rintro e w' ⟨A', c', y, w1, rfl, hy, hO, hg, rfl⟩
  have hG1 := (hg.block _ (Array.getElem?_eq_some_iff.1 hG).1 (own_ne hs.row hG (by decide))).trans hG
  have kI : KeepTy 46 w w1 := KeepTy.grow hs.row (by decide) hg
  have kL : KeepTy 26 w w1 := KeepTy.grow hs.row (by decide) hg
  have kN : KeepTy 3 w w1 := KeepTy.grow hs.row (by decide) hg
  have hlen := insL_len (ss.getD i sn0).held (lbF (numC x.m.num) (ss.getD i sn0).held) y
  refine ⟨rfl, ⟨(ss.getD i sn0).port, (ss.getD i sn0).next, A', c', insL (ss.getD i sn0).held (lbF (numC x.m.num) (ss.getD i sn0).held) y⟩, _, ⟨heap_setM _ hG1, ?_, fun j hj hne => ?_, ?_, hlG, ?_⟩, rfl, rfl, ?_, ?_, kI.trans (KeepTy.set hG1 (by decide) _ _)⟩
  · refine chg_cells hc hi (fun j h1 h2 => set_other (by omega)) rfl (by rw [set_other (by omega)]; exact k1) ?_
    rw [set_same k2, hlen]
  · have hjm : ss.getD j sn0 ∈ ss := by rw [at_k hj]; exact List.getElem_mem _
    have hj1 := h.each _ hjm
    have hap : (ss.getD j sn0).blk = none ∨ (ss.getD j sn0).blk ≠ (ss.getD i sn0).blk := by
      cases hbk : (ss.getD j sn0).blk with
      | none => exact .inl rfl
      | some k =>
        refine .inr fun e => ?_
        rw [at_k hj] at hbk
        rw [at_k hi] at e
        rcases Nat.lt_or_gt_of_ne hne with hlt | hgt
        · exact List.pairwise_iff_getElem.1 h.apart j i hj hi hlt k hbk e.symm
        · exact List.pairwise_iff_getElem.1 h.apart i j hi hj hgt k e.symm hbk
    have hm1 : MsgsOwn base w1 (ss.getD j sn0).A (ss.getD j sn0).c (ss.getD j sn0).held := ⟨hj1.row.kept hg hap, fun u hu => (hj1.each u hu).step kL kN⟩
    exact hm1.step (KeepTy.set hG1 (by decide) _ _) (KeepTy.set hG1 (by decide) _ _) (KeepTy.set hG1 (by decide) _ _)
  · exact hO.step (KeepTy.set hG1 (by decide) _ _) (KeepTy.set hG1 (by decide) _ _) (KeepTy.set hG1 (by decide) _ _)
  · have := hg.size
    have e : (w1.setCell ⟨G, i * 3 + 2, none⟩ (.slice A' ((ss.getD i sn0).held.length + 1) c')).heap.size = w1.heap.size := by simp [World.setCell]
    omega
  · rw [insL_map, hy, numC_lb]
  · exact ((Below.refl base w).grown hg hbase (fun k hk => (hs.row.lt k hk).1)).setCell (p := ⟨G, i * 3 + 2, none⟩) hlG _

/-- release at a sender of a row. -/
theorem release_at (b base G i : Nat) (ss : List SnS) (s1 : SnS) (W : World) (cur : Array Value) (h : Half base G i ss s1 W cur) (hi : i < ss.length) (hb : b < base) (hne : 0 < s1.held.length) (hf : FewM s1.held) (hn1 : 0 ≤ s1.next) (hn2 : s1.next ≤ 1000000000) :
    Calls Tryd.prog 42 #[.pointer (some ⟨G, i * 3, none⟩)] W fun e w' => ∃ A' c' ys s2, e = .returned (.slice A' ys.length c') ∧ ys.map (·.m) = (s1.held.map (·.m)).take (relN s1.next (s1.held.map (·.m))) ∧ MsgsOwn W.heap.size w' A' c' ys ∧
      s2.mod = ⟨s1.port, s1.next + (relN s1.next (s1.held.map (·.m)) : Nat), (s1.held.map (·.m)).drop (relN s1.next (s1.held.map (·.m)))⟩ ∧ (∀ b', b' < base → SndsIn b' w' (some ⟨G, 0, none⟩) (ss.set i s2)) ∧ Below base W w' ∧ KeepTy 46 W w' := by
  have hi' : i < (ss.set i s1).length := by simpa using hi
  obtain ⟨k0, k1, k2⟩ := cs_at (ss.set i s1) i hi' h.cells
  have es : (ss.set i s1).getD i sn0 = s1 := by rw [at_k hi']; simp
  rw [es] at k0 k1 k2
  refine (release_any b base G (i * 3) cur s1 W hne h.row k0 k1 k2 h.self hb hf hn1 hn2).mono ?_
  rintro e w' ⟨A', c', ys, Ar, cr, cur', rfl, hy, hO, hg, hG', hch, q1, q2, hin⟩
  have kI : KeepTy 46 W w' := KeepTy.other hg h.row (by decide)
  have kM : KeepTy 32 W w' := KeepTy.other hg h.row (by decide)
  have kL : KeepTy 26 W w' := KeepTy.other hg h.row (by decide)
  have kN : KeepTy 3 W w' := KeepTy.other hg h.row (by decide)
  refine ⟨A', c', ys, ⟨s1.port, s1.next + (relN s1.next (s1.held.map (·.m)) : Nat), Ar, cr, s1.held.drop (relN s1.next (s1.held.map (·.m)))⟩, rfl, hy, hO, ?_, fun b' hb' hn => ?_, (Below.refl base W).grown hg h.sz (fun k hk => by injection hk with hk; have := h.lb; omega), kI⟩
  · unfold SnS.mod
    rw [List.map_drop]
  · have hl : (s1.held.drop (relN s1.next (s1.held.map (·.m)))).length = s1.held.length - relN s1.next (s1.held.map (·.m)) := List.length_drop
    have hcc := chg_cells (s1 := ⟨s1.port, s1.next + (relN s1.next (s1.held.map (·.m)) : Nat), Ar, cr, s1.held.drop (relN s1.next (s1.held.map (·.m)))⟩) h.cells hi' hch.same (by rw [es]) q1 (by simp only [hl]; exact q2)
    rw [List.set_set] at hcc
    refine ⟨G, 0, rfl, by have := h.lb; omega, fun (j : Nat) (u : Value) hu => by rw [Nat.zero_add, Lib.cell_of_heap hG']; exact hcc j u hu, fun s hs => ?_⟩
    obtain ⟨j, hj, rfl⟩ := List.getElem_of_mem hs
    rw [List.length_set] at hj
    by_cases hji : j = i
    · subst hji
      rw [List.getElem_set_self]
      exact hin b' hb'
    · rw [List.getElem_set_ne (by omega)]
      have := (h.others j hj hji).step kM kL kN
      rw [at_k hj] at this
      exact this.ins hb'
end Go.Proofs.YtcjdjdganaokfaaDoor
