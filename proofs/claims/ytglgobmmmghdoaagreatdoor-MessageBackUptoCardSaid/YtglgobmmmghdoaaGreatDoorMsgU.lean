/-
  Messages: a message under way in its box; writeLegs, write at any key; Encode.
-/
import Derived.Test.YtglgobmmmghdoaaGreatDoorMsgK
import Derived.Laws.Runes

/- MsgU: Decode under way: what is kept while a message is read from the elements of a telegram. -/
namespace Go.Proofs.YtglgobmmmghdoaaGreatDoor
open Go.RowKit

theorem info_lg : (Tryz.prog.info? 30).map (fun i => (i.zero, i.size, i.bytes)) = some (some (.agg #[.string ByteArray.empty, .int .i64 0, .string ByteArray.empty, .int .i64 0, .string ByteArray.empty, .string ByteArray.empty]), 6, 80) := by kernel_rfl
theorem info_intE : (Tryz.prog.info? 3).map (fun i => (i.zero, i.size, i.bytes)) = some (some (.int .i64 0), 1, 8) := by kernel_rfl

theorem heap_setM {w : World} {g i : Nat} {cs : Array Value} {t : TypeId} (v : Value) (hg : w.heap[g]? = some (.cells cs t (0, 0))) : (w.setCell ⟨g, i, none⟩ v).heap[g]? = some (.cells (cs.setIfInBounds i v) t (0, 0)) := heap_setCell_same w g i cs t v hg
/-- Rows of legs and of numbers, read. -/
theorem lgC_at (l : List Lg) (i : Nat) (h : i < l.length) (k : Nat) (hk : k < 6) : (l.flatMap lgC)[i * 6 + k]? = (lgC l[i])[k]? := by
  induction l generalizing i with
  | nil => simp at h
  | cons x l ih =>
    rw [List.flatMap_cons]
    cases i with
    | zero => rw [Nat.zero_mul, Nat.zero_add, List.getElem?_append_left (by simpa using hk)]; rfl
    | succ i =>
      rw [List.getElem?_append_right (by simp; omega)]
      have : (i + 1) * 6 + k - (lgC x).length = i * 6 + k := by simp; omega
      rw [this]
      exact ih i (by simpa using h)
theorem legs_own {b base cap : Nat} {w : World} {A : Option Addr} {l : List Lg} (ho : w.ownsRow base 30 6 (.slice A l.length cap) l.length (l.flatMap lgC)) (hb : b < base) : LegsIn b w A l := fun hn => by
  rcases ho.2 with ⟨_, h0⟩ | ⟨g, cap', cur, hv, hbg, hg, _, _, _, ht⟩
  · omega
  · injection hv with hA
    subst hA
    refine ⟨g, 0, rfl, by omega, fun i hi => ?_⟩
    have cell : ∀ k u, k < 6 → (lgC l[i])[k]? = some u → w.cell? ⟨g, 0 + i * 6 + k, none⟩ = some u := fun k u hk hu => by
      rw [Nat.zero_add, Lib.cell_of_heap hg, ← Array.getElem?_toList]
      rw [← lgC_at l i hi k hk, ← ht, List.getElem?_take] at hu
      split at hu
      · exact hu
      · cases hu
    have e : l.getD i lg0 = l[i] := at_k hi
    rw [e]
    exact ⟨cell 0 _ (by omega) rfl, cell 1 _ (by omega) rfl, cell 2 _ (by omega) rfl, cell 3 _ (by omega) rfl, cell 4 _ (by omega) rfl, cell 5 _ (by omega) rfl⟩
theorem nums_own {b base cap : Nat} {w : World} {A : Option Addr} {l : List Int} (ho : w.ownsRow base 3 1 (.slice A l.length cap) l.length (l.map (Value.int .i64))) (hb : b < base) : NumsIn b w A l := fun hn => by
  rcases ho.2 with ⟨_, h0⟩ | ⟨g, cap', cur, hv, hbg, hg, _, _, _, ht⟩
  · omega
  · injection hv with hA
    subst hA
    refine ⟨g, 0, rfl, by omega, fun i hi => ?_⟩
    rw [Nat.zero_add, Lib.cell_of_heap hg, ← Array.getElem?_toList]
    have : (cur.toList.take (l.length * 1))[i]? = some (.int .i64 (l.getD i 0)) := by
      rw [ht, List.getElem?_map, List.getElem?_eq_getElem hi, at_k hi]; rfl
    rw [List.getElem?_take] at this
    split at this
    · exact this
    · cases this

theorem gr_set {a w : World} {row : Option Nat} (h : a.grownBy w row) {M : Nat} (hM : a.heap.size ≤ M) (k : Nat) (v : Value) : a.grownBy (w.setCell ⟨M, k, none⟩ v) row :=
  ⟨h.os, h.tape, h.output, Nat.le_trans h.size (Lib.grownBy_setB (World.grownBy.refl w (some M)) k v).size, fun j hj hne => (heap_setCell_other w ⟨M, k, none⟩ j v (by simp only []; omega)).trans (h.block j hj hne)⟩
theorem gr_grow {a w w' : World} {row r : Option Nat} (h : a.grownBy w row) (hg : w.grownBy w' r) (hr : ∀ k, r = some k → a.heap.size ≤ k) : a.grownBy w' row :=
  ⟨hg.os.trans h.os, hg.tape.trans h.tape, hg.output.trans h.output, Nat.le_trans h.size hg.size, fun k hk hne => (hg.block k (Nat.lt_of_lt_of_le hk h.size) (fun e => by have := hr k e.symm; omega)).trans (h.block k hk hne)⟩
theorem gr_none {a w : World} (h : a.grownBy w none) : Below a.heap.size a w := ⟨h.os, h.tape, h.output, h.size, fun k hk => h.block k hk (by simp)⟩
theorem gr_below {a w : World} (h : Below a.heap.size a w) (row : Option Nat) : a.grownBy w row := ⟨h.os, h.tape, h.output, h.size, fun k hk _ => h.block k hk⟩

/-- A message under way in its box M; what came before stays, but block row. -/
structure Rdg (w0 : World) (row : Option Nat) (b base M : Nat) (m : Msg) (A : Option Addr) (c : Nat) (L : Option Addr) (d : Nat) (W : World) : Prop where
  gr : w0.grownBy W row
  mb : W.heap[M]? = some (msgO m A c L d)
  legs : W.ownsRow base 30 6 (.slice A m.onw.length c) m.onw.length (m.onw.flatMap lgC)
  nums : W.ownsRow base 3 1 (.slice L m.lst.length d) m.lst.length (m.lst.map (Value.int .i64))
  sz : base ≤ W.heap.size
  lM : w0.heap.size ≤ M
  lB : w0.heap.size ≤ base
  hM : M < base
  hb : b < base
  hr : ∀ k, row = some k → k < w0.heap.size
section
variable {w0 W W' : World} {row : Option Nat} {b base M : Nat} {m : Msg} {A L : Option Addr} {c d : Nat}
theorem Rdg.start {W0 : World} (h0 : w0.grownBy W0 row) (m : Msg) (ho : m.onw = []) (hl : m.lst = []) (hb : b < w0.heap.size) (hr : ∀ k, row = some k → k < w0.heap.size) : Rdg w0 row b (W0.heap.size + 1) W0.heap.size m none 0 none 0 (W0.alloc (msgO m none 0 none 0)) := by
  have hz := h0.size
  refine ⟨gr_grow h0 (World.grownBy_alloc W0 _ none) (fun k e => by cases e), heap_alloc_new W0 _, ?_, ?_, by rw [World.size_alloc]; omega, hz, by omega, by omega, by omega, hr⟩
  · rw [ho]; exact World.ownsRow_nil _ _ _ _
  · rw [hl]; exact World.ownsRow_nil _ _ _ _
theorem Rdg.other (h : Rdg w0 row b base M m A c L d W) (hg : W.grownBy W' row) : Rdg w0 row b base M m A c L d W' := by
  have hs := h.sz
  have hz := hg.size
  have h1 := h.hM
  have hlB := h.lB
  have hlM := h.lM
  refine ⟨Lib.grownBy_trans h.gr hg, (hg.block _ (by omega) (fun e => by have := h.hr _ e.symm; omega)).trans h.mb, owns_other h.legs hg (fun k e => by have := h.hr k e; omega), owns_other h.nums hg (fun k e => by have := h.hr k e; omega), by omega, h.lM, h.lB, h1, h.hb, h.hr⟩
theorem Rdg.below (h : Rdg w0 row b base M m A c L d W) (hb : Below W.heap.size W W') : Rdg w0 row b base M m A c L d W' := by
  have hs := h.sz
  have hz := hb.size
  have h1 := h.hM
  have hg : W.grownBy W' none := ⟨hb.os, hb.tape, hb.output, hb.size, fun k hk _ => hb.block k hk⟩
  exact ⟨gr_grow h.gr hg (fun k e => by cases e), (hb.block _ (by omega)).trans h.mb, owns_below h.legs hb, owns_below h.nums hb, by omega, h.lM, h.lB, h1, h.hb, h.hr⟩
/-- One cell of the message that is no slice. -/
theorem Rdg.set (h : Rdg w0 row b base M m A c L d W) {m' : Msg} (k : Nat) (v : Value) (hm : (msgL m A c L d).setIfInBounds k v = msgL m' A c L d) (h1 : m'.onw = m.onw) (h2 : m'.lst = m.lst) : Rdg w0 row b base M m' A c L d (W.setCell ⟨M, k, none⟩ v) := by
  have hs := h.sz
  have h3 := h.hM
  have hlB := h.lB
  have hlM := h.lM
  have hg := Lib.grownBy_setB (World.grownBy.refl W (some M)) k v
  refine ⟨gr_set h.gr hlM k v, ?_, ?_, ?_, Nat.le_trans hs hg.size, h.lM, h.lB, h3, h.hb, h.hr⟩
  · rw [heap_setM v h.mb, hm]
  · rw [h1]; exact h.legs.kept hg (Or.inr fun e => own_ne h.legs h.mb (by decide) e.symm)
  · rw [h2]; exact h.nums.kept hg (Or.inr fun e => own_ne h.nums h.mb (by decide) e.symm)
theorem Rdg.pushLeg (h : Rdg w0 row b base M m A c L d W) {g cap : Nat} {x : Lg}
    (hown : W'.ownsRow base 30 6 (.slice (some ⟨g, 0, none⟩) (m.onw.length + 1) cap) (m.onw.length + 1) (m.onw.flatMap lgC ++ lgC x)) (hgrow : W.grownBy W' (Value.slice A m.onw.length c).ownBlock) :
    Rdg w0 row b base M { m with onw := m.onw ++ [x] } (some ⟨g, 0, none⟩) cap L d (W'.setCell ⟨M, 16, none⟩ (.slice (some ⟨g, 0, none⟩) (m.onw.length + 1) cap)) := by
  have hs := h.sz
  have h3 := h.hM
  have hlB := h.lB
  have hlM := h.lM
  have hz := hgrow.size
  have hrow := fun k hk => (h.legs.lt k hk).1
  have hMb := (hgrow.block _ (by omega) (own_ne h.legs h.mb (by decide))).trans h.mb
  have hg := Lib.grownBy_setB (World.grownBy.refl W' (some M)) 16 (.slice (some ⟨g, 0, none⟩) (m.onw.length + 1) cap)
  have hN := h.nums.kept hgrow (by
    rcases h.nums.2 with ⟨e, _⟩ | ⟨g', cap', cur, e, _, hgg, _⟩
    · injection e with e; subst e; exact Or.inl rfl
    · injection e with e; subst e; exact Or.inr fun e => own_ne h.legs hgg (by decide) e)
  refine ⟨gr_set (gr_grow h.gr hgrow (fun k e => by have := hrow k e; omega)) hlM _ _, ?_, ?_, hN.kept hg (Or.inr fun e => own_ne hN hMb (by decide) e.symm), Nat.le_trans (Nat.le_trans hs hz) hg.size, h.lM, h.lB, h3, h.hb, h.hr⟩
  · rw [heap_setM _ hMb, ← (show (m.onw ++ [x]).length = m.onw.length + 1 by simp)]; rfl
  · simp only [List.length_append, List.length_singleton, List.flatMap_append]
    have := hown.kept hg (Or.inr fun e => own_ne hown hMb (by decide) e.symm)
    simpa using this
theorem Rdg.pushNum (h : Rdg w0 row b base M m A c L d W) {g cap : Nat} {x : Int}
    (hown : W'.ownsRow base 3 1 (.slice (some ⟨g, 0, none⟩) (m.lst.length + 1) cap) (m.lst.length + 1) (m.lst.map (Value.int .i64) ++ [.int .i64 x])) (hgrow : W.grownBy W' (Value.slice L m.lst.length d).ownBlock) :
    Rdg w0 row b base M { m with lst := m.lst ++ [x] } A c (some ⟨g, 0, none⟩) cap (W'.setCell ⟨M, 29, none⟩ (.slice (some ⟨g, 0, none⟩) (m.lst.length + 1) cap)) := by
  have hs := h.sz
  have h3 := h.hM
  have hlB := h.lB
  have hlM := h.lM
  have hz := hgrow.size
  have hrow := fun k hk => (h.nums.lt k hk).1
  have hMb := (hgrow.block _ (by omega) (own_ne h.nums h.mb (by decide))).trans h.mb
  have hg := Lib.grownBy_setB (World.grownBy.refl W' (some M)) 29 (.slice (some ⟨g, 0, none⟩) (m.lst.length + 1) cap)
  have hN := h.legs.kept hgrow (by
    rcases h.legs.2 with ⟨e, _⟩ | ⟨g', cap', cur, e, _, hgg, _⟩
    · injection e with e; subst e; exact Or.inl rfl
    · injection e with e; subst e; exact Or.inr fun e => own_ne h.nums hgg (by decide) e)
  refine ⟨gr_set (gr_grow h.gr hgrow (fun k e => by have := hrow k e; omega)) hlM _ _, ?_, hN.kept hg (Or.inr fun e => own_ne hN hMb (by decide) e.symm), ?_, Nat.le_trans (Nat.le_trans hs hz) hg.size, h.lM, h.lB, h3, h.hb, h.hr⟩
  · rw [heap_setM _ hMb, ← (show (m.lst ++ [x]).length = m.lst.length + 1 by simp)]; rfl
  · simp only [List.length_append, List.length_singleton, List.map_append]
    have := hown.kept hg (Or.inr fun e => own_ne hown hMb (by decide) e.symm)
    simpa using this
theorem Rdg.in_legs (h : Rdg w0 row b base M m A c L d W) : LegsIn b W A m.onw := legs_own h.legs h.hb
theorem Rdg.in_nums (h : Rdg w0 row b base M m A c L d W) : NumsIn b W L m.lst := nums_own h.nums h.hb
theorem Rdg.cell (h : Rdg w0 row b base M m A c L d W) (k : Nat) : W.cell? ⟨M, k, none⟩ = (msgL m A c L d)[k]? := Lib.cell_of_heap h.mb k
theorem Rdg.frz (h : Rdg w0 row b base M m A c L d W) (k : Nat) : W.frozen? ⟨M, k, none⟩ = false := Lib.frozen_of_heap h.mb k
end
end Go.Proofs.YtglgobmmmghdoaaGreatDoor

/- MsgV: Contracts of writeLegs, and of write at the keys I, F and O. -/
namespace Go.Proofs.YtglgobmmmghdoaaGreatDoor
open Go.RowKit

theorem info_ps : (Tryz.prog.info? 53).map (fun i => (i.zero, i.size, i.bytes)) = some (some (.slice none 0 0), 1, 24) := by kernel_rfl
/-- Lists of strings with their slices. -/
abbrev PsS := List ByteArray × Option Addr × Nat
def psCell (x : PsS) : Value := .slice x.2.1 x.1.length x.2.2
/-- A row of lists under way. -/
structure Pts (w0 : World) (b base : Nat) (A : Option Addr) (c : Nat) (xs : List PsS) (W : World) : Prop where
  bel : Below w0.heap.size w0 W
  own : W.ownsRow base 53 1 (.slice A xs.length c) xs.length (xs.map psCell)
  fin : ∀ x ∈ xs, StrRow b W x.2.1 x.1
  hb : b < base
  lB : w0.heap.size ≤ base
  sz : base ≤ W.heap.size
section
variable {w0 W W' : World} {b base : Nat} {A : Option Addr} {c : Nat} {xs : List PsS}
theorem Pts.start (h0 : Below w0.heap.size w0 W) (hb : b < w0.heap.size) : Pts w0 b W.heap.size none 0 [] W :=
  ⟨h0, World.ownsRow_nil _ _ _ _, (fun _ h => by cases h), Nat.lt_of_lt_of_le hb h0.size, h0.size, Nat.le_refl _⟩
theorem Pts.below (h : Pts w0 b base A c xs W) (hb : Below W.heap.size W W') : Pts w0 b base A c xs W' :=
  ⟨onward h.bel hb, owns_below h.own hb, fun x hx => (h.fin x hx).step (KeepS.below hb), h.hb, h.lB, Nat.le_trans h.sz hb.size⟩
theorem Pts.push (h : Pts w0 b base A c xs W) {g cap : Nat} {x : PsS} (hx : StrRow b W x.2.1 x.1)
    (hown : W'.ownsRow base 53 1 (.slice (some ⟨g, 0, none⟩) (xs.length + 1) cap) (xs.length + 1) (xs.map psCell ++ [psCell x])) (hgrow : W.grownBy W' (Value.slice A xs.length c).ownBlock) :
    Pts w0 b base (some ⟨g, 0, none⟩) cap (xs ++ [x]) W' := by
  have hlB := h.lB
  have hrow := fun k hk => (h.own.lt k hk).1
  have hK := KeepS.grow (b := b) h.own (by decide) hgrow
  refine ⟨h.bel.grown hgrow h.bel.size (fun k e => by have := hrow k e; omega), ?_, fun y hy => ?_, h.hb, h.lB, Nat.le_trans h.sz hgrow.size⟩
  · rw [List.length_append, List.length_singleton, List.map_append]; exact hown
  · rcases List.mem_append.1 hy with hy | hy
    · exact (h.fin y hy).step hK
    · rw [List.mem_singleton.1 hy]; exact hx.step hK
theorem Pts.parts (h : Pts w0 b base A c xs W) : PartsIn b W A (xs.map (·.1)) := fun hn => by
  rw [List.length_map] at hn
  have hbb := h.hb
  rcases h.own.2 with ⟨_, h0⟩ | ⟨g, cap', cur, hv, hbg, hg, _, _, _, ht⟩
  · omega
  · injection hv with hA
    subst hA
    refine ⟨g, cur, _, rfl, by omega, hg, fun i hi => ?_⟩
    rw [List.length_map] at hi
    have e1 : (xs.map (·.1)).getD i [] = xs[i].1 := by rw [List.getD_eq_getElem?_getD, List.getElem?_map, List.getElem?_eq_getElem hi]; rfl
    rw [e1]
    refine ⟨xs[i].2.1, xs[i].2.2, ?_, h.fin _ (List.getElem_mem _)⟩
    rw [← Array.getElem?_toList]
    have : (cur.toList.take (xs.length * 1))[i]? = some (psCell xs[i]) := by
      rw [ht, List.getElem?_map, List.getElem?_eq_getElem hi]; rfl
    rw [List.getElem?_take] at this
    split at this
    · exact this
    · cases this
end

/-- The text of a leg's flight, cut at its slash. -/
theorem cut_leg {g : Lg} (h : lgB g = true) : (ftxt g.c g.n g.s g.d).size ≤ 10 ∧ ∃ k : Nat, cutI (ftxt g.c g.n g.s g.d) = (k : Int) ∧ k + 1 ≤ (ftxt g.c g.n g.s g.d).size ∧ (ftxt g.c g.n g.s g.d).extract 0 k = fdes g.c g.n g.s g.d ∧ (ftxt g.c g.n g.s g.d).extract (k + 1) (ftxt g.c g.n g.s g.d).size = strOfNums (dgs g.d 2) := by
  unfold lgB legB at h
  rw [Bool.and_eq_true] at h
  have hv := h.1
  obtain ⟨h1, ⟨h2, h3⟩, h4, h5, h6⟩ := fvl_iff.1 hv
  obtain ⟨z1, z2⟩ := fvl_sizes hv
  have hT : ftxt g.c g.n g.s g.d = g.c ++ strOfNums (dgs g.n 4) ++ g.s ++ ⟨#[47]⟩ ++ strOfNums (dgs g.d 2) := by unfold ftxt; rw [hv]; rfl
  have hT2 := ftxt_yes hv
  have hfz := fdes_size hv
  generalize ftxt g.c g.n g.s g.d = T at *
  generalize fdes g.c g.n g.s g.d = D at *
  obtain ⟨p0, p1, p2, p3, p4, p5⟩ := parts5 z1 (size_str g.n 4) z2 (size_str g.d 2) hT
  have hf : fForm T = true := fForm_iff.2 ⟨by omega, p5, by rw [p1]; exact h1, by rw [p2]; exact dig_str g.n 4, by rw [p3]; exact h4, by rw [p4]; exact dig_str g.d 2⟩
  have hz : T.size = D.size + 1 + 2 := by
    rw [hT2, ByteArray.size_append, ByteArray.size_append, size_str]; rfl
  refine ⟨by omega, T.size - 3, fForm_cut hf, by omega, ?_, ?_⟩
  · apply ext_is
    rw [hT2]
    simp only [ByteArray.data_append, Array.toList_append, List.drop_zero, Nat.sub_zero]
    rw [List.append_assoc, List.take_append_of_le_length (by rw [data_len]; rw [← hT2]; omega), List.take_of_length_le (by rw [data_len]; rw [← hT2]; omega)]
  · rw [show T.size - 3 + 1 = T.size - 2 by omega]; exact p4
theorem cutleg_any {g : Lg} (h : lgB g = true) (w : World) :
    Calls Tryz.prog 29 #[.string (ftxt g.c g.n g.s g.d), .string ⟨#[47]⟩] w fun e w' => e = .returned (.tuple #[.string (fdes g.c g.n g.s g.d), .string (strOfNums (dgs g.d 2)), .bool true]) ∧ Below w.heap.size w w' := by
  obtain ⟨hz, k, h1, h2, h3, h4⟩ := cut_leg h
  have := cut_hit (ftxt g.c g.n g.s g.d) k w (by unfold maxLen; omega) h1 h2
  rwa [h3, h4] at this

set_option maxHeartbeats 4000000 in
theorem wlegs_any (b : Nat) (l : List Lg) (A : Option Addr) (c : Nat) (w : World) (hb : b < w.heap.size) (hz : l.length ≤ 1000) (hv : l.all lgB = true) (h : LegsIn b w A l) :
    Calls Tryz.prog 44 #[.slice A l.length c] w (Writes b w (l.map legP)) := by
  obtain ⟨i0, hi, hz0, hz1, hz2⟩ := info_parts info_ps
  have HI0 := hide hi
  have HZ0 := hide hz0
  have HZ1 := hide hz1
  have HZ2 := hide hz2
  have HI := hide h
  have HV := hide hv
  have HB := hide hb
  clear hi hz0 hz1 hz2 h hv hb
  go_enter Tryz.func44, Tryz.ntmps44
  go_wp2
  go_loopw [3, 11] (fun v i wr => ∃ (k : Nat) (xs : List PsS) (A' : Option Addr) (c' : Nat), k ≤ l.length ∧ i = .int .i64 k ∧ v = .slice A' xs.length c' ∧ Hid (xs.map (·.1) = (l.take k).map legP) ∧ Pts w b w.heap.size A' c' xs wr) (fun _ i _ => l.length - (intOf i).toNat)
  case atStart => exact ⟨0, [], none, 0, Nat.zero_le _, rfl, rfl, Lib.hid rfl, Pts.start (Below.refl _ _) (unhide HB)⟩
  case round =>
    obtain ⟨k, xs, A', c', hk, rfl, rfl, hd, hp⟩ := hrel
    obtain ⟨wo, rfl⟩ : ∃ wo : World, wo = wr := ⟨_, rfl⟩
    have HP := hide hp
    have hxl : xs.length ≤ 1000 := by
      have e := congrArg List.length (unhide hd)
      simp at e
      omega
    clear hp
    by_cases hlt : k < l.length
    · obtain ⟨g, off, rfl, hg, hc⟩ := ((unhide HI).keep (unhide HP).bel) (by omega)
      obtain ⟨c0, c1, c2, c3, c4, c5⟩ := hc k hlt
      clear hc
      have kl : (k : Int) < (l.length : Int) := by omega
      have hx : lgB (l.getD k lg0) = true := by rw [at_k hlt]; exact List.all_eq_true.1 (unhide HV) _ (List.getElem_mem _)
      have HS := hide (show ∀ x : PsS, x.1 = legP (l.getD k lg0) → (xs ++ [x]).map (·.1) = (l.take (k + 1)).map legP from fun x e => by
        rw [List.map_append, unhide hd, List.take_succ_eq_append_getElem hlt, List.map_append, at_k hlt] at *
        simp [e])
      have HX := hide hx
      clear hx
      generalize l.getD k lg0 = x at *
      have B1 := Lib.hid ((Below.refl wo.heap.size wo).alloc (Nat.le_refl _) (.cells (lgC x).toArray 30))
      have z4 : (wo.alloc (.cells (lgC x).toArray 30)).cell? ⟨wo.heap.size, 4, none⟩ = some (.string x.p) := by rw [Lib.cell_of_heap (heap_alloc_new wo _)]; rfl
      have z5 : (wo.alloc (.cells (lgC x).toArray 30)).cell? ⟨wo.heap.size, 5, none⟩ = some (.string x.k) := by rw [Lib.cell_of_heap (heap_alloc_new wo _)]; rfl
      have HZ4 := hide z4
      have HZ5 := hide z5
      clear z4 z5
      go_wp2_with fail
      refine (fformat_any x.c x.n x.s x.d _).mono ?_
      rintro e w2 ⟨rfl, hb2⟩
      go_wp2_with fail
      refine (cutleg_any (unhide HX) _).mono ?_
      rintro e w3 ⟨rfl, hb3⟩
      have hb23 := onward hb2 hb3
      have y4 := kept hb23 (unhide HZ4)
      have y5 := kept hb23 (unhide HZ5)
      have hP3 := (unhide HP).below (onward (unhide B1) hb23)
      have hbw : b < w3.heap.size := Nat.lt_of_lt_of_le hP3.hb hP3.sz
      have y4' := alloc_cell y4
      have hR := strs_new hbw (legP x)
      have b4 := (Below.refl w3.heap.size w3).alloc (Nat.le_refl _) (.cells #[.string (fdes x.c x.n x.s x.d), .string (strOfNums (dgs x.d 2)), .string x.p, .string x.k] 9)
      have b5 := below_new b4 (.cells #[.slice (some ⟨w3.heap.size, 0, none⟩) 4 4] 53)
      have hP5 := hP3.below b5
      have hR5 := hR.step ((KeepTy.below (below_new (Below.refl _ _) (.cells #[.slice (some ⟨w3.heap.size, 0, none⟩) 4 4] 53))).s b)
      have hbase := hP5.sz
      have hown := hP5.own
      have HO5 := hide hown
      have HP5 := hide hP5
      have HR5 := hide hR5
      clear hb2 hb3 hb23 hP3 hbw hR b4 b5 hP5 hR5 y4' c0 c1 c2 c3 c4 c5 hown
      go_wp2_with (at_builtin; refine wpList_append_lies _ rfl _ _ 67 rfl w.heap.size 53 i0 (.slice none 0 0) 1 24 Tryz.underlying67 (unhide HI0) (unhide HZ0) (unhide HZ1) (unhide HZ2) rfl (by decide) _ _ _ rfl (unhide HO5) ⟨w3.heap.size + 1, 0, none⟩ 1 1 [.slice (some ⟨w3.heap.size, 0, none⟩) 4 4] rfl rfl (World.news_of_block (by have := heap_alloc_new (w3.alloc (.cells #[.string (fdes x.c x.n x.s x.d), .string (strOfNums (dgs x.d 2)), .string x.p, .string x.k] 9)) (.cells #[.slice (some ⟨w3.heap.size, 0, none⟩) 4 4] 53); rwa [World.size_alloc] at this)) (by intro u hu; rw [List.mem_singleton.1 hu]; rfl) (by omega) (by unfold maxLen; omega) (by omega) hbase _ rfl ?_)
      intro q cap w7 hown7 hgrow hat hlt7
      have HP7 := hide ((unhide HP5).push (x := (legP x, some ⟨w3.heap.size, 0, none⟩, 4)) (unhide HR5) hown7 hgrow)
      clear hown7 hgrow hat hlt7
      go_wp2
      go_roundw
      case rel => exact ⟨k + 1, xs ++ [(legP x, some ⟨w3.heap.size, 0, none⟩, 4)], some ⟨q, 0, none⟩, cap, by omega, by go_num, by rw [List.length_append]; rfl, Lib.hid (unhide HS _ rfl), unhide HP7⟩
      case measure => simp [intOf]; omega
    · have kl : ¬ (k : Int) < (l.length : Int) := by omega
      have HE := hide (show xs.map (·.1) = l.map legP by rw [unhide hd, List.take_of_length_le (by omega)])
      go_wp2
      go_ret
      have hl := congrArg List.length (unhide HE)
      simp only [List.length_map] at hl
      refine ⟨A', c', by rw [List.length_map, ← hl]; rfl, ?_, (unhide HP).bel⟩
      rw [← unhide HE]
      exact (unhide HP).parts

/-- One leg in a new block. -/
theorem legs_one {b : Nat} {W : World} (hb : b < W.heap.size) (g : Lg) : LegsIn b (W.alloc (.cells #[.string g.c, .int .i64 g.n, .string g.s, .int .i64 g.d, .string g.p, .string g.k] 30)) (some ⟨W.heap.size, 0, none⟩) [g] := fun _ => by
  have e := heap_alloc_new W (.cells #[.string g.c, .int .i64 g.n, .string g.s, .int .i64 g.d, .string g.p, .string g.k] 30)
  refine ⟨W.heap.size, 0, rfl, by omega, fun i hi => ?_⟩
  obtain rfl : i = 0 := by simpa using hi
  exact ⟨by rw [Lib.cell_of_heap e]; rfl, by rw [Lib.cell_of_heap e]; rfl, by rw [Lib.cell_of_heap e]; rfl, by rw [Lib.cell_of_heap e]; rfl, by rw [Lib.cell_of_heap e]; rfl, by rw [Lib.cell_of_heap e]; rfl⟩

set_option maxHeartbeats 4000000 in
set_option maxRecDepth 100000 in
theorem wr_73 (b : Nat) (m : Msg) (A L : Option Addr) (c d : Nat) (w : World) (hb : b < w.heap.size) (hg : lgB m.inn = true) :
    Calls Tryz.prog 22 #[msgV m A c L d, .int .i32 73] w (Writes b w (writeP m 73)) := by
  have HV := hide (show writeP m 73 = [legP m.inn] from rfl)
  have hA : ∀ k v, (msgL m A c L d)[k]? = some v → (w.alloc (msgO m A c L d)).cell? ⟨w.heap.size, k, none⟩ = some v := fun k v hk => by rw [Lib.cell_of_heap (heap_alloc_new w _)]; exact hk
  have b0 := (Below.refl w.heap.size w).alloc (Nat.le_refl _) (msgO m A c L d)
  have z0 := hA 4 (.string m.inn.c) rfl
  have z1 := hA 5 (.int .i64 m.inn.n) rfl
  have z2 := hA 6 (.string m.inn.s) rfl
  have z3 := hA 7 (.int .i64 m.inn.d) rfl
  have z4 := hA 8 (.string m.inn.p) rfl
  have z5 := hA 9 (.string m.inn.k) rfl
  obtain ⟨W1, hW⟩ : ∃ W1 : World, w.alloc (msgO m A c L d) = W1 := ⟨_, rfl⟩
  rw [hW] at b0 z0 z1 z2 z3 z4 z5
  generalize m.inn = g at *
  have hbb : b < W1.heap.size := Nat.lt_of_lt_of_le hb b0.size
  have HC := hide (wlegs_any b [g] (some ⟨W1.heap.size, 0, none⟩) 1 (W1.alloc (.cells #[.string g.c, .int .i64 g.n, .string g.s, .int .i64 g.d, .string g.p, .string g.k] 30)) (by rw [World.size_alloc]; omega) (by simp) (by simp [hg]) (legs_one hbb g))
  have HB0 := hide (below_new b0 (.cells #[.string g.c, .int .i64 g.n, .string g.s, .int .i64 g.d, .string g.p, .string g.k] 30))
  clear hb hg hA b0 hbb
  go_enter Tryz.func22, Tryz.ntmps22
  go_wp2_with (go_at_call 44; refine (unhide HC).mono ?_; rintro e w2 ⟨A2, c2, rfl, hp2, hb2⟩; have HB2 := hide ((unhide HB0).trans (hb2.mono (unhide HB0).size)); have HP2 := hide hp2; clear hb2 hp2)
  go_ret
  rw [unhide HV]
  exact ⟨_, _, rfl, unhide HP2, unhide HB2⟩

set_option maxHeartbeats 4000000 in
set_option maxRecDepth 100000 in
theorem wr_70 (b : Nat) (m : Msg) (A L : Option Addr) (c d : Nat) (w : World) (hb : b < w.heap.size) (hg : lgB m.out = true) :
    Calls Tryz.prog 22 #[msgV m A c L d, .int .i32 70] w (Writes b w (writeP m 70)) := by
  have HV := hide (show writeP m 70 = [legP m.out] from rfl)
  have hA : ∀ k v, (msgL m A c L d)[k]? = some v → (w.alloc (msgO m A c L d)).cell? ⟨w.heap.size, k, none⟩ = some v := fun k v hk => by rw [Lib.cell_of_heap (heap_alloc_new w _)]; exact hk
  have b0 := (Below.refl w.heap.size w).alloc (Nat.le_refl _) (msgO m A c L d)
  have z0 := hA 10 (.string m.out.c) rfl
  have z1 := hA 11 (.int .i64 m.out.n) rfl
  have z2 := hA 12 (.string m.out.s) rfl
  have z3 := hA 13 (.int .i64 m.out.d) rfl
  have z4 := hA 14 (.string m.out.p) rfl
  have z5 := hA 15 (.string m.out.k) rfl
  obtain ⟨W1, hW⟩ : ∃ W1 : World, w.alloc (msgO m A c L d) = W1 := ⟨_, rfl⟩
  rw [hW] at b0 z0 z1 z2 z3 z4 z5
  generalize m.out = g at *
  have hbb : b < W1.heap.size := Nat.lt_of_lt_of_le hb b0.size
  have HC := hide (wlegs_any b [g] (some ⟨W1.heap.size, 0, none⟩) 1 (W1.alloc (.cells #[.string g.c, .int .i64 g.n, .string g.s, .int .i64 g.d, .string g.p, .string g.k] 30)) (by rw [World.size_alloc]; omega) (by simp) (by simp [hg]) (legs_one hbb g))
  have HB0 := hide (below_new b0 (.cells #[.string g.c, .int .i64 g.n, .string g.s, .int .i64 g.d, .string g.p, .string g.k] 30))
  clear hb hg hA b0 hbb
  go_enter Tryz.func22, Tryz.ntmps22
  go_wp2_with (go_at_call 44; refine (unhide HC).mono ?_; rintro e w2 ⟨A2, c2, rfl, hp2, hb2⟩; have HB2 := hide ((unhide HB0).trans (hb2.mono (unhide HB0).size)); have HP2 := hide hp2; clear hb2 hp2)
  go_ret
  rw [unhide HV]
  exact ⟨_, _, rfl, unhide HP2, unhide HB2⟩

set_option maxHeartbeats 4000000 in
set_option maxRecDepth 100000 in
theorem wr_79 (b : Nat) (m : Msg) (A L : Option Addr) (c d : Nat) (w : World) (hb : b < w.heap.size) (hz : m.onw.length ≤ 1000) (hg : m.onw.all lgB = true) (h1 : LegsIn b w A m.onw) :
    Calls Tryz.prog 22 #[msgV m A c L d, .int .i32 79] w (Writes b w (writeP m 79)) := by
  have HV := hide (show writeP m 79 = m.onw.map legP from rfl)
  have b0 := (Below.refl w.heap.size w).alloc (Nat.le_refl _) (msgO m A c L d)
  have HC := hide (wlegs_any b m.onw A c (w.alloc (msgO m A c L d)) (by rw [World.size_alloc]; omega) hz hg (h1.keep b0))
  have HB0 := hide b0
  clear hb hg h1 b0 hz
  go_enter Tryz.func22, Tryz.ntmps22
  go_wp2_with (go_at_call 44; refine (unhide HC).mono ?_; rintro e w2 ⟨A2, c2, rfl, hp2, hb2⟩; have HB2 := hide ((unhide HB0).trans (hb2.mono (unhide HB0).size)); have HP2 := hide hp2; clear hb2 hp2)
  go_ret
  rw [unhide HV]
  exact ⟨_, _, by rw [List.length_map]; rfl, unhide HP2, unhide HB2⟩

/-- What write gives at each key of a valid message, that of the passengers apart. -/
theorem wr_any (b : Nat) (m : Msg) (A L : Option Addr) (c d : Nat) (w : World) (hb : b < w.heap.size) (hT : Tabs w) (hv : valE m = 0) (h1 : LegsIn b w A m.onw) (x : Int) (hx : x ∈ keysL m.kind)
    (h66 : x = 66 → Calls Tryz.prog 22 #[msgV m A c L d, .int .i32 66] w (Writes b w (writeP m 66))) :
    Calls Tryz.prog 22 #[msgV m A c L d, .int .i32 x] w (Writes b w (writeP m x)) := by
  obtain ⟨hk, _, hl, hf, _, hr, _⟩ := valE_ok.1 hv
  have f1 : formB m x = true := List.all_eq_true.1 hf x hx
  have r1 : rangB m x = true := List.all_eq_true.1 hr x hx
  unfold limB at hl
  rw [Bool.and_eq_true, decide_eq_true_eq, decide_eq_true_eq] at hl
  obtain ⟨n, hn⟩ := Int.eq_ofNat_of_zero_le (show 0 ≤ m.kind by have := (inB_iff.1 (show inB m.kind 1 5 = true from hk)).1; omega)
  obtain ⟨k1, k5⟩ := inB_iff.1 (show inB m.kind 1 5 = true from hk)
  have hm := keys_mem (k := n) (by omega) (by omega) x (by rw [← hn]; exact hx)
  simp only [List.mem_cons, List.not_mem_nil, or_false] at hm
  rcases hm with rfl | rfl | rfl | rfl | rfl | rfl | rfl | rfl | rfl | rfl | rfl
  · have r2 : inB m.num 1 9999 = true := r1
    have f2 : portB m.port = true := f1
    obtain ⟨q1, q2⟩ := inB_iff.1 r2
    unfold portB letN at f2
    rw [Bool.and_eq_true, decide_eq_true_eq] at f2
    exact wr_86 b m A L c d w hb hT (by omega) q2 (by omega)
  · exact wr_73 b m A L c d w hb f1
  · exact wr_70 b m A L c d w hb f1
  · exact wr_79 b m A L c d w hb (by omega) f1 h1
  · have r2 : (vld m.pl m.pa m.ps && inB m.cnt 1 99) = true := r1
    rw [Bool.and_eq_true] at r2
    obtain ⟨q1, q2⟩ := inB_iff.1 r2.2
    exact wr_78 b m A L c d w hb (by omega) (by omega)
  · have r2 : (inB m.sta 1 4 && inB m.sq 1 999) = true := r1
    rw [Bool.and_eq_true] at r2
    obtain ⟨q1, q2⟩ := inB_iff.1 r2.2
    obtain ⟨q3, q4⟩ := inB_iff.1 r2.1
    obtain ⟨k, hk⟩ := Int.eq_ofNat_of_zero_le (show 0 ≤ m.sta by omega)
    exact wr_83 b m A L c d w hb hT k hk (by omega) (by omega) (by omega)
  · exact wr_87 b m A L c d w hb hT r1
  · exact wr_80 b m A L c d w hb
  · exact wr_88 b m A L c d w hb hT r1
  · exact wr_74 b m A L c d w hb
  · exact h66 rfl
end Go.Proofs.YtglgobmmmghdoaaGreatDoor

/- MsgW: Contract of Encode. -/
namespace Go.Proofs.YtglgobmmmghdoaaGreatDoor
open Go.RowKit

theorem key_one {x : Int} (h : x ∈ [86, 73, 70, 79, 78, 83, 87, 80, 88, 74, 66]) : Utf8.encode x = one x := by
  simp only [List.mem_cons, List.not_mem_nil, or_false] at h
  rcases h with rfl | rfl | rfl | rfl | rfl | rfl | rfl | rfl | rfl | rfl | rfl <;> decide +kernel
/-- What Encode gives. -/
def Encoded (b : Nat) (W : World) (m : Msg) (e : Ending) (w' : World) : Prop :=
  ∃ A c, e = .returned (.tuple #[.agg #[.string (wKind m.kind), .string (wAct m.act), .slice A (encT m).els.length c], .int .i64 0]) ∧ ElsIn b w' A (encT m).els ∧ Below W.heap.size W w'
theorem els_take {m : Msg} {k : Nat} {x : Int} (hk : k < (keysL m.kind).length) (hx : (keysL m.kind).getD k 0 = x) : ((keysL m.kind).take (k + 1)).flatMap (elsK m) = ((keysL m.kind).take k).flatMap (elsK m) ++ (writeP m x).map fun ps => (one x, ps) := by
  rw [List.take_succ_eq_append_getElem hk, List.flatMap_append, ← hx, at_k hk]
  simp [elsK]
theorem chunks_few : ∀ (f : Nat) (l : List Int), (chunks f l).length ≤ f := by
  intro f
  induction f with
  | zero => intro l; exact Nat.le_refl 0
  | succ f ih =>
    intro l
    unfold chunks
    split
    · exact Nat.zero_le _
    · have := ih (l.drop 8)
      rw [List.length_cons]
      omega
theorem write_few (m : Msg) (hl : m.onw.length ≤ 3) (hl2 : m.lst.length ≤ 40) (x : Int) (hx : x ∈ [86, 73, 70, 79, 78, 83, 87, 80, 88, 74, 66]) : (writeP m x).length ≤ 40 := by
  simp only [List.mem_cons, List.not_mem_nil, or_false] at hx
  rcases hx with rfl | rfl | rfl | rfl | rfl | rfl | rfl | rfl | rfl | rfl | rfl
  · show 1 ≤ 40; omega
  · show 1 ≤ 40; omega
  · show 1 ≤ 40; omega
  · show (m.onw.map legP).length ≤ 40; rw [List.length_map]; omega
  · show 1 ≤ 40; omega
  · show 1 ≤ 40; omega
  · show 1 ≤ 40; omega
  · show 1 ≤ 40; omega
  · show (if m.exc = 0 then ([] : List (List ByteArray)) else [[wExc m.exc]]).length ≤ 40
    split
    · exact Nat.zero_le _
    · show 1 ≤ 40; omega
  · show 1 ≤ 40; omega
  · show (lstP m.lst).length ≤ 40
    unfold lstP
    rw [List.length_map]
    have := chunks_few m.lst.length m.lst
    omega

set_option maxHeartbeats 4000000 in
set_option maxRecDepth 100000 in
theorem enc_ok (b : Nat) (m : Msg) (A L : Option Addr) (c d : Nat) (w : World) (hb : b < w.heap.size) (h1 : LegsIn b w A m.onw) (h2 : NumsIn b w L m.lst) (hK : Keys w) (hT : Tabs w) (hv : valE m = 0)
    (h66 : ∀ W, Tabs W → b < W.heap.size → NumsIn b W L m.lst → 66 ∈ keysL m.kind → Calls Tryz.prog 22 #[msgV m A c L d, .int .i32 66] W (Writes b W (writeP m 66))) :
    Calls Tryz.prog 7 #[msgV m A c L d] w (Encoded b w m) := by
  obtain ⟨hk, -, hl, -, ha, -, -⟩ := valE_ok.1 hv
  unfold limB at hl
  rw [Bool.and_eq_true, decide_eq_true_eq, decide_eq_true_eq] at hl
  obtain ⟨k1, k5⟩ := inB_iff.1 (show inB m.kind 1 5 = true from hk)
  obtain ⟨a0, a2⟩ := inB_iff.1 ha
  obtain ⟨n, hn⟩ := Int.eq_ofNat_of_zero_le (show 0 ≤ m.kind by omega)
  obtain ⟨a, hn2⟩ := Int.eq_ofNat_of_zero_le (show 0 ≤ m.act by omega)
  have n1 : 1 ≤ n := by omega
  have n5 : n ≤ 5 := by omega
  have a3 : a ≤ 2 := by omega
  have hz : m.onw.length ≤ 1000000000 := by omega
  have hz2 : m.lst.length ≤ 1000000000 := by omega
  obtain ⟨i2, ki, kz0, kz1, kz2⟩ := info_parts info_el
  have KI0 := hide ki
  have KZ0 := hide kz0
  have KZ1 := hide kz1
  have KZ2 := hide kz2
  clear ki kz0 kz1 kz2
  obtain ⟨W1, hW⟩ : ∃ W1 : World, (w.alloc (msgO m A c L d)).alloc (.cells #[.string ⟨#[]⟩, .string ⟨#[]⟩, .slice none 0 0] 25) = W1 := ⟨_, rfl⟩
  have b1 : Below w.heap.size w W1 := by rw [← hW]; exact below_new ((Below.refl _ _).alloc (Nat.le_refl _) _) _
  have hz1 : W1.heap.size = w.heap.size + 1 + 1 := by rw [← hW, World.size_alloc, World.size_alloc]
  have hbox : W1.heap[w.heap.size]? = some (msgO m A c L d) := by rw [← hW, Below.heap_alloc _ _ _ (by rw [World.size_alloc]; omega)]; exact heap_alloc_new w _
  have HX1 := hide hbox
  have HR1 := hide (show W1.heap[w.heap.size + 1]? = some (.cells #[.string ⟨#[]⟩, .string ⟨#[]⟩, .slice none 0 0] 25 (0, 0)) by
    have := heap_alloc_new (w.alloc (msgO m A c L d)) (.cells #[.string ⟨#[]⟩, .string ⟨#[]⟩, .slice none 0 0] 25)
    rwa [World.size_alloc, hW] at this)
  have HVal := hide (val_any b m A L c d W1 hz hz2 (h1.keep b1) (h2.keep b1) (hK.keep b1))
  have HB1 := hide b1
  have HZ1 := hide hz1
  have HL1 := hide (h1.keep b1)
  have HL2 := hide (h2.keep b1)
  have HK1 := hide (hK.keep b1)
  have HT1 := hide (hT.keep b1)
  have HV := hide hv
  have HBB := hide hb
  have H66 := hide h66
  have HKn := hide hn
  have HAn := hide hn2
  have HKS := hide (show keysL m.kind = (keyS n).data.toList.map (fun c => (c.toNat : Int)) by rw [hn]; exact keys_list n1 n5)
  have HA := hide (keys_ascii n1 n5)
  have HM := hide (show ∀ x ∈ keysL m.kind, x ∈ [86, 73, 70, 79, 78, 83, 87, 80, 88, 74, 66] by rw [hn]; exact keys_mem n1 n5)
  have hfew : (keyS n).size ≤ 9 := keys_few
  have HF := hide (fun x hx => write_few m hl.1 hl.2 x hx)
  have HH1 := hide h1
  have HH2 := hide h2
  have HHT := hide hT
  clear a2
  clear b1 hz1 hbox hk hl ha a0 k1 k5 hz hz2 h1 h2 hK hT hb h66 hn hn2
  rw [hv] at HVal
  clear hv
  go_enter Tryz.func7, Tryz.ntmps7
  go_wp2_with (refine wpList_loadM (unhide HX1) rfl _ rfl rfl ?_)
  refine (unhide HVal).mono ?_
  rintro e w2 ⟨rfl, hb2⟩
  have hx2 : w2.heap[w.heap.size]? = some (msgO m A c L d) := by rw [hb2.block _ (by have := unhide HZ1; omega)]; exact unhide HX1
  have z0 : w2.cell? ⟨w.heap.size, 0, none⟩ = some (.int .i64 (n : Int)) := by rw [Lib.cell_of_heap hx2, ← unhide HKn]; rfl
  have z1 : w2.cell? ⟨w.heap.size, 1, none⟩ = some (.int .i64 (a : Int)) := by rw [Lib.cell_of_heap hx2, ← unhide HAn]; rfl
  have q0 := ((unhide HT1).keep hb2).words 0 n (by omega) (by omega)
  have q1 := ((unhide HT1).keep hb2).words 1 a (by omega) (by omega)
  simp only [Nat.zero_mul, Nat.zero_add, Nat.one_mul] at q0 q1
  have t1 : (0 : Int) ≤ (n : Int) := by omega
  have t2 : (n : Int) < 6 := by omega
  have t3 : (0 : Int) ≤ (a : Int) := by omega
  have t4 : (a : Int) < 6 := by omega
  have HX2 := hide hx2
  have HR2 := hide ((hb2.block (w.heap.size + 1) (by have := unhide HZ1; omega)).trans (unhide HR1))
  have HB2 := hide (onward (unhide HB1) hb2)
  have HL3 := hide ((unhide HL1).keep hb2)
  have HL4 := hide ((unhide HL2).keep hb2)
  have HK2 := hide ((unhide HK1).keep hb2)
  have HT2 := hide ((unhide HT1).keep hb2)
  have HZ2 := hide (show w.heap.size + 1 < w2.heap.size by have := hb2.size; have := unhide HZ1; omega)
  have z0a := fun o => alloc_cell z0 o
  have z1a := fun o => alloc_cell z1 o
  have q0a := fun o => alloc_cell q0 o
  have q1a := fun o => alloc_cell q1 o
  clear hb2 hx2
  go_wp2_with fail
  go_region
  obtain ⟨W3, hW3⟩ : ∃ W3 : World, (w2.alloc (.cells #[.string (wordS 0 (n : Int)), .string (wordS 1 (a : Int)), .slice none 0 0] 25)).drew = W3 := ⟨_, rfl⟩
  have tb3 := heap_alloc_new w2 (.cells #[.string (wordS 0 (n : Int)), .string (wordS 1 (a : Int)), .slice none 0 0] 25)
  have b3 := ((Below.refl w2.heap.size w2).alloc (Nat.le_refl _) (.cells #[.string (wordS 0 (n : Int)), .string (wordS 1 (a : Int)), .slice none 0 0] 25)).drew
  have hz3 : ((w2.alloc (.cells #[.string (wordS 0 (n : Int)), .string (wordS 1 (a : Int)), .slice none 0 0] 25)).drew).heap.size = w2.heap.size + 1 := World.size_alloc _ _
  have tb4 : ((w2.alloc (.cells #[.string (wordS 0 (n : Int)), .string (wordS 1 (a : Int)), .slice none 0 0] 25)).drew).heap[w2.heap.size]? = _ := tb3
  rw [hW3] at b3 hz3 tb4 ⊢
  clear hW3 tb3 z0a z1a q0a q1a q0 q1 t1 t2 t3 t4
  have y0 := kept b3 z0
  have qk := ((unhide HK2).keep b3) n (by omega)
  have t1 : (0 : Int) ≤ (n : Int) := by omega
  have t2 : (n : Int) < 6 := by omega
  generalize keyS n = s at *
  have HX3 := hide ((b3.block _ (by have := unhide HZ2; omega)).trans (unhide HX2))
  have HR3 := hide (show W3.heap[w.heap.size + 1]? = some (.cells #[.string ⟨#[]⟩, .string ⟨#[]⟩, .slice none 0 0] 25 (0, 0)) from (b3.block _ (unhide HZ2)).trans (unhide HR2))
  have HT3 := hide tb4
  have HB3 := hide ((unhide HB2).trans (b3.mono (unhide HB2).size))
  have HZ3 := hide hz3
  have HS := hide (show ∀ (k : Nat) (xs : List ElS), xs.map (·.1) = ((keysL m.kind).take k).flatMap (elsK m) → (keysL m.kind).length ≤ k → xs.map (·.1) = (encT m).els from fun k xs h hk => by rw [h, List.take_of_length_le hk]; rfl)
  clear b3 z0 z1 tb4 hz3
  go_wp2
  go_loopw [7] (fun _ wr => ∃ (k : Nat) (xs : List ElS) (A' : Option Addr) (c' : Nat), k ≤ s.size ∧ Hid (xs.map (·.1) = ((keysL m.kind).take k).flatMap (elsK m)) ∧ xs.length ≤ 40 * k ∧ Enc w b (W3.heap.size + 1) w.heap.size W3.heap.size w2.heap.size (w.heap.size + 1) (msgL m A c L d) s k (wordS 0 (n : Int)) (wordS 1 (a : Int)) A' c' xs wr) (fun _ wr => s.size - wr.iterPos W3.heap.size)
  case atStart =>
    have z2 := unhide HZ2
    have z3 := unhide HZ3
    have zb := (unhide HB3).size
    have zz := (unhide HBB)
    have bI := (Below.refl W3.heap.size W3).alloc (Nat.le_refl _) (.stringIter s 0)
    exact ⟨0, [], none, 0, Nat.zero_le _, Lib.hid rfl, Nat.zero_le _, onward (unhide HB3) bI, (bI.block _ (by omega)).trans (unhide HX3), World.iter_heap _ _ _, (bI.block _ (by omega)).trans (unhide HT3), (bI.block _ (by omega)).trans (unhide HR3), World.ownsRow_nil _ _ _ _, (fun _ h => by cases h), by show W3.heap.size + 1 ≤ (W3.alloc (.stringIter s 0)).heap.size; rw [World.size_alloc]; omega, by omega, zb, by omega, by omega, by omega, by omega, by omega, by omega, by omega⟩
  case round =>
    obtain ⟨k, xs, A', c', hk, hd, hxl, hE⟩ := hrel
    obtain ⟨wo, rfl⟩ : ∃ wo : World, wo = wr := ⟨_, rfl⟩
    have hit := hE.it
    have hpos : wo.iterPos W3.heap.size = k := by unfold World.iterPos; rw [hit]
    have HP0 := hide hpos
    have HE := hide hE
    clear hE hpos
    by_cases hlt : k < s.size
    · have ha : (s[k]'hlt).toNat < 128 := unhide HA _ (by rw [← byte_at hlt, at_k (by simpa using hlt)]; exact List.getElem_mem _)
      have hnx : ∀ ty, (Instr.next (.pointer (some ⟨W3.heap.size, 0, none⟩)) true ty).run Tryz.prog wo = _ := fun ty => Lib.run_next_ascii_at wo W3.heap.size s k ty hit hlt ha
      have hEa := (unhide HE).next (k + 1)
      obtain ⟨wa, hwa⟩ : ∃ wa : World, wo.iterAt W3.heap.size s (k + 1) = wa := ⟨_, rfl⟩
      rw [hwa] at hEa
      have hlen : k < (keysL m.kind).length := by rw [unhide HKS, List.length_map, size_list]; exact hlt
      have hat : (keysL m.kind).getD k 0 = ((s[k]'hlt).toNat : Int) := by
        rw [unhide HKS, at_k (by rw [List.length_map, size_list]; exact hlt), List.getElem_map]
        rw [← byte_at hlt, at_k (by rw [size_list]; exact hlt)]
      have hmem : ((s[k]'hlt).toNat : Int) ∈ keysL m.kind := by rw [← hat, at_k hlen]; exact List.getElem_mem _
      have HTk := hide (els_take hlen hat)
      have HMem := hide hmem
      have HXA := hide hEa.mb
      have HEA := hide hEa
      have HBa := hide hEa.bel
      clear hit hlen hat hmem ha hEa
      generalize ((s[k]'hlt).toNat : Int) = x at *
      have henc := key_one (unhide HM _ (unhide HMem))
      have hfw := unhide HF _ (unhide HM _ (unhide HMem))
      have HWr := hide (wr_any b m A L c d wa (Nat.lt_of_lt_of_le (unhide HBB) (unhide HBa).size) ((unhide HHT).keep (unhide HBa)) (unhide HV) ((unhide HH1).keep (unhide HBa)) x (unhide HMem) (fun e => unhide H66 wa ((unhide HHT).keep (unhide HBa)) (Nat.lt_of_lt_of_le (unhide HBB) (unhide HBa).size) ((unhide HH2).keep (unhide HBa)) (by rw [← e]; exact unhide HMem)))
      generalize writeP m x = pss at *
      have HEnc := hide henc
      clear henc
      go_wp2_with (refine wpList_loadM (unhide HXA) rfl _ rfl rfl ?_)
      refine (unhide HWr).mono ?_
      rintro e w5 ⟨A2, c2, rfl, hp2, hb2⟩
      have HE5 := hide ((unhide HEA).below hb2)
      have HP5 := hide hp2
      clear hp2 hb2 hwa
      go_wp2_with fail
      go_loopw [39] (fun j wr => ∃ (q : Nat) (ys : List ElS) (A' : Option Addr) (c' : Nat), q ≤ pss.length ∧ j = .int .i64 q ∧ Hid (ys.map (·.1) = xs.map (·.1) ++ (pss.take q).map fun ps => (one x, ps)) ∧ ys.length ≤ 40 * k + q ∧ Enc w b (W3.heap.size + 1) w.heap.size W3.heap.size w2.heap.size (w.heap.size + 1) (msgL m A c L d) s (k + 1) (wordS 0 (n : Int)) (wordS 1 (a : Int)) A' c' ys wr ∧ PartsIn b wr A2 pss) (fun j _ => pss.length - (intOf j).toNat)
      case atStart => exact ⟨0, xs, A', c', Nat.zero_le _, rfl, Lib.hid (by simp), hxl, unhide HE5, unhide HP5⟩
      case round =>
        obtain ⟨q, ys, A4, c4, hq, rfl, hyd, hyl, hEi, hpp⟩ := hrel
        obtain ⟨wi, rfl⟩ : ∃ wi : World, wi = wr := ⟨_, rfl⟩
        have HEi := hide hEi
        have HPP := hide hpp
        clear hEi hpp HE HXA HEA HBa HWr HE5 HP5
        by_cases hql : q < pss.length
        · obtain ⟨g, cs, fz, rfl, hgb, hgg, hcc⟩ := unhide HPP (by omega)
          obtain ⟨A3, c3, e0, hstr⟩ := hcc q hql
          have p0 : wi.cell? ⟨g, q, none⟩ = some (.slice A3 (pss.getD q []).length c3) := by rw [Lib.cell_of_heap hgg]; exact e0
          have ql : (q : Int) < (pss.length : Int) := by omega
          have HS1 := hide (show ∀ z : ElS, z.1 = (one x, pss.getD q []) → (ys ++ [z]).map (·.1) = xs.map (·.1) ++ (pss.take (q + 1)).map (fun ps => (one x, ps)) from fun z e => by
            rw [List.map_append, unhide hyd, List.take_succ_eq_append_getElem hql, List.map_append, at_k hql] at *
            simp [e])
          have HStr := hide hstr
          have HPQ := hide (unhide HPP)
          clear hcc e0 hstr hgg HPP
          generalize pss.getD q [] = ps at *
          have t2c : wi.cell? ⟨w2.heap.size, 2, none⟩ = some (.slice A4 ys.length c4) := by rw [Lib.cell_of_heap (unhide HEi).tb]; rfl
          have tf : wi.frozen? ⟨w2.heap.size, 2, none⟩ = false := Lib.frozen_of_heap (unhide HEi).tb 2
          have bq := (Below.refl wi.heap.size wi).alloc (Nat.le_refl _) (.cells #[.string (one x), .slice A3 ps.length c3] 55)
          have HE6 := hide ((unhide HEi).below bq)
          have HQ6 := hide ((unhide HPQ).keep bq)
          have HS6 := hide ((unhide HStr).step (KeepS.below (b := b) bq))
          have henc := unhide HEnc
          have hown6 := hide (unhide HE6).own
          have hsz6 := (unhide HE6).sz
          have hyk : ys.length ≤ 1000 := by omega
          clear bq
          go_wp2_with (at_builtin; refine wpList_append_lies _ rfl _ _ 23 rfl (W3.heap.size + 1) 55 i2 (.agg #[.string ByteArray.empty, .slice none 0 0]) 2 40 Tryz.underlying23 (unhide KI0) (unhide KZ0) (unhide KZ1) (unhide KZ2) rfl (by decide) _ _ _ rfl (unhide hown6) ⟨wi.heap.size, 0, none⟩ 1 1 [.string (one x), .slice A3 ps.length c3] rfl rfl (World.news_of_block (heap_alloc_new wi _)) (by
              intro u hu
              simp at hu
              rcases hu with rfl | rfl <;> rfl) (by omega) (by unfold maxLen; omega) (by omega) hsz6 _ rfl ?_)
          intro g7 cap w7 hown7 hgrow hat hlt7
          have hT7 := (hgrow.block w2.heap.size (Nat.lt_of_lt_of_le (unhide HE6).hT (unhide HE6).sz) (own_ne (unhide HE6).own (unhide HE6).tb (by decide))).trans (unhide HE6).tb
          have t27 := Lib.cell_of_heap hT7 2
          have tf7 := Lib.frozen_of_heap hT7 2
          have HE8 := hide ((unhide HE6).push (x := ((one x, ps), A3, c3)) (unhide HS6) hown7 hgrow)
          have HQ8 := hide ((unhide HQ6).step ((unhide HE6).pushes (g := g7) (cap := cap) (n := ys.length + 1) (by decide) (by decide) hgrow) ((unhide HE6).pushes (g := g7) (cap := cap) (n := ys.length + 1) (by decide) (by decide) hgrow))
          clear hown7 hgrow hat hlt7 hT7
          go_wp2
          go_roundw
          case rel =>
            exact ⟨q + 1, ys ++ [((one x, ps), A3, c3)], some ⟨g7, 0, none⟩, cap, by omega, by go_num, Lib.hid (unhide HS1 _ rfl), by rw [List.length_append, List.length_singleton]; omega, unhide HE8, unhide HQ8⟩
          case measure => simp [intOf]; omega
        · have ql : ¬ (q : Int) < (pss.length : Int) := by omega
          have HYD := hide (show ys.map (·.1) = ((keysL m.kind).take (k + 1)).flatMap (elsK m) by rw [unhide HTk, ← unhide hd, unhide hyd, List.take_of_length_le (by omega)])
          have hyk : ys.length ≤ 40 * (k + 1) := by omega
          go_wp2
          go_roundw
          case rel => exact ⟨k + 1, ys, A4, c4, by omega, unhide HYD, hyk, unhide HEi⟩
          case measure =>
            have e2 : wi.iterPos W3.heap.size = k + 1 := by unfold World.iterPos; rw [(unhide HEi).it]
            rw [e2, unhide HP0]; omega
    · have hnx : ∀ ty, (Instr.next (.pointer (some ⟨W3.heap.size, 0, none⟩)) true ty).run Tryz.prog wo = _ := fun ty => Lib.run_next_end_at wo W3.heap.size s k ty hit hlt
      have HEnd := hide (show xs.map (·.1) = (encT m).els from unhide HS k xs (unhide hd) (by rw [unhide HKS, List.length_map, size_list]; omega))
      have t0 : wo.cell? ⟨w2.heap.size, 0, none⟩ = some (.string (wordS 0 (n : Int))) := by rw [Lib.cell_of_heap (unhide HE).tb]; rfl
      have t1c : wo.cell? ⟨w2.heap.size, 1, none⟩ = some (.string (wordS 1 (a : Int))) := by rw [Lib.cell_of_heap (unhide HE).tb]; rfl
      have t2c : wo.cell? ⟨w2.heap.size, 2, none⟩ = some (.slice A' xs.length c') := by rw [Lib.cell_of_heap (unhide HE).tb]; rfl
      have r0 := Lib.cell_of_heap (unhide HE).rb 0
      have r1 := Lib.cell_of_heap (unhide HE).rb 1
      have r2 := Lib.cell_of_heap (unhide HE).rb 2
      have f0 := Lib.frozen_of_heap (unhide HE).rb 0
      have f1 := Lib.frozen_of_heap (unhide HE).rb 1
      have f2 := Lib.frozen_of_heap (unhide HE).rb 2
      clear hit
      go_wp2
      refine bodyPost_ret (v := .tuple #[.agg #[.string (wordS 0 (n : Int)), .string (wordS 1 (a : Int)), .slice A' xs.length c'], .int .i64 0]) (by simp [results, Tryz.results7, go_sem, r0, r1, r2]) rfl ?_
      have hl := congrArg List.length (unhide HEnd)
      rw [List.length_map] at hl
      have hbel := (unhide HE).bel
      have hels := (unhide HE).done (Lib.grownBy_setB (Lib.grownBy_setB (Lib.grownBy_setB (World.grownBy.refl wo (some (w.heap.size + 1))) 0 (.string (wordS 0 (n : Int)))) 1 (.string (wordS 1 (a : Int)))) 2 (.slice A' xs.length c'))
      rw [unhide HEnd] at hels
      have b3 := ((hbel.setCell (p := ⟨w.heap.size + 1, 0, none⟩) (Nat.le_succ _) (.string (wordS 0 (n : Int)))).setCell (p := ⟨w.heap.size + 1, 1, none⟩) (Nat.le_succ _) (.string (wordS 1 (a : Int)))).setCell (p := ⟨w.heap.size + 1, 2, none⟩) (Nat.le_succ _) (.slice A' xs.length c')
      refine ⟨A', c', by rw [← hl, unhide HKn, unhide HAn]; rfl, hels, b3⟩

set_option maxHeartbeats 4000000 in
set_option maxRecDepth 100000 in
theorem enc_bad (b : Nat) (m : Msg) (A L : Option Addr) (c d : Nat) (w : World) (hz : m.onw.length ≤ 1000000000) (hz2 : m.lst.length ≤ 1000000000) (h1 : LegsIn b w A m.onw) (h2 : NumsIn b w L m.lst) (hK : Keys w) (hv : valE m ≠ 0) :
    Calls Tryz.prog 7 #[msgV m A c L d] w fun e w' => e = .returned (.tuple #[.agg #[.string ⟨#[]⟩, .string ⟨#[]⟩, .slice none 0 0], .int .i64 (valE m)]) ∧ Below w.heap.size w w' := by
  obtain ⟨W1, hW⟩ : ∃ W1 : World, (w.alloc (msgO m A c L d)).alloc (.cells #[.string ⟨#[]⟩, .string ⟨#[]⟩, .slice none 0 0] 25) = W1 := ⟨_, rfl⟩
  have b1 : Below w.heap.size w W1 := by rw [← hW]; exact below_new ((Below.refl _ _).alloc (Nat.le_refl _) _) _
  have hz1 : W1.heap.size = w.heap.size + 1 + 1 := by rw [← hW, World.size_alloc, World.size_alloc]
  have hbox : W1.heap[w.heap.size]? = some (msgO m A c L d) := by rw [← hW, Below.heap_alloc _ _ _ (by rw [World.size_alloc]; omega)]; exact heap_alloc_new w _
  have HX1 := hide hbox
  have HR1 := hide (show W1.heap[w.heap.size + 1]? = some (.cells #[.string ⟨#[]⟩, .string ⟨#[]⟩, .slice none 0 0] 25 (0, 0)) by
    have := heap_alloc_new (w.alloc (msgO m A c L d)) (.cells #[.string ⟨#[]⟩, .string ⟨#[]⟩, .slice none 0 0] 25)
    rwa [World.size_alloc, hW] at this)
  have HVal := hide (val_any b m A L c d W1 hz hz2 (h1.keep b1) (h2.keep b1) (hK.keep b1))
  have HB1 := hide b1
  have HZ1 := hide hz1
  have ht : (valE m != 0) = true := by rw [bne_iff_ne]; exact hv
  clear b1 hz1 hbox hz hz2 h1 h2 hK hv
  generalize valE m = ev at *
  go_enter Tryz.func7, Tryz.ntmps7
  go_wp2_with (refine wpList_loadM (unhide HX1) rfl _ rfl rfl ?_)
  refine (unhide HVal).mono ?_
  rintro e w2 ⟨rfl, hb2⟩
  have hr2 := (hb2.block (w.heap.size + 1) (by have := unhide HZ1; omega)).trans (unhide HR1)
  have r0 := Lib.cell_of_heap hr2 0
  have r1 := Lib.cell_of_heap hr2 1
  have r2 := Lib.cell_of_heap hr2 2
  have f0 := Lib.frozen_of_heap hr2 0
  have f1 := Lib.frozen_of_heap hr2 1
  have f2 := Lib.frozen_of_heap hr2 2
  have HB2 := hide (onward (unhide HB1) hb2)
  clear hb2 hr2
  go_wp2
  refine bodyPost_ret (v := .tuple #[.agg #[.string ⟨#[]⟩, .string ⟨#[]⟩, .slice none 0 0], .int .i64 ev]) (by simp [results, Tryz.results7, go_sem, r0, r1, r2]) rfl ⟨rfl, ?_⟩
  exact (((unhide HB2).setCell (p := ⟨w.heap.size + 1, 0, none⟩) (Nat.le_succ _) _).setCell (p := ⟨w.heap.size + 1, 1, none⟩) (Nat.le_succ _) _).setCell (p := ⟨w.heap.size + 1, 2, none⟩) (Nat.le_succ _) _
end Go.Proofs.YtglgobmmmghdoaaGreatDoor
