/-
  InboxConflicts: the mathematics, and what is kept while its walk goes on.
-/
import Derived.Test.YtcjdjdganaokfaaDoorInbR
import Derived.Test.YtcjdjdganaokfaaDoorInbZ

/- InbAC: The mathematics of InboxConflicts: a message with another number, another content; the verdicts. -/
namespace Go.Proofs.YtcjdjdganaokfaaDoor
open Go.RowKit

/-- A message with another number. -/
def numd (m : Msg) (n : Int) : Msg := { m with num := n }
theorem ownM_num (m : Msg) (n : Int) : ownM (numd m n) = numd (ownM m) n := by
  unfold numd
  by_cases h1 : m.kind = 1
  · simp [ownM, h1]
  · by_cases h2 : m.kind = 2
    · simp [ownM, h2]
    · by_cases h3 : m.kind = 3
      · simp [ownM, h3]
      · by_cases h4 : m.kind = 4
        · simp [ownM, h4]
        · by_cases h5 : m.kind = 5
          · simp [ownM, h5]
          · simp [ownM, h1, h2, h3, h4, h5]
theorem valE_num {m : Msg} {n : Int} (h : valE m = 0) (h1 : 1 ≤ n) (h2 : n ≤ 9999) : valE (numd m n) = 0 := by
  obtain ⟨a1, a2, a3, a4, a5, a6, a7⟩ := valE_ok.1 h
  refine valE_ok.2 ⟨a1, ?_, a3, a4, a5, ?_, a7⟩
  · rw [ownM_num, ← a2]
  · refine List.all_eq_true.2 fun key hk => ?_
    have a := List.all_eq_true.1 a6 key hk
    unfold rangB at a ⊢
    by_cases e : key = 86
    · rw [if_pos e]; exact inB_iff.2 ⟨h1, h2⟩
    · rw [if_neg e] at a ⊢; exact a
/-- The other content: of a list of passengers the first one less (or one, if there is none); else another count. -/
def tlL : List Int → List Int
  | [] => [7]
  | _ :: l => l
def cntd (m : Msg) (c : Int) : Msg := { m with cnt := c }
def lstd (m : Msg) (l : List Int) : Msg := { m with lst := l }
theorem kind_cases {m : Msg} (h : kindB m = true) : m.kind = 1 ∨ m.kind = 2 ∨ m.kind = 3 ∨ m.kind = 4 ∨ m.kind = 5 := by
  have := inB_iff.1 h
  omega
theorem ownM_cnt (m : Msg) (c : Int) (h : kindB m = true) (h5 : m.kind ≠ 5) : ownM (cntd m c) = cntd (ownM m) c := by
  unfold cntd
  rcases kind_cases h with e | e | e | e | e
  · simp [ownM, e]
  · simp [ownM, e]
  · simp [ownM, e]
  · simp [ownM, e]
  · exact absurd e h5
theorem valE_cnt {m : Msg} {c : Int} (h : valE m = 0) (h5 : m.kind ≠ 5) (h1 : 1 ≤ c) (h2 : c ≤ 99) : valE (cntd m c) = 0 := by
  obtain ⟨a1, a2, a3, a4, a5, a6, a7⟩ := valE_ok.1 h
  refine valE_ok.2 ⟨a1, ?_, a3, a4, a5, ?_, a7⟩
  · rw [ownM_cnt m c a1 h5, ← a2]
  · refine List.all_eq_true.2 fun key hk => ?_
    have a := List.all_eq_true.1 a6 key hk
    unfold rangB at a ⊢
    by_cases e : key = 86
    · rw [if_pos e] at a ⊢; exact a
    · rw [if_neg e] at a ⊢
      by_cases e2 : key = 78
      · rw [if_pos e2] at a ⊢
        rw [Bool.and_eq_true] at a ⊢
        exact ⟨a.1, inB_iff.2 ⟨h1, h2⟩⟩
      · rw [if_neg e2] at a ⊢; exact a
theorem valE_lst {m : Msg} {l : List Int} (h : valE m = 0) (h5 : m.kind = 5) (h1 : l.length ≤ 40) (h2 : l.all seqB = true) (h3 : ascB l = true) : valE (lstd m l) = 0 := by
  obtain ⟨a1, a2, a3, a4, a5, a6, _⟩ := valE_ok.1 h
  refine valE_ok.2 ⟨a1, ?_, ?_, a4, a5, ?_, h3⟩
  · have e : ownM (lstd m l) = lstd (ownM m) l := by unfold lstd; simp [ownM, h5]
    rw [e, ← a2]
  · unfold limB at a3 ⊢
    rw [Bool.and_eq_true] at a3 ⊢
    exact ⟨a3.1, decide_eq_true h1⟩
  · refine List.all_eq_true.2 fun key hk => ?_
    have a := List.all_eq_true.1 a6 key hk
    by_cases e : key = 66
    · subst e; exact h2
    · unfold rangB at a ⊢
      by_cases e1 : key = 86
      · rw [if_pos e1] at a ⊢; exact a
      · rw [if_neg e1] at a ⊢
        by_cases e2 : key = 78
        · rw [if_pos e2] at a ⊢; exact a
        · rw [if_neg e2] at a ⊢
          by_cases e3 : key = 83
          · rw [if_pos e3] at a ⊢; exact a
          · rw [if_neg e3] at a ⊢
            by_cases e4 : key = 87
            · rw [if_pos e4] at a ⊢; exact a
            · rw [if_neg e4] at a ⊢
              by_cases e5 : key = 88
              · rw [if_pos e5] at a ⊢; exact a
              · rw [if_neg e5, if_neg e]
theorem ascB_tl : ∀ {l : List Int}, ascB l = true → ascB (tlL l) = true
  | [], _ => rfl
  | [_], _ => rfl
  | _ :: _ :: _, h => ((Bool.and_eq_true _ _).mp h).2
theorem valE_tl {m : Msg} (h : valE m = 0) (h5 : m.kind = 5) : valE (lstd m (tlL m.lst)) = 0 := by
  obtain ⟨_, _, a3, _, _, a6, a7⟩ := valE_ok.1 h
  have hs : m.lst.all seqB = true := by
    have := List.all_eq_true.1 a6 66 (by rw [h5]; decide)
    exact this
  unfold limB at a3
  rw [Bool.and_eq_true] at a3
  have hl := of_decide_eq_true a3.2
  refine valE_lst h h5 ?_ ?_ (ascB_tl a7)
  · cases hc : m.lst with
    | nil => show (1 : Nat) ≤ 40; omega
    | cons x l => rw [hc, List.length_cons] at hl; show l.length ≤ 40; omega
  · cases hc : m.lst with
    | nil => rfl
    | cons x l => rw [hc, List.all_cons, Bool.and_eq_true] at hs; exact hs.2
theorem cnt_range {m : Msg} (h : valE m = 0) (h5 : m.kind ≠ 5) : 1 ≤ m.cnt ∧ m.cnt ≤ 99 := by
  obtain ⟨a1, _, _, _, _, a6, _⟩ := valE_ok.1 h
  have := List.all_eq_true.1 a6 78 (by rcases kind_cases a1 with e | e | e | e | e <;> first | (rw [e]; decide) | exact absurd e h5)
  have h2 : (vld m.pl m.pa m.ps && inB m.cnt 1 99) = true := this
  rw [Bool.and_eq_true] at h2
  exact inB_iff.1 h2.2
/-- What the second message is: valid, of the same port and number, of other content. -/
structure Other (m o : Msg) : Prop where
  val : valE o = 0
  port : o.port = m.port
  num : o.num = m.num
  ne : m ≠ o
theorem other_cnt {m : Msg} {n : Int} (h : valE m = 0) (h5 : m.kind ≠ 5) (h1 : 1 ≤ n) (h2 : n ≤ 9999) : Other (numd m n) (cntd (numd m n) (m.cnt % 3 + 1)) := by
  have hc := cnt_range h h5
  refine ⟨valE_cnt (valE_num h h1 h2) h5 (by omega) (by omega), rfl, rfl, fun e => ?_⟩
  have := congrArg Msg.cnt e
  have e2 : m.cnt = m.cnt % 3 + 1 := this
  omega
theorem other_lst {m : Msg} {n : Int} (h : valE m = 0) (h5 : m.kind = 5) (h1 : 1 ≤ n) (h2 : n ≤ 9999) : Other (numd m n) (lstd (numd m n) (tlL m.lst)) := by
  refine ⟨valE_tl (m := numd m n) (valE_num h h1 h2) h5, rfl, rfl, fun e => ?_⟩
  have e2 : m.lst = tlL m.lst := congrArg Msg.lst e
  have e3 := congrArg List.length e2
  cases hc : m.lst with
  | nil => rw [hc] at e3; cases e3
  | cons x l => rw [hc] at e3; simp [tlL] at e3
/-- The sender that holds one message. -/
def s1 (m : Msg) : Snd := ⟨m.port, 1, [m]⟩
theorem vrd_1 {m : Msg} (h1 : 2 ≤ m.num) (h2 : m.num ≤ 8) : vrdM (curS m.port none) 8 m = 2 := by
  unfold vrdM
  have e : hasF (numM m.num) (curS m.port none).held = false := rfl
  have e2 : (curS m.port none).next = 1 := rfl
  rw [e, e2, if_neg (by omega), if_neg (by omega), if_neg Bool.false_ne_true, if_pos (by omega)]
theorem nxt_1 {m : Msg} (h1 : 2 ≤ m.num) (h2 : m.num ≤ 8) : nxtS m.port none 8 m = some (s1 m) ∧ outS m.port none 8 m = [] := by
  have hv := vrd_1 h1 h2
  have hH : rcvH (curS m.port none) m = [m] := rfl
  have hK : rcvK (curS m.port none) m = 0 := by
    unfold rcvK
    rw [hH]
    show relN 1 [m] = 0
    unfold relN
    rw [if_neg (by omega)]
  unfold nxtS outS
  rw [if_pos (Or.inr hv), if_pos (Or.inr hv)]
  unfold rcvS rcvO
  rw [hK, hH]
  exact ⟨rfl, rfl⟩
theorem at_1 {m o : Msg} (h : o.num = m.num) : lbF (numM o.num) [m] = 0 ∧ hasF (numM o.num) [m] = true := by
  have e : numM o.num m = 0 := numM_zero.2 h.symm
  have hl : lbF (numM o.num) [m] = 0 := by unfold lbF; rw [List.takeWhile_cons_of_neg (by rw [e]; decide)]; rfl
  refine ⟨hl, ?_⟩
  unfold hasF
  rw [hl]
  show decide (numM o.num m = 0) = true
  rw [e]; rfl
theorem vrd_s1 {m o : Msg} (h1 : 2 ≤ m.num) (h2 : m.num ≤ 8) (h : o.num = m.num) : vrdM (s1 m) 8 o = if sameM m o then 3 else 5 := by
  obtain ⟨hl, hh⟩ := at_1 h
  unfold vrdM
  have e2 : (s1 m).next = 1 := rfl
  have e3 : (s1 m).held = [m] := rfl
  rw [e2, e3, if_neg (by omega), if_neg (by omega), hl, hh, if_pos rfl]
  rfl
theorem vrd_2 {m o : Msg} (h1 : 2 ≤ m.num) (h2 : m.num ≤ 8) (h : Other m o) : vrdM (s1 m) 8 o = 5 := by
  rw [vrd_s1 h1 h2 h.num]
  unfold sameM
  rw [decide_eq_false h.ne, if_neg Bool.false_ne_true]
theorem vrd_3 {m : Msg} (h1 : 2 ≤ m.num) (h2 : m.num ≤ 8) : vrdM (s1 m) 8 m = 3 := by
  rw [vrd_s1 h1 h2 rfl]
  unfold sameM
  rw [decide_eq_true rfl, if_pos rfl]
theorem nxt_keep {p : ByteArray} {s : Snd} {m : Msg} {win : Int} (h : vrdM s win m = 3 ∨ vrdM s win m = 5) : nxtS p (some s) win m = some s ∧ outS p (some s) win m = [] := by
  have hn : ¬ (vrdM (curS p (some s)) win m = 1 ∨ vrdM (curS p (some s)) win m = 2) := by
    show ¬ (vrdM s win m = 1 ∨ vrdM s win m = 2)
    omega
  unfold nxtS outS
  rw [if_neg hn, if_neg hn]
  exact ⟨rfl, rfl⟩
theorem one_s1 {m : Msg} (h : m.onw.length ≤ 1000 ∧ m.lst.length ≤ 1000) (hp : Lib.compareBytes m.port.data.toList m.port.data.toList = 0) : One m.port (some (s1 m)) where
  port := rfl
  few := fun x hx => by rw [List.mem_singleton.1 (show x ∈ [m] from hx)]; exact h
  len := by show (1 : Nat) ≤ 100; omega
  asc := List.pairwise_singleton _ _
  n1 := by show (1 : Int) ≤ 1; omega
  n2 := by show (1 : Int) ≤ 1000; omega
  self := hp
end Go.Proofs.YtcjdjdganaokfaaDoor

/- InbAD: InboxConflicts: what is kept while its walk goes on; Receive at the first message, at the other one, at the first again; a copy of a list of numbers. -/
namespace Go.Proofs.YtcjdjdganaokfaaDoor
open Go.RowKit

/-- A cell that is written with what it holds. -/
theorem setCell_self {w : World} {g i : Nat} {xs : Array Value} {t : TypeId} {fz : Nat × Nat} {v : Value} (h : w.heap[g]? = some (.cells xs t fz)) (hx : xs[i]? = some v) : w.setCell ⟨g, i, none⟩ v = w := by
  have hs : xs.setIfInBounds i v = xs := by
    apply Array.ext_getElem?
    intro k
    rw [Array.getElem?_setIfInBounds]
    split
    · rename_i e
      subst e
      rw [hx]
      have := (Array.getElem?_eq_some_iff.1 hx).1
      rw [if_pos this]
    · rfl
  have key : ∀ f : Obj → Obj, f (.cells xs t fz) = .cells xs t fz → { w with heap := w.heap.modify g f } = w := fun f hf => by
    have hm : w.heap.modify g f = w.heap := by
      apply Array.ext_getElem?
      intro k
      rw [Array.getElem?_modify]
      split
      · rename_i e
        subst e
        rw [h]
        show some (f (Obj.cells xs t fz)) = _
        rw [hf]
      · rfl
    rw [hm]
  refine key _ ?_
  show Obj.cells (xs.setIfInBounds i v) t fz = _
  rw [hs]
theorem LegsIn.turnL {b g : Nat} {W W' : World} {A : Option Addr} {l : List Lg} (h : LegsIn b W A l) (hg : LegsIn g W A l) (hgr : W.grownBy W' (some g)) : LegsIn b W' A l := (hg.grown hgr).merge h
theorem NumsIn.turnN {b g : Nat} {W W' : World} {A : Option Addr} {l : List Int} (h : NumsIn b W A l) (hg : NumsIn g W A l) (hgr : W.grownBy W' (some g)) : NumsIn b W' A l := (hg.grown hgr).merge h
theorem MsS.Lies.on {b : Nat} {W W' : World} {x : MsS} (h : x.Lies b W) (hb : Below W.heap.size W W') : x.Lies b W' := ⟨h.1.keep hb, h.2.keep hb⟩

/-- The boxes of the inbox and of the first message, the other one's still to be changed. -/
structure Cs (w0 : World) (X M O : Nat) (x : MsS) (W : World) : Prop where
  l1 : w0.heap.size ≤ X
  l2 : X < M
  l3 : M < O
  bx : W.heap[X]? = some (ibO 8 none 0 0)
  bm : W.heap[M]? = some (.cells x.arr 32 (0, 0))
  lt : O < W.heap.size
  lm : ∀ b, In3 X M O b → x.Lies b W
  bel : Below w0.heap.size w0 W
structure Cf (w0 : World) (X M O : Nat) (x y : MsS) (A : Option Addr) (c : Nat) (ss : List SnS) (W : World) : Prop where
  l1 : w0.heap.size ≤ X
  l2 : X < M
  l3 : M < O
  bx : W.heap[X]? = some (ibO 8 A ss.length c)
  bm : W.heap[M]? = some (.cells x.arr 32 (0, 0))
  bo : W.heap[O]? = some (.cells y.arr 32 (0, 0))
  lm : ∀ b, In3 X M O b → x.Lies b W
  lo : ∀ b, In3 X M O b → y.Lies b W
  ins : ∀ b, In3 X M O b → SndsIn b W A ss
  bel : Below w0.heap.size w0 W
theorem cs_mk {w0 w4 W4 W5 W6 : World} {X : Nat} {x : MsS} (hB4 : Below w0.heap.size w0 w4) (hXl : X < w4.heap.size) (hX4 : w4.heap[X]? = some (ibO 8 none 0 0)) (h0 : w0.heap.size ≤ X) (hl : LegsIn X w4 x.P x.m.onw) (hn : NumsIn X w4 x.Q x.m.lst)
    (b4 : Below w4.heap.size w4 W4) (hg5 : W4.grownBy W5 (some w4.heap.size)) (b6 : Below W5.heap.size W5 W6) (hM6 : W6.heap[w4.heap.size]? = some (.cells x.arr 32 (0, 0))) (hMl : w4.heap.size < W5.heap.size) (hOl : W5.heap.size < W6.heap.size) :
    Cs w0 X w4.heap.size W5.heap.size x W6 := by
  have l4 := (hl.other (Nat.le_refl w4.heap.size)).keep b4
  have n4 := (hn.other (Nat.le_refl w4.heap.size)).keep b4
  have lX := (hl.keep b4).turnL l4 hg5
  have nX := (hn.keep b4).turnN n4 hg5
  have h45 := b4.size
  have h56 := hg5.size
  refine ⟨h0, hXl, hMl, ?_, hM6, hOl, fun b hb => ?_, ?_⟩
  · exact (b6.block X (by omega)).trans ((hg5.block X (by omega) (by simp; omega)).trans ((b4.block X hXl).trans hX4))
  · rcases hb with rfl | rfl | rfl
    · exact ⟨lX.keep b6, nX.keep b6⟩
    · exact ⟨(l4.grown hg5).keep b6, (n4.grown hg5).keep b6⟩
    · exact ⟨(lX.other (Nat.le_refl _)).keep b6, (nX.other (Nat.le_refl _)).keep b6⟩
  · have hb := (onward hB4 b4).grown hg5 (by have := hB4.size; omega) (fun k e => by injection e with e; have := hB4.size; omega)
    exact onward hb b6
section
variable {w0 : World} {X M O : Nat} {x y : MsS} {A : Option Addr} {c : Nat} {ss : List SnS} {W W' : World}
theorem Cs.drew (h : Cs w0 X M O x W) : Cs w0 X M O x W.drew :=
  ⟨h.l1, h.l2, h.l3, h.bx, h.bm, h.lt, fun b hb => (h.lm b hb).on (Below.refl _ _).drew, h.bel.drew⟩
theorem Cs.make (h : Cs w0 X M O x W) (hg : W.grownBy W' (some O)) (hO : W'.heap[O]? = some (.cells y.arr 32 (0, 0))) (hy : ∀ b, In3 X M O b → y.Lies b W') : Cf w0 X M O x y none 0 [] W' := by
  have h1 := h.l1
  have h2 := h.l2
  have h3 := h.l3
  have h4 := h.lt
  exact ⟨h1, h2, h3, (hg.block X (by omega) (by simp; omega)).trans h.bx, (hg.block M (by omega) (by simp; omega)).trans h.bm, hO, fun b hb => (h.lm b hb).turn (h.lm O (Or.inr (Or.inr rfl))) hg, hy, fun _ _ => SndsIn.nil _ _ _,
    h.bel.grown hg h.bel.size (fun k e => by injection e with e; omega)⟩
theorem Cs.below (h : Cs w0 X M O x W) (hb : Below W.heap.size W W') : Cs w0 X M O x W' := by
  have h2 := h.l2
  have h3 := h.l3
  have h4 := h.lt
  exact ⟨h.l1, h2, h3, (hb.block X (by omega)).trans h.bx, (hb.block M (by omega)).trans h.bm, Nat.lt_of_lt_of_le h4 hb.size, fun b hb' => (h.lm b hb').on hb, onward h.bel hb⟩
theorem Cs.ltb (h : Cs w0 X M O x W) : ∀ b, In3 X M O b → b < W.heap.size := fun b hb => by
  have h2 := h.l2
  have h3 := h.l3
  have h4 := h.lt
  rcases hb with rfl | rfl | rfl <;> omega
theorem Cs.turnO (h : Cs w0 X M O x W) (hg : W.grownBy W' (some O)) : Cs w0 X M O x W' := by
  have h1 := h.l1
  have h2 := h.l2
  have h3 := h.l3
  have h4 := h.lt
  exact ⟨h1, h2, h3, (hg.block X (by omega) (by simp; omega)).trans h.bx, (hg.block M (by omega) (by simp; omega)).trans h.bm, Nat.lt_of_lt_of_le h4 hg.size, fun b hb => (h.lm b hb).turn (h.lm O (Or.inr (Or.inr rfl))) hg,
    h.bel.grown hg h.bel.size (fun k e => by injection e with e; omega)⟩
theorem own_addr {base c : Nat} {A : Option Addr} {l : List Int} (ho : W.ownsRow base 3 1 (.slice A l.length c) l.length (l.map (Value.int .i64))) (hn : 0 < l.length) : ∃ g, A = some ⟨g, 0, none⟩ ∧ l.length ≤ c := by
  rcases ho.2 with ⟨_, h0⟩ | ⟨g, cap', cur, hv, _, _, hle, _⟩
  · omega
  · injection hv with hA _ hc
    exact ⟨g, hA, by rw [hc]; exact hle⟩
theorem tlL_len : ∀ {l : List Int}, 0 < l.length → (tlL l).length = l.length - 1
  | [], h => absurd h (Nat.lt_irrefl 0)
  | _ :: _, _ => rfl
theorem nums_tl {b g : Nat} {l : List Int} (h : NumsIn b W (some ⟨g, 0, none⟩) l) (hn : 0 < l.length) : NumsIn b W (some ⟨g, 1, none⟩) (tlL l) := by
  cases l with
  | nil => exact absurd hn (Nat.lt_irrefl 0)
  | cons x r =>
    obtain ⟨g', off, hA, hne, hc⟩ := h (by simp)
    injection hA with hA
    injection hA with h1 h2
    subst h1
    subst h2
    refine fun _ => ⟨g, 1, rfl, hne, fun i hi => ?_⟩
    have hi' : i < r.length := hi
    have := hc (i + 1) (by rw [List.length_cons]; omega)
    rw [show 0 + (i + 1) = 1 + i by omega] at this
    exact this
theorem Cf.lt (h : Cf w0 X M O x y A c ss W) : ∀ b, In3 X M O b → b < W.heap.size := fun b hb => by
  rcases hb with rfl | rfl | rfl
  · exact (Array.getElem?_eq_some_iff.1 h.bx).1
  · exact (Array.getElem?_eq_some_iff.1 h.bm).1
  · exact (Array.getElem?_eq_some_iff.1 h.bo).1
theorem Cf.below (h : Cf w0 X M O x y A c ss W) (hb : Below W.heap.size W W') : Cf w0 X M O x y A c ss W' :=
  ⟨h.l1, h.l2, h.l3, (hb.block X (h.lt X (Or.inl rfl))).trans h.bx, (hb.block M (h.lt M (Or.inr (Or.inl rfl)))).trans h.bm, (hb.block O (h.lt O (Or.inr (Or.inr rfl)))).trans h.bo,
    fun b hb' => (h.lm b hb').on hb, fun b hb' => (h.lo b hb').on hb, fun b hb' => (h.ins b hb').keep hb, onward h.bel hb⟩
theorem Cf.put (h : Cf w0 X M O x y A c ss W) {B : Option Addr} {n : Nat} {us : List SnS} (hin : ∀ b, In3 X M O b → SndsIn b W B us) : Cf w0 X M O x y B n us (W.setRow X #[.int .i64 8, .slice B us.length n]) := by
  have h1 := h.l1
  have h2 := h.l2
  have h3 := h.l3
  have hg := gr_setRow W X #[.int .i64 8, .slice B us.length n]
  exact ⟨h1, h2, h3, setRow_heap W X _ _ _ _ h.bx, (hg.block M (h.lt M (Or.inr (Or.inl rfl))) (by simp; omega)).trans h.bm, (hg.block O (h.lt O (Or.inr (Or.inr rfl))) (by simp; omega)).trans h.bo,
    fun b hb => (h.lm b hb).turn (h.lm X (Or.inl rfl)) hg, fun b hb => (h.lo b hb).turn (h.lo X (Or.inl rfl)) hg, fun b hb => (hin b hb).turn (hin X (Or.inl rfl)) hg, below_setRow h.bel h1 _⟩
/-- The two messages: one sender, one number, another content. -/
structure CfM (m o : Msg) : Prop where
  n2 : 2 ≤ m.num
  n8 : m.num ≤ 8
  val : valE m = 0
  oth : Other m o
  self : Lib.compareBytes m.port.data.toList m.port.data.toList = 0
theorem cfM_mk {m o : Msg} {N : Int} (hv : valE m = 0) (h2 : 2 ≤ N) (h8 : N ≤ 8) (h : Other (numd m N) o) (hp : Lib.compareBytes m.port.data.toList m.port.data.toList = 0) : CfM (numd m N) o :=
  ⟨h2, h8, valE_num hv (by omega) (by omega), h, hp⟩
theorem cf_len {us : List SnS} {m : Msg} (h : us.map SnS.mod = [s1 m]) : us.length ≤ 1000 := by
  have := congrArg List.length h
  rw [List.length_map] at this
  rw [this]
  show (1 : Nat) ≤ 1000
  omega
theorem cf_few {us : List SnS} {m o : Msg} (h : us.map SnS.mod = [s1 m]) (k : CfM m o) : ∀ s ∈ us, FewM s.held := fun s hs => by
  obtain ⟨t, rfl, ht⟩ := mod_one h
  rw [List.mem_singleton.1 hs]
  exact (fewM_mod ht (fun z hz => by rw [List.mem_singleton.1 (show z ∈ [m] from hz)]; exact valid_few k.val) (by show (1 : Nat) ≤ 100; omega)).1
theorem cf_keep (A : Option Addr) (c : Nat) (ss : List SnS) (z : MsS) (m o : Msg) (W : World) (hin : SndsIn X W A ss) (hm : ss.map SnS.mod = [s1 m]) (k : CfM m o) (hK : Keys W) (hb : X < W.heap.size) (hz : z.Lies X W) (hp : z.m.port = m.port) (hn : z.m.num = m.num) (hv : valE z.m = 0)
    (v : Int) (hvd : vrdM (s1 m) 8 z.m = v) (h35 : v = 3 ∨ v = 5) :
    Calls Tryd.prog 18 #[ibV 8 A ss.length c, z.v] W fun e w' => ∃ (B : Option Addr) (n : Nat) (us : List SnS) (Ao : Option Addr) (co : Nat),
      e = .returned (.tuple #[ibV 8 B us.length n, .slice Ao 0 co, .int .i64 v, .int .i64 0]) ∧ us.map SnS.mod = [s1 m] ∧ (∀ b', b' < W.heap.size → SndsIn b' w' B us) ∧ Below W.heap.size W w' := by
  have hfew := valid_few k.val
  have hz2 := valid_few hv
  have h2 := k.n2
  refine (rcv_one X 8 A c ss m.port (some (s1 m)) z W hin hm (one_s1 hfew k.self) hK hb hz hp (by omega) hv hz2.1 hz2.2 (by decide) (by decide)).mono ?_
  rintro e w' ⟨B, n, us, Ao, co, out, rfl, e1, e2, e3, _, e5⟩
  have hk := nxt_keep (p := m.port) (s := s1 m) (m := z.m) (win := 8) (by rw [hvd]; exact h35)
  rw [hk.1] at e1
  rw [hk.2] at e2
  obtain rfl : out = [] := by simpa using e2
  exact ⟨B, n, us, Ao, co, by rw [← hvd]; rfl, e1, e3, e5⟩
theorem cf_1 (h : Cf w0 X M O x y none 0 [] W) (k : CfM x.m y.m) (hK : Keys W) :
    Calls Tryd.prog 18 #[ibV 8 none ([] : List SnS).length 0, x.v] W fun e w' => ∃ (B : Option Addr) (n : Nat) (us : List SnS) (Ao : Option Addr) (co : Nat),
      e = .returned (.tuple #[ibV 8 B us.length n, .slice Ao 0 co, .int .i64 2, .int .i64 0]) ∧ us.map SnS.mod = [s1 x.m] ∧ (∀ b', b' < W.heap.size → SndsIn b' w' B us) ∧ Below W.heap.size W w' := by
  have hfew := valid_few k.val
  have h2 := k.n2
  refine (rcv_one X 8 none 0 [] x.m.port none x W (h.ins X (Or.inl rfl)) rfl (one_none k.self) hK (h.lt X (Or.inl rfl)) (h.lm X (Or.inl rfl)) rfl (by omega) k.val hfew.1 hfew.2 (by decide) (by decide)).mono ?_
  rintro e w' ⟨B, n, us, Ao, co, out, rfl, e1, e2, e3, _, e5⟩
  have hk := nxt_1 k.n2 k.n8
  rw [hk.1] at e1
  rw [hk.2] at e2
  obtain rfl : out = [] := by simpa using e2
  exact ⟨B, n, us, Ao, co, by rw [vrd_1 k.n2 k.n8]; rfl, e1, e3, e5⟩
theorem cf_2 (h : Cf w0 X M O x y A c ss W) (hm : ss.map SnS.mod = [s1 x.m]) (k : CfM x.m y.m) (hK : Keys W) :
    Calls Tryd.prog 18 #[ibV 8 A ss.length c, y.v] W fun e w' => ∃ (B : Option Addr) (n : Nat) (us : List SnS) (Ao : Option Addr) (co : Nat),
      e = .returned (.tuple #[ibV 8 B us.length n, .slice Ao 0 co, .int .i64 5, .int .i64 0]) ∧ us.map SnS.mod = [s1 x.m] ∧ (∀ b', b' < W.heap.size → SndsIn b' w' B us) ∧ Below W.heap.size W w' :=
  cf_keep A c ss y x.m y.m W (h.ins X (Or.inl rfl)) hm k hK (h.lt X (Or.inl rfl)) (h.lo X (Or.inl rfl)) k.oth.port k.oth.num k.oth.val 5 (vrd_2 k.n2 k.n8 k.oth) (Or.inr rfl)
theorem cf_3 (h : Cf w0 X M O x y A c ss W) {B : Option Addr} {n : Nat} {us : List SnS} (hin : SndsIn X W B us) (hm : us.map SnS.mod = [s1 x.m]) (k : CfM x.m y.m) (hK : Keys W) :
    Calls Tryd.prog 18 #[ibV 8 B us.length n, x.v] W fun e w' => ∃ (B' : Option Addr) (n' : Nat) (us' : List SnS) (Ao : Option Addr) (co : Nat),
      e = .returned (.tuple #[ibV 8 B' us'.length n', .slice Ao 0 co, .int .i64 3, .int .i64 0]) ∧ us'.map SnS.mod = [s1 x.m] ∧ (∀ b', b' < W.heap.size → SndsIn b' w' B' us') ∧ Below W.heap.size W w' :=
  cf_keep B n us x x.m y.m W hin hm k hK (h.lt X (Or.inl rfl)) (h.lm X (Or.inl rfl)) rfl rfl k.val 3 (vrd_3 k.n2 k.n8) (Or.inl rfl)
end

/-! append([]int{}, l...): the copy is a row of its own. -/
theorem run_copyI {H e n c : Nat} {A : Option Addr} {xs : List Int} (w : World) (hn : xs.length = n) (hn4 : n ≤ 1000) (hb : H ≤ w.heap.size)
    (hown : w.ownsRow H 3 1 (.slice (some ⟨e, 0, none⟩) 0 0) 0 []) (hsrc : 0 < n → ∃ g off, A = some ⟨g, off, none⟩ ∧ ∀ j u, (xs.map (Value.int .i64))[j]? = some u → w.cell? ⟨g, off + j, none⟩ = some u) :
    ∃ A' c' w', (Builtin.append_ #[30, 30] 30 #[.slice (some ⟨e, 0, none⟩) 0 0, .slice A n c]).run Tryd.prog w = .ok (.slice A' n c') w' ∧ w'.ownsRow H 3 1 (.slice A' n c') n (xs.map (Value.int .i64)) ∧ w.grownBy w' (some e) := by
  obtain ⟨i2, ki, kz0, kz1, kz2⟩ := info_parts info_intE
  have hl : (xs.map (Value.int .i64)).length = n * 1 := by rw [List.length_map, hn, Nat.mul_one]
  have hone : ∀ u ∈ xs.map (Value.int .i64), u.oneCell' = true := fun u hu => by
    obtain ⟨x, _, rfl⟩ := List.mem_map.1 hu
    rfl
  by_cases h0 : 0 < n
  · obtain ⟨g, off, rfl, hc⟩ := hsrc h0
    have hadd : ∀ j, (⟨g, off, none⟩ : Addr).add j = ⟨g, off + j, none⟩ := fun j => by unfold Addr.add; split <;> simp_all
    obtain ⟨g', cap, w', hr, h2, h3, _, _⟩ := run_append_lies (P := Tryd.prog) w 30 30 H 3 i2 (.int .i64 0) 1 8 Tryd.underlying30 ki kz0 kz1 kz2 rfl (by decide) _ 0 [] hown ⟨g, off, none⟩ n c (xs.map (Value.int .i64)) hl (fun j u hu => by rw [hadd]; exact hc j u hu) hone h0 (by unfold maxLen; omega) (by omega) hb _ rfl
    rw [Nat.zero_add] at hr h2
    rw [List.nil_append] at h2
    exact ⟨_, _, w', hr, h2, h3⟩
  · have hn0 : n = 0 := by omega
    subst hn0
    have hx : xs = [] := List.eq_nil_of_length_eq_zero hn
    subst hx
    have hsrc' : Go.Src Tryd.prog i2.size 30 (.slice A 0 c) 0 [] w := by
      cases A with
      | none => exact Go.Src.ofNil w Tryd.underlying30 c
      | some a => exact Go.Src.ofSlice w Tryd.underlying30 a 0 c [] (by simp) (fun _ _ h => by cases h) (fun _ h => by cases h)
    have hr := run_append_room_src (P := Tryd.prog) w 30 30 30 3 i2 Tryd.underlying30 ki e 0 0 0 (.slice A 0 c) 0 [] hsrc' (by omega) (fun _ h => absurd h (by simp)) (fun _ h => absurd h (by simp))
    exact ⟨_, _, _, hr, hown, World.grownBy.refl _ _⟩
theorem wpList_copyI {H e n c : Nat} {A : Option Addr} {xs : List Int} {w : World} {ops : Array Oper} {rest : List Oper} {o : Oper} {a : Act} {Q : Exit → Act → World → Prop} (hgd : o.guard = none) (s x : Operand)
    (ho : o.op = .call { callee := .builtin .append, args := #[s, x], argTypes := #[30, 30] }) (hty : o.type = 30)
    (hs : a.eval s = .slice (some ⟨e, 0, none⟩) 0 0) (hx : a.eval x = .slice A n c) (hn : xs.length = n) (hn4 : n ≤ 1000) (hb : H ≤ w.heap.size)
    (hown : w.ownsRow H 3 1 (.slice (some ⟨e, 0, none⟩) 0 0) 0 []) (hsrc : 0 < n → ∃ g off, A = some ⟨g, off, none⟩ ∧ ∀ j u, (xs.map (Value.int .i64))[j]? = some u → w.cell? ⟨g, off + j, none⟩ = some u)
    (h : ∀ A' c' w', w'.ownsRow H 3 1 (.slice A' n c') n (xs.map (Value.int .i64)) → w.grownBy w' (some e) → wpList Tryd.prog ops Q rest (a.put o.dst (.slice A' n c')) w') : wpList Tryd.prog ops Q (o :: rest) a w := by
  refine wpList_plain hgd fun K hK => ?_
  obtain ⟨A', c', w', hr, h2, h3⟩ := run_copyI (c := c) w hn hn4 hb hown hsrc
  unfold Oper.wp execOp
  simp only [ho, hty, resolve, invoke, builtin, Sem.run_bind, Sem.run_pure, Result.andThen_ok, List.map_toArray, List.map_cons, List.map_nil, hs, hx, hr]
  exact hK _ _ (h A' c' w' h2 h3)
end Go.Proofs.YtcjdjdganaokfaaDoor
