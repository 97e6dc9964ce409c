/-
  InboxOrder: the mathematics, and what is kept while its walk goes on.
-/
import Derived.Test.YtcjdjdganaokfaaDoorInbS

/- InbV: The mathematics of InboxOrder: one sender's messages in any order within the window. -/
namespace Go.Proofs.YtcjdjdganaokfaaDoor
open Go.RowKit

theorem curS_one {p : ByteArray} {s : Option Snd} {u : Snd} (h : One p (some u)) (e : curS p s = u) : One p s := by
  have e' : curS p (some u) = u := rfl
  exact ⟨by rw [e]; exact h.port, by rw [e]; exact h.few, by rw [e]; exact h.len, by rw [e]; exact h.asc, by rw [e]; exact h.n1, by rw [e]; exact h.n2, h.self⟩
theorem curS_plain {p : ByteArray} {s : Option Snd} {u : Snd} (h : PlainS u) (e : curS p s = u) : ∀ v ∈ oneL s, PlainS v := fun v hv => by
  cases s with
  | none => cases hv
  | some t =>
    rw [List.mem_singleton.1 (show v ∈ [t] from hv)]
    have : t = u := e
    rw [this]; exact h
/-- What the law knows of the numbers that came: those before next, none behind n. -/
structure OrdD (n next : Nat) (D : Nat → Bool) : Prop where
  lo : 1 ≤ next
  hi : next ≤ n + 1
  n12 : n ≤ 12
  old : ∀ i, 1 ≤ i → i < next → D i = true
  new : ∀ i, n < i → D i = false
  gap : D next = false
/-- The verdict on number k. -/
def verD (D : Nat → Bool) (next k : Nat) : Int := if D k then 3 else if next < k then 2 else 1
theorem ver_D {n next k win : Nat} {D : Nat → Bool} (h : OrdD n next D) (h1 : 1 ≤ k) (h2 : k ≤ n) (h3 : k < next + win) : vrdM (sndD ARN D next (14 - next)) (win : Int) (nbd ARN (k : Int)) = verD D next k := by
  have := h.n12
  have := h.hi
  by_cases hk : k < next
  · rw [decD_old hk]; unfold verD; rw [h.old k h1 hk, if_pos rfl]
  · exact decD (by omega) (by omega) h3
/-- How many messages are released. -/
def relD (D : Nat → Bool) (next k : Nat) : Nat := if D k then 0 else run (addD D k) next (14 - next)
def setD (D : Nat → Bool) (k : Nat) : Nat → Bool := addD D k
theorem rel_le {n next k : Nat} {D : Nat → Bool} (h : OrdD n next D) (h2 : k ≤ n) : next + relD D next k ≤ n + 1 := by
  have := h.hi
  unfold relD
  split
  · omega
  · rcases Nat.lt_or_ge (n + 1) (next + run (addD D k) next (14 - next)) with hh | hh
    · have := run_in (D := addD D k) (14 - next) next (i := n + 1) (by omega) hh
      unfold addD at this
      rw [h.new (n + 1) (by omega), decide_eq_false (by omega)] at this
      cases this
    · exact hh
theorem ordD_step {n next k : Nat} {D : Nat → Bool} (h : OrdD n next D) (h1 : 1 ≤ k) (h2 : k ≤ n) : OrdD n (next + relD D next k) (addD D k) where
  lo := by have := h.lo; omega
  hi := rel_le h h2
  n12 := h.n12
  old := fun i h3 h4 => by
    by_cases h5 : i < next
    · unfold addD; rw [h.old i h3 h5, Bool.true_or]
    · unfold relD at h4
      split at h4
      · omega
      · exact run_in (14 - next) next (by omega) h4
  new := fun i h3 => by unfold addD; rw [h.new i h3, decide_eq_false (by omega)]; rfl
  gap := by
    have hn := h.n12
    have hi := h.hi
    unfold relD
    split
    · rename_i hd
      rw [Nat.add_zero]
      unfold addD
      have : next ≠ k := fun e => by rw [← e, h.gap] at hd; cases hd
      rw [h.gap, decide_eq_false this]; rfl
    · rename_i hd
      refine run_end (14 - next) next ?_
      have := rel_le h h2
      unfold relD at this
      rw [if_neg hd] at this
      omega
theorem nxt_D {n next k win : Nat} {D : Nat → Bool} {s : Option Snd} (h : OrdD n next D) (hs : curS ARN s = sndD ARN D next (14 - next)) (h1 : 1 ≤ k) (h2 : k ≤ n) (h3 : k < next + win) :
    curS ARN (nxtS ARN s (win : Int) (nbd ARN (k : Int))) = sndD ARN (addD D k) (next + relD D next k) (14 - (next + relD D next k)) ∧ outS ARN s (win : Int) (nbd ARN (k : Int)) = seqL ARN next (relD D next k) := by
  have hv : vrdM (curS ARN s) (win : Int) (nbd ARN (k : Int)) = verD D next k := by rw [hs]; exact ver_D h h1 h2 h3
  have hn := h.n12
  have hi := h.hi
  unfold nxtS outS
  rw [hv]
  unfold verD relD
  cases hd : D k with
  | true =>
    have e3 : ¬ ((3 : Int) = 1 ∨ (3 : Int) = 2) := by decide
    simp only [eq_self, if_true, e3, if_false, Nat.add_zero]
    refine ⟨?_, rfl⟩
    rw [hs]
    have : addD D k = D := by
      funext i
      unfold addD
      by_cases e : i = k
      · rw [e, hd]; rfl
      · rw [decide_eq_false e, Bool.or_false]
    rw [this]
  | false =>
    have hk : next ≤ k := by
      rcases Nat.lt_or_ge k next with h5 | h5
      · rw [h.old k h1 h5] at hd; cases hd
      · exact h5
    obtain ⟨e1, e2⟩ := rcvD (p := ARN) (D := D) (lo := next) (c := 14 - next) (k := k) hk (by omega) hd
    rw [if_neg Bool.false_ne_true, if_neg Bool.false_ne_true, if_pos (by split <;> simp), if_pos (by split <;> simp), hs, e1, e2]
    refine ⟨?_, rfl⟩
    show sndD ARN _ _ _ = _
    rw [Nat.sub_sub]
theorem ordD_one {n next : Nat} {D : Nat → Bool} {s : Option Snd} (h : OrdD n next D) (hs : curS ARN s = sndD ARN D next (14 - next)) : One ARN s :=
  curS_one (oneD (p := ARN) (D := D) self_ARN h.lo (by have := h.hi; have := h.n12; omega) (by omega)) hs
theorem rel_pos {n next : Nat} {D : Nat → Bool} (h : OrdD n next D) (h2 : next ≤ n) : 1 ≤ relD D next next := by
  have := h.n12
  unfold relD
  rw [h.gap, if_neg Bool.false_ne_true]
  obtain ⟨c, hc⟩ : ∃ c, 14 - next = c + 1 := ⟨13 - next, by omega⟩
  rw [hc]
  unfold run
  rw [if_pos (by unfold addD; simp)]
  omega
theorem ordD_start {n : Nat} (h1 : 1 ≤ n) (h2 : n ≤ 12) : OrdD n 1 (fun _ => false) := ⟨Nat.le_refl _, by omega, h2, fun i _ _ => by omega, fun _ _ => rfl, rfl⟩
theorem curS_start : curS ARN none = sndD ARN (fun _ => false) 1 (14 - 1) := rfl
/-- The array of the numbers that came. -/
def doneA (D : Nat → Bool) : Array Value := ((List.range 14).map fun i => Value.bool (D i)).toArray
theorem doneA_at (D : Nat → Bool) (i : Nat) (h : i < 14) : (doneA D)[i]? = some (.bool (D i)) := by
  unfold doneA
  simp [h]
theorem doneA_set (D : Nat → Bool) (k : Nat) : (doneA D).setIfInBounds k (.bool true) = doneA (addD D k) := by
  apply Array.ext_getElem?
  intro i
  rw [Array.getElem?_setIfInBounds]
  have hsz : (doneA D).size = 14 := by unfold doneA; simp
  by_cases hi : i < 14
  · rw [doneA_at (addD D k) i hi]
    by_cases e : k = i
    · subst e; rw [if_pos rfl, if_pos (by omega)]; unfold addD; simp
    · rw [if_neg e, doneA_at D i hi]; unfold addD; rw [decide_eq_false (fun h => e h.symm), Bool.or_false]
  · have h2 : (doneA (addD D k)).size = 14 := by unfold doneA; simp
    rw [Array.getElem?_eq_none (xs := doneA (addD D k)) (by omega)]
    split
    · split
      · omega
      · rfl
    · exact Array.getElem?_eq_none (by omega)
theorem doneA_start : doneA (fun _ => false) = Array.replicate 14 (.bool false) := rfl

set_option maxHeartbeats 1000000 in
theorem more_any (B b : Nat) (w : World) (h : Src B b w) :
    Calls Tryd.prog 17 #[.pointer (some ⟨b, 0, none⟩)] w fun e w' => ∃ v : Bool, e = .returned (.bool v) ∧ Below w.heap.size w w' := by
  obtain ⟨hbase, ⟨A, n, c, k, e1, e2, e3, e4, e5⟩, hfree, hlt⟩ := h
  clear e5
  by_cases hk : (k : Int) < (n : Int)
  · go_enter Tryd.func17, Tryd.ntmps17
    go_wp2_with fail
    go_quiet (fail)
    go_wp2
    go_ret
    exact ⟨_, rfl, draws (Below.refl _ _) _⟩
  · go_enter Tryd.func17, Tryd.ntmps17
    go_wp2_with fail
    go_quiet (fail)
    go_wp2
    go_ret
    exact ⟨_, rfl, draws (Below.refl _ _) _⟩
end Go.Proofs.YtcjdjdganaokfaaDoor

/- InbX: InboxOrder: what is kept of the boxes, of the reader and of the array of numbers while its walk goes on. -/
namespace Go.Proofs.YtcjdjdganaokfaaDoor
open Go.RowKit

/-- A block without strings: no row of messages or senders lies in it. -/
def NoStr (w : World) (g : Nat) : Prop := ∀ i s, w.cell? ⟨g, i, none⟩ ≠ some (.string s)
theorem noStr_arr {w : World} {g : Nat} {D : Nat → Bool} {t : TypeId} {fz : Nat × Nat} (h : w.heap[g]? = some (.cells (doneA D) t fz)) : NoStr w g := fun i s => by
  rw [Lib.cell_of_heap h]
  by_cases hi : i < 14
  · rw [doneA_at _ i hi]; intro e; cases e
  · rw [Array.getElem?_eq_none (by unfold doneA; simp; omega)]; intro e; cases e
theorem MsgsIn.avoid {b g : Nat} {w : World} {A : Option Addr} {xs : List MsS} (h : MsgsIn b w A xs) (hp : Plain xs) (hx : NoStr w g) : MsgsIn g w A xs := fun hn => by
  obtain ⟨q, off, hA, _, hc, _⟩ := h hn
  refine ⟨q, off, hA, ?_, hc, fun x hm => MsS.Lies.plain (hp x hm)⟩
  rintro rfl
  have h2 := hc 2 _ (by rw [show (2 : Nat) = 0 * 30 + 2 from rfl, flatK_at MsS.cs 30 MsS.cs_len xs 0 hn 2 (by omega)]; rfl)
  exact hx _ _ h2
theorem SndsIn.avoid {b g : Nat} {w : World} {A : Option Addr} {ss : List SnS} (h : SndsIn b w A ss) (hp : ∀ t ∈ ss, Plain t.held) (hx : NoStr w g) : SndsIn g w A ss := fun hn => by
  obtain ⟨q, off, hA, _, hc, hl⟩ := h hn
  refine ⟨q, off, hA, ?_, hc, fun t ht => (hl t ht).avoid (hp t ht) hx⟩
  rintro rfl
  have h2 := hc 0 _ (by rw [show (0 : Nat) = 0 * 3 + 0 from rfl, flatK_at SnS.cs 3 SnS.cs_len ss 0 hn 0 (by omega)]; rfl)
  exact hx _ _ h2
/-- A box beside a block that changes. -/
theorem IBx.aside {X g : Nat} {win : Int} {s : Option Snd} {A : Option Addr} {c : Nat} {ss : List SnS} {W W' : World} (h : IBx X win s A c ss W) (hne : X ≠ g) (hi : SndsIn g W A ss) (hg : W.grownBy W' (some g)) : IBx X win s A c ss W' :=
  ⟨by rw [← h.box]; exact hg.block X h.lt (by simpa using hne), (hi.grown hg).merge h.ins, h.mod, h.plain⟩

/-- A reader of what lies below a bound. -/
theorem src_at (B : Nat) (A : Option Addr) (n c : Nat) (w : World) (t : TypeId) (hB : B ≤ w.heap.size) (hn : n ≤ 2000) (h : IntsIn B w A n) : Src B w.heap.size (w.alloc (.cells #[.slice A n c, .int .i64 0] t)) :=
  ⟨hB, ⟨A, n, c, 0, by simp [go_sem], by simp [go_sem], Nat.zero_le _, hn, h.keep hB fun i hi => Below.heap_alloc _ _ _ (by omega)⟩, by simp [go_sem], by rw [World.size_alloc]; omega⟩
theorem new_at (B : Nat) (A : Option Addr) (n c : Nat) (w : World) (hB : B ≤ w.heap.size) (hc : n ≤ c) (h : IntsIn B w A n) :
    Calls Tryd.prog 15 #[.slice A n c] w fun e w' => e = .returned (.pointer (some ⟨w.heap.size, 0, none⟩)) ∧ Src B w.heap.size w' ∧ Below w.heap.size w w' := by
  have HI := Lib.hid h
  clear h
  by_cases hn : (2000 : Int) < (n : Int)
  · obtain ⟨g, off, rfl, hg, hx⟩ := HI.out (by omega)
    have HX := Lib.hid hx
    clear hx
    have hc2 : (2000 : Int) ≤ (c : Int) := by omega
    go_enter Tryd.func15, Tryd.ntmps15
    go_wp2
    go_ret
    exact ⟨rfl, src_at _ _ _ _ _ _ hB (by omega) fun _ => ⟨g, off, rfl, hg, fun i hi => HX.out i (by omega)⟩, (Below.refl _ _).alloc (Nat.le_refl _) _⟩
  · go_enter Tryd.func15, Tryd.ntmps15
    go_wp2
    go_ret
    exact ⟨rfl, src_at _ _ _ _ _ _ hB (by omega) HI.out, (Below.refl _ _).alloc (Nat.le_refl _) _⟩

/-- The blocks of the walk: the box, the reader, the array. -/
structure Blk (w0 : World) (X b G : Nat) : Prop where
  x0 : w0.heap.size ≤ X
  xb : X < b
  bG : b < G
structure OrdS (w0 : World) (X b G n win next : Nat) (D : Nat → Bool) (s : Option Snd) (A : Option Addr) (c : Nat) (ss : List SnS) (W : World) : Prop where
  bx : IBx X (win : Int) s A c ss W
  ins : SndsIn b W A ss
  cur : curS ARN s = sndD ARN D next (14 - next)
  ord : OrdD n next D
  arr : W.heap[G]? = some (.cells (doneA D) 51 (0, 0))
  src : Src w0.heap.size b W
  bel : Below w0.heap.size w0 W
theorem OrdS.below {w0 : World} {X b G n win next : Nat} {D : Nat → Bool} {s : Option Snd} {A : Option Addr} {c : Nat} {ss : List SnS} {W W' : World} (h : OrdS w0 X b G n win next D s A c ss W) (hb : Below W.heap.size W W') : OrdS w0 X b G n win next D s A c ss W' :=
  ⟨h.bx.below hb, h.ins.keep hb, h.cur, h.ord, (hb.block _ (Array.getElem?_eq_some_iff.1 h.arr).1).trans h.arr, h.src.keep hb, onward h.bel hb⟩
theorem OrdS.reads {w0 : World} {X b G n win next : Nat} {D : Nat → Bool} {s : Option Snd} {A : Option Addr} {c : Nat} {ss : List SnS} {W W' : World} (h : OrdS w0 X b G n win next D s A c ss W) (hbl : Blk w0 X b G) (hs : Src w0.heap.size b W') (hg : W.grownBy W' (some b)) : OrdS w0 X b G n win next D s A c ss W' := by
  have h1 := hbl.x0
  have h2 := hbl.xb
  have h3 := hbl.bG
  refine ⟨h.bx.aside (by omega) h.ins hg, h.ins.grown hg, h.cur, h.ord, ?_, hs, below_reads h.bel hg (by omega) h.bel.size⟩
  rw [← h.arr]
  exact hg.block G (Array.getElem?_eq_some_iff.1 h.arr).1 (by simp; omega)
theorem ord_rcv {w0 : World} {X b G n win next k : Nat} {D : Nat → Bool} {s : Option Snd} {A : Option Addr} {c : Nat} {ss : List SnS} {W W' : World} (h : OrdS w0 X b G n win next D s A c ss W) (h1 : 1 ≤ k) (h2 : k ≤ n) (h3 : k < next + win) (h8 : win ≤ 8)
    (hb : Below W.heap.size W W') (hK : Keys W') {v : Int} (hv : verD D next k = v) :
    Calls Tryd.prog 18 #[ibV (win : Int) A ss.length c, (nbS ARN (k : Int)).v] W' fun e w' => ∃ (A2 : Option Addr) (c2 : Nat) (ss2 : List SnS) (Ao : Option Addr) (co : Nat) (out : List MsS) (s2 : Option Snd),
      e = .returned (.tuple #[ibV (win : Int) A2 ss2.length c2, .slice Ao out.length co, .int .i64 v, .int .i64 0]) ∧ ss2.map SnS.mod = oneL s2 ∧ (∀ u ∈ oneL s2, PlainS u) ∧ curS ARN s2 = sndD ARN (addD D k) (next + relD D next k) (14 - (next + relD D next k)) ∧
      out.map (·.m) = seqL ARN next (relD D next k) ∧ SndsIn X w' A2 ss2 ∧ SndsIn b w' A2 ss2 ∧ MsgsIn b w' Ao out ∧ Below W'.heap.size W' w' := by
  have hx := h.below hb
  have hn := h.ord.n12
  obtain ⟨g1, g2⟩ := nxt_D (win := win) h.ord h.cur h1 h2 h3
  have hvd : vrdM (curS ARN s) (win : Int) (nbd ARN (k : Int)) = v := by rw [h.cur, ← hv]; exact ver_D h.ord h1 h2 h3
  refine (rcv_one b (win : Int) A c ss ARN s (nbS ARN (k : Int)) W' hx.ins hx.bx.mod (ordD_one h.ord h.cur) hK hx.src.lt (nbS_lies b W' ARN _) rfl (by show (1 : Int) ≤ (k : Int); omega) (nbd_arn _ (by omega) (by omega)) (Nat.zero_le _) (Nat.zero_le _) (by omega) (by omega)).mono ?_
  rintro e w' ⟨A2, c2, ss2, Ao, co, out, rfl, e1, e2, e3, e4, e5⟩
  have hpl := curS_plain (plain_D ARN (addD D k) (next + relD D next k) (14 - (next + relD D next k))) g1
  exact ⟨A2, c2, ss2, Ao, co, out, _, by rw [← hvd], e1, hpl, g1, by rw [e2, g2], e3 X hx.bx.lt, e3 b hx.src.lt, e4 b hx.src.lt, e5⟩
theorem seqL_plain (p : ByteArray) : ∀ (c lo : Nat) {m : Msg}, m ∈ seqL p lo c → m.onw = [] ∧ m.lst = []
  | 0, _, _, h => by cases h
  | c + 1, lo, m, h => by
    unfold seqL at h
    rcases List.mem_cons.1 h with rfl | h
    · exact ⟨rfl, rfl⟩
    · exact seqL_plain p c (lo + 1) h
theorem plain_seq {out : List MsS} {p : ByteArray} {lo c : Nat} (h : out.map (·.m) = seqL p lo c) : Plain out := fun x hx => seqL_plain p c lo (by rw [← h]; exact List.mem_map.2 ⟨x, hx, rfl⟩)
/-- Behind Receive: the new inbox in box Y, what was released in a row. -/
structure OrdM (w0 : World) (X b G win next r : Nat) (D : Nat → Bool) (Y : Nat) (s : Option Snd) (A : Option Addr) (c : Nat) (ss : List SnS) (Ao : Option Addr) (out : List MsS) (W : World) : Prop where
  old : ∃ (A0 : Option Addr) (n0 c0 : Nat), W.heap[X]? = some (ibO (win : Int) A0 n0 c0)
  bx : IBx Y (win : Int) s A c ss W
  ins : SndsIn b W A ss
  outs : MsgsIn b W Ao out
  om : out.map (·.m) = seqL ARN next r
  arr : W.heap[G]? = some (.cells (doneA D) 51 (0, 0))
  src : Src w0.heap.size b W
  bel : Below w0.heap.size w0 W
theorem OrdM.below {w0 : World} {X b G win next r : Nat} {D : Nat → Bool} {Y : Nat} {s : Option Snd} {A : Option Addr} {c : Nat} {ss : List SnS} {Ao : Option Addr} {out : List MsS} {W W' : World} (h : OrdM w0 X b G win next r D Y s A c ss Ao out W) (hb : Below W.heap.size W W') : OrdM w0 X b G win next r D Y s A c ss Ao out W' := by
  obtain ⟨A0, n0, c0, h0⟩ := h.old
  exact ⟨⟨A0, n0, c0, (hb.block _ (Array.getElem?_eq_some_iff.1 h0).1).trans h0⟩, h.bx.below hb, h.ins.keep hb, h.outs.keep hb, h.om, (hb.block _ (Array.getElem?_eq_some_iff.1 h.arr).1).trans h.arr, h.src.keep hb, onward h.bel hb⟩
theorem OrdS.mid {w0 : World} {X b G n win next k : Nat} {D : Nat → Bool} {s s2 : Option Snd} {A A2 Ao : Option Addr} {c c2 B6 : Nat} {ss ss2 : List SnS} {out : List MsS} {W w8 w9 : World} (h : OrdS w0 X b G n win next D s A c ss W) (hb : Below W.heap.size W w9) (hx : IBx X (win : Int) s A c ss w9) (hy : IBx B6 (win : Int) s2 A2 c2 ss2 w9)
    (hs : SndsIn b w8 A2 ss2) (ho : MsgsIn b w8 Ao out) (hom : out.map (·.m) = seqL ARN next (relD D next k)) {n' c' : Nat} {win' : Int} {A' : Option Addr} (hZ : w8.heap[B6]? = some (ibO win' A' n' c')) (hg : w8.grownBy w9 (some B6)) :
    OrdM w0 X b G win next (relD D next k) D B6 s2 A2 c2 ss2 Ao out w9 :=
  ⟨⟨_, _, _, hx.box⟩, hy, ((hs.box (plain_mod hy.mod hy.plain) hZ).grown hg).merge hs, ((ho.box (plain_seq hom) hZ).grown hg).merge ho, hom, (hb.block _ (Array.getElem?_eq_some_iff.1 h.arr).1).trans h.arr, h.src.keep hb, onward h.bel hb⟩
theorem OrdM.mark {w0 : World} {X b G win next r : Nat} {D : Nat → Bool} {Y : Nat} {s : Option Snd} {A : Option Addr} {c : Nat} {ss : List SnS} {Ao : Option Addr} {out : List MsS} {W : World} (h : OrdM w0 X b G win next r D Y s A c ss Ao out W) (hbl : Blk w0 X b G) (hY : Y ≠ G) (k : Nat) :
    OrdM w0 X b G win next r (addD D k) Y s A c ss Ao out (W.setCell ⟨G, k, none⟩ (.bool true)) := by
  have h1 := hbl.x0
  have h2 := hbl.xb
  have h3 := hbl.bG
  obtain ⟨A0, n0, c0, h0⟩ := h.old
  have hg : W.grownBy (W.setCell ⟨G, k, none⟩ (.bool true)) (some G) := Lib.grownBy_setB (World.grownBy.refl W (some G)) k (.bool true)
  have hno := noStr_arr h.arr
  refine ⟨⟨A0, n0, c0, ?_⟩, h.bx.aside hY (h.ins.avoid (plain_mod h.bx.mod h.bx.plain) hno) hg, ((h.ins.avoid (plain_mod h.bx.mod h.bx.plain) hno).grown hg).merge h.ins, ((h.outs.avoid (plain_seq h.om) hno).grown hg).merge h.outs, h.om, ?_, ?_, ?_⟩
  · rw [← h0]; exact hg.block X (Array.getElem?_eq_some_iff.1 h0).1 (by simp; omega)
  · rw [heap_setM _ h.arr, doneA_set]
  · exact h.src.grown hg (fun q e => by cases e; omega)
  · exact h.bel.setCell (p := ⟨G, k, none⟩) (by show w0.heap.size ≤ G; omega) _
theorem OrdM.done {w0 : World} {X b G n win next r next' : Nat} {D : Nat → Bool} {Y : Nat} {s : Option Snd} {A : Option Addr} {c : Nat} {ss : List SnS} {Ao : Option Addr} {out : List MsS} {W : World} (h : OrdM w0 X b G win next r D Y s A c ss Ao out W) (hbl : Blk w0 X b G) (hcur : curS ARN s = sndD ARN D next' (14 - next')) (hord : OrdD n next' D) :
    OrdS w0 X b G n win next' D s A c ss (W.setRow X #[.int .i64 (win : Int), .slice A ss.length c]) := by
  have h1 := hbl.x0
  have h2 := hbl.xb
  have h3 := hbl.bG
  obtain ⟨A0, n0, c0, h0⟩ := h.old
  have hg := gr_setRow W X #[.int .i64 (win : Int), .slice A ss.length c]
  have hp := plain_mod h.bx.mod h.bx.plain
  refine ⟨IBx.put h0 h.bx.ins h.bx.mod h.bx.plain hg (setRow_heap W X _ _ _ _ h0), ((h.ins.box hp h0).grown hg).merge h.ins, hcur, hord, ?_, ?_, below_setRow h.bel h1 _⟩
  · rw [← h.arr]; exact hg.block G (Array.getElem?_eq_some_iff.1 h.arr).1 (by simp; omega)
  · obtain ⟨s1, ⟨A1, n1, c1, k1, e1, e2, e3, e4, e5⟩, s3, s4⟩ := h.src
    have hb : (W.setRow X #[.int .i64 (win : Int), .slice A ss.length c]).heap[b]? = W.heap[b]? := hg.block b s4 (by simp; omega)
    refine ⟨s1, ⟨A1, n1, c1, k1, ?_, ?_, e3, e4, ?_⟩, ?_, Nat.lt_of_lt_of_le s4 hg.size⟩
    · rw [← e1]; simp [World.cell?, hb]
    · rw [← e2]; simp [World.cell?, hb]
    · refine e5.keep h.bel.size (fun i hi => hg.block i ?_ (by simp; omega))
      have := h.bel.size
      omega
    · rw [← s3]; simp [World.frozen?, hb]
end Go.Proofs.YtcjdjdganaokfaaDoor
