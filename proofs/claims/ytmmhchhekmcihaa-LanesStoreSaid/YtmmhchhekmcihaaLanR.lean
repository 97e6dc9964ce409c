/-
  Lanes (layer 17): LanesFree: what is kept while the store is filled and emptied.
-/
import Derived.Test.YtmmhchhekmcihaaLanQ
import Derived.Test.YtmmhchhekmcihaaResK
import Derived.Test.YtmmhchhekmcihaaRowB
namespace Go.Proofs.Ytmmhchhekmcihaa
open Go.RowKit

theorem BgsIn.mono {S S' : Nat → Prop} {w : World} {A : Option Addr} {l : List Bg} (h : BgsIn S w A l) (hs : ∀ b, b < w.heap.size → S' b → S b) : BgsIn S' w A l := fun hn => by
  obtain ⟨g, off, e, hg, hc⟩ := h hn
  exact ⟨g, off, e, fun h' => hg (hs g (World.block_lt_of_cell? w _ (hc 0 hn).1) h'), hc⟩
theorem LnsIn.mono {S S' : Nat → Prop} {w : World} {A : Option Addr} {L : List (List Bg)} (h : LnsIn S w A L) (hs : ∀ b, b < w.heap.size → S' b → S b) : LnsIn S' w A L := fun hn => by
  obtain ⟨g, off, e, hg, hc⟩ := h hn
  refine ⟨g, off, e, fun h' => hg (hs g ?_ h'), fun i hi => ?_⟩
  · obtain ⟨_, _, h1, _⟩ := hc 0 hn
    exact World.block_lt_of_cell? w _ h1
  · obtain ⟨A', c', h1, h2, h3⟩ := hc i hi
    exact ⟨A', c', h1, h2, h3.mono hs⟩
theorem StoI.mono {S S' : Nat → Prop} {w : World} {A : Option Addr} {L : List (List Bg)} {c : Nat} (h : StoI S w A L c) (hs : ∀ b, b < w.heap.size → S' b → S b) : StoI S' w A L c := ⟨h.row.mono hs, h.cap⟩

/-- The store's box, its bags, the times, while bags are put. -/
structure FrS (w0 : World) (g : Nat) (A1 : Option Addr) (T : List Int) (n : Nat) (L : List (List Bg)) (A : Option Addr) (c : Nat) (W : World) : Prop where
  bel : Below w0.heap.size w0 W
  gR : w0.heap.size ≤ g
  due : NumsIn g W A1 T
  box : W.heap[g]? = some (lnsO 20 A n c)
  sto : StoI (fun b => b = g) W A L c
  len : L.length = n
section
variable {w0 W W' : World} {g h n : Nat} {A1 A A' : Option Addr} {T : List Int} {L L' : List (List Bg)} {c c' : Nat} {p : Nat → Bool}
theorem FrS.lt (h : FrS w0 g A1 T n L A c W) : g < W.heap.size := (Array.getElem?_eq_some_iff.1 h.box).1
theorem FrS.old (h : FrS w0 g A1 T n L A c W) : Old (fun b => b = g) W := fun b e => by subst e; exact h.lt
theorem FrS.below (h : FrS w0 g A1 T n L A c W) (hb : Below W.heap.size W W') : FrS w0 g A1 T n L A c W' := ⟨onward h.bel hb, h.gR, h.due.keep hb, heap_below h.box hb, h.sto.below hb, h.len⟩
theorem FrS.put (h : FrS w0 g A1 T n L A c W) (k : StoI (fun b => b = g) W A' L' c') (hl : L'.length = n) : FrS w0 g A1 T n L' A' c' (W.setRow g #[.int .i64 20, .slice A' n c']) :=
  ⟨below_row h.bel h.gR _, h.gR, h.due.grown (grown_row W g _), setRow_heap W g _ _ _ _ h.box, k.keep (KepS.setRow W _ rfl), hl⟩
/-- A store just made: its box is allotted. -/
theorem FrS.start (hb : Below w0.heap.size w0 W) (hd : NumsIn w0.heap.size W A1 T) (k : StoI (fun _ => False) W A L c) (hl : L.length = n) : FrS w0 W.heap.size A1 T n L A c (W.alloc (lnsO 20 A n c)) := by
  have b1 := below_new (Below.refl W.heap.size W) (lnsO 20 A n c)
  exact ⟨onward hb b1, hb.size, (hd.other (Nat.le_refl _)).keep b1, heap_alloc_new W _, (k.mono fun b hb e => absurd e (by omega)).below b1, hl⟩

/-- The same with the next store in a box of its own. -/
structure FrN (w0 : World) (g : Nat) (A1 : Option Addr) (T : List Int) (n : Nat) (L : List (List Bg)) (A : Option Addr) (c : Nat) (y : Nat) (L' : List (List Bg)) (A' : Option Addr) (c' : Nat) (W : World) : Prop where
  st : FrS w0 g A1 T n L A c W
  yb : W.heap[y]? = some (lnsO 20 A' n c')
  new : StoI (fun b => b = g) W A' L' c'
theorem FrN.one (h : FrS w0 g A1 T n L A c W) (s : StoI (fun b => b = g) W A' L' c') : FrN w0 g A1 T n L A c W.heap.size L' A' c' ((W.alloc (lnsO 0 none 0 0)).setRow W.heap.size #[.int .i64 20, .slice A' n c']) := by
  have b1 := below_row (below_new (Below.refl W.heap.size W) (lnsO 0 none 0 0)) (Nat.le_refl _) #[.int .i64 20, .slice A' n c']
  exact ⟨h.below b1, setRow_heap _ _ _ _ _ _ (heap_alloc_new W _), s.below b1⟩
theorem FrN.two (h : FrS w0 g A1 T n L A c W) (hb : Below (W.alloc (lnsO 0 none 0 0)).heap.size (W.alloc (lnsO 0 none 0 0)) W') (s : StoI (fun b => b = g ∨ b = W.heap.size) W' A' L' c') : FrN w0 g A1 T n L A c W.heap.size L' A' c' (W'.setRow W.heap.size #[.int .i64 20, .slice A' n c']) := by
  have b1 := below_row (onward (below_new (Below.refl W.heap.size W) (lnsO 0 none 0 0)) hb) (Nat.le_refl _) #[.int .i64 20, .slice A' n c']
  exact ⟨h.below b1, setRow_heap _ _ _ _ _ _ (heap_below (heap_alloc_new W _) hb), (s.keep (KepS.setRow W' _ (.inr rfl))).mono fun b _ e => .inl e⟩
theorem FrN.take (k : FrN w0 g A1 T n L A c h L' A' c' W) (hl : L'.length = n) : FrS w0 g A1 T n L' A' c' (W.setRow g #[.int .i64 20, .slice A' n c']) := k.st.put k.new hl
/-- For a call behind the allotment of the box. -/
theorem FrS.two (h : FrS w0 g A1 T n L A c W) : StoI (fun b => b = g ∨ b = W.heap.size) (W.alloc (lnsO 0 none 0 0)) A L c ∧ Old (fun b => b = g ∨ b = W.heap.size) (W.alloc (lnsO 0 none 0 0)) := by
  have b1 := below_new (Below.refl W.heap.size W) (lnsO 0 none 0 0)
  refine ⟨(h.sto.mono fun b hb (e : b = g ∨ b = W.heap.size) => e.elim id fun e => absurd e (by omega)).below b1, fun b e => ?_⟩
  rw [World.size_alloc]
  have := h.lt
  rcases e with e | e <;> omega

def doneA (p : Nat → Bool) (m : Nat) : Array Value := ((List.range m).map fun a => Value.bool (!p a)).toArray
theorem doneA_at {p : Nat → Bool} {m a : Nat} (h : a < m) : (doneA p m)[a]? = some (.bool (!p a)) := by
  rw [doneA, List.getElem?_toArray, List.getElem?_map, List.getElem?_range h]; rfl
theorem doneA_set {p : Nat → Bool} {m b : Nat} : (doneA p m).setIfInBounds b (.bool true) = doneA (butP p b) m := by
  apply Array.ext (by simp [doneA])
  intro i h1 h2
  have hm : i < m := by simpa [doneA] using h2
  rw [Array.getElem_setIfInBounds (by simpa [doneA] using hm)]
  by_cases e : b = i
  · subst e; simp [doneA, butP]
  · rw [if_neg e]; simp [doneA, butP, show ¬ i = b from fun h => e h.symm]
theorem doneA_zero (m : Nat) : madeCells #[.bool false] m = doneA allP m := by
  apply Array.toList_inj.1
  rw [toList_madeCells_one, doneA]
  apply List.ext_getElem (by simp)
  intro i h1 h2
  simp [allP]
/-- The same and the row of what is done, while bags are taken. -/
structure FrT (w0 : World) (g h : Nat) (A1 : Option Addr) (T : List Int) (n : Nat) (p : Nat → Bool) (L : List (List Bg)) (A : Option Addr) (c : Nat) (W : World) : Prop where
  bel : Below w0.heap.size w0 W
  gR : w0.heap.size ≤ g
  hR : w0.heap.size ≤ h
  gh : g ≠ h
  due : NumsIn g W A1 T
  due2 : NumsIn h W A1 T
  box : W.heap[g]? = some (lnsO 20 A n c)
  sto : StoI (fun b => b = g ∨ b = h) W A L c
  len : L.length = n
  done : W.heap[h]? = some (.cells (doneA p T.length) 4 (0, 0))
theorem FrT.ltg (k : FrT w0 g h A1 T n p L A c W) : g < W.heap.size := (Array.getElem?_eq_some_iff.1 k.box).1
theorem FrT.lth (k : FrT w0 g h A1 T n p L A c W) : h < W.heap.size := (Array.getElem?_eq_some_iff.1 k.done).1
theorem FrT.old (k : FrT w0 g h A1 T n p L A c W) : Old (fun b => b = g ∨ b = h) W := fun b e => by
  rcases e with rfl | rfl
  · exact k.ltg
  · exact k.lth
theorem FrT.below (k : FrT w0 g h A1 T n p L A c W) (hb : Below W.heap.size W W') : FrT w0 g h A1 T n p L A c W' :=
  ⟨onward k.bel hb, k.gR, k.hR, k.gh, k.due.keep hb, k.due2.keep hb, heap_below k.box hb, k.sto.below hb, k.len, heap_below k.done hb⟩
theorem FrT.put (k : FrT w0 g h A1 T n p L A c W) (s : StoI (fun b => b = g ∨ b = h) W A' L' c') (hl : L'.length = n) : FrT w0 g h A1 T n p L' A' c' (W.setRow g #[.int .i64 20, .slice A' n c']) :=
  ⟨below_row k.bel k.gR _, k.gR, k.hR, k.gh, k.due.grown (grown_row W g _), fun hn => by
    obtain ⟨q, off, e, hq, hc⟩ := k.due hn
    obtain ⟨q', off', e', hq', _⟩ := k.due2 hn
    rw [e] at e'; injection e' with e'; injection e' with e1 e2; subst e1; subst e2
    exact ⟨q, off, e, hq', fun i hi => (KepS.setRow (S := fun b => b = g) W _ rfl) _ _ hq (hc i hi)⟩,
   setRow_heap W g _ _ _ _ k.box, s.keep (KepS.setRow W _ (.inl rfl)), hl, by rw [setRow_other _ _ _ _ (Ne.symm k.gh)]; exact k.done⟩
theorem FrT.mark (k : FrT w0 g h A1 T n p L A c W) (b : Nat) : FrT w0 g h A1 T n (butP p b) L A c (W.setCell ⟨h, b, none⟩ (.bool true)) :=
  ⟨k.bel.setCell (show w0.heap.size ≤ (Addr.mk h b none).block from k.hR) _, k.gR, k.hR, k.gh, fun hn => by
    obtain ⟨q, off, e, hq, hc⟩ := k.due2 hn
    obtain ⟨q', off', e', hq', _⟩ := k.due hn
    rw [e] at e'; injection e' with e'; injection e' with e1 e2; subst e1; subst e2
    exact ⟨q, off, e, hq', fun i hi => (KepS.grown (S := fun b => b = h) (grown_set W h _ _) rfl) _ _ hq (hc i hi)⟩,
   k.due2.grown (grown_set W h _ _), heap_setOther k.box k.gh _, k.sto.keep (KepS.grown (grown_set W h _ _) (.inr rfl)), k.len, by rw [heap_set k.done, doneA_set]⟩
theorem FrT.start (k : FrS w0 g A1 T n L A c W) : FrT w0 g W.heap.size A1 T n allP L A c (W.alloc (.cells (madeCells #[.bool false] T.length) 4)) := by
  have b1 := below_new (Below.refl W.heap.size W) (.cells (madeCells #[.bool false] T.length) 4)
  have hg := k.lt
  have hR := k.gR
  exact ⟨onward k.bel b1, k.gR, by omega, by omega, k.due.keep b1, (k.due.other (Nat.le_refl _)).keep b1, heap_below k.box b1, (k.sto.mono fun b hb (e : b = g ∨ b = W.heap.size) => e.elim id fun e => absurd e (by omega)).below b1, k.len, by rw [heap_alloc_new, doneA_zero]⟩
end
theorem smakeB (n : Nat) (hn : n ≤ 1000000) (w : World) : (Instr.makeSlice 51 (.int .i64 (n : Int)) (.int .i64 (n : Int))).run Try.prog w = .ok (.slice (some ⟨w.heap.size, 0, none⟩) n n) (w.alloc (.cells (madeCells #[.bool false] n) 4)) :=
  run_make_row' 51 4 (.bool false) 1 Try.underlying51 (by kernel_rfl) rfl .i64 .i64 n (by omega) (by omega) w
theorem yields_loadLn {ops : Array Oper} {S : World → Prop} {o : Oper} {a : Act} {g : Nat} {dp : Int} {A : Option Addr} {n c : Nat} (x : Operand) (ho : o.op = .load 42 x)
    (hx : a.eval x = .pointer (some ⟨g, 0, none⟩)) (hw : Region.wanted o (yielded ops a.tmps) = true) (hS : ∀ w, S w → w.heap[g]? = some (lnsO dp A n c)) : YieldsIf Try.prog ops S o (lnsV dp A n c) a := by
  refine .inl ⟨hw, fun w hs => ?_⟩
  unfold execOp
  simp only [ho, hx, Instr.loadAt, Instr.sureAddr, Sem.run_bind, Sem.run_pure, Result.andThen_ok, run_loadVar_row w g 42 42 _ (0, 0) _ (hS w hs) Try.underlying42 rfl infoLn]
end Go.Proofs.Ytmmhchhekmcihaa
