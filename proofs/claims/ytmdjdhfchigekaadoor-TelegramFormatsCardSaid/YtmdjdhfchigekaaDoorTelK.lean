/-
  Telegrams that the reader builds: what is kept while rows grow; the mathematics of the few telegrams.
-/
import Derived.Test.YtmdjdhfchigekaaDoorTelL
import Derived.Test.YtmdjdhfchigekaaDoorTelV
import Derived.Laws.OwnMore
import Derived.Deep.AppendLies
import Derived.Deep.RegionHeldLaw
namespace Go.Proofs.YtmdjdhfchigekaaDoor
open Go.RowKit

theorem info_strE : (Tryd.prog.info? 9).map (fun i => (i.zero, i.size, i.bytes)) = some (some (.string ByteArray.empty), 1, 16) := by kernel_rfl
theorem info_el : (Tryd.prog.info? 34).map (fun i => (i.zero, i.size, i.bytes)) = some (some (.agg #[.string ByteArray.empty, .slice none 0 0]), 2, 40) := by kernel_rfl

/-- All rows of strings but block b stay. -/
def KeepS (b : Nat) (w w' : World) : Prop := ∀ g cs fz, w.heap[g]? = some (.cells cs 9 fz) → g ≠ b → w'.heap[g]? = some (.cells cs 9 fz)
theorem KeepS.refl (b : Nat) (w : World) : KeepS b w w := fun _ _ _ h _ => h
theorem KeepS.trans {b : Nat} {w w1 w2 : World} (h : KeepS b w w1) (k : KeepS b w1 w2) : KeepS b w w2 := fun g cs fz hg hne => k g cs fz (h g cs fz hg hne) hne
theorem KeepS.reads {b : Nat} {w w' : World} (h : w.grownBy w' (some b)) : KeepS b w w' := fun g _ _ hg hne => by
  rw [h.block g (Array.getElem?_eq_some_iff.1 hg).1 (by simpa using hne)]; exact hg
theorem KeepS.below {b : Nat} {w w' : World} (h : Below w.heap.size w w') : KeepS b w w' := fun g _ _ hg _ => by
  rw [h.block g (Array.getElem?_eq_some_iff.1 hg).1]; exact hg
theorem KeepS.set {b x : Nat} {w : World} {cs : Array Value} {t : TypeId} {fz : Nat × Nat} (h : w.heap[x]? = some (.cells cs t fz)) (ht : t ≠ 9) (i : Nat) (v : Value) : KeepS b w (w.setCell ⟨x, i, none⟩ v) := fun g cs' fz' hg _ => by
  rw [Below.heap_setCell _ _ _ _ (fun e => by have e' : g = x := e; subst e'; rw [h] at hg; injection hg with hg; injection hg with _ hg _; exact ht hg)]
  exact hg
theorem KeepS.grow {b : Nat} {w w' : World} {base size n : Nat} {t : TypeId} {v : Value} {xs : List Value} (ho : w.ownsRow base t size v n xs) (ht : t ≠ 9) (h : w.grownBy w' v.ownBlock) : KeepS b w w' := fun g cs fz hg _ => by
  rw [h.block g (Array.getElem?_eq_some_iff.1 hg).1 ?_]
  · exact hg
  · intro e
    rcases ho.2 with ⟨rfl, _⟩ | ⟨g', cap, cur, rfl, _, hgg, _⟩
    · cases e
    · have e' : g = g' := by injection e
      subst e'
      rw [hgg] at hg; injection hg with hg; injection hg with _ hg _; exact ht hg

theorem KeepS.other {b x : Nat} {w w' : World} {cs : Array Value} {t : TypeId} {fz : Nat × Nat} (hg : w.grownBy w' (some x)) (h : w.heap[x]? = some (.cells cs t fz)) (ht : t ≠ 9) : KeepS b w w' := fun g cs' fz' hgg _ => by
  rw [hg.block g (Array.getElem?_eq_some_iff.1 hgg).1 ?_]
  · exact hgg
  · intro e
    injection e with e
    subst e
    rw [h] at hgg; injection hgg with hgg; injection hgg with _ hgg _; exact ht hgg
theorem own_ne {w : World} {base x size n : Nat} {t t' : TypeId} {v : Value} {xs : List Value} {cs : Array Value} {fz : Nat × Nat} (ho : w.ownsRow base t size v n xs) (h : w.heap[x]? = some (.cells cs t' fz)) (ht : t' ≠ t) : some x ≠ v.ownBlock := fun e => by
  rcases ho.2 with ⟨rfl, _⟩ | ⟨g, cap, cur, rfl, _, hgg, _⟩
  · cases e
  · have e' : x = g := by injection e
    subst e'
    rw [h] at hgg; injection hgg with hgg; injection hgg with _ hgg _; exact ht hgg
theorem grown_new {a w w' : World} {b : Nat} {row : Option Nat} (h : a.grownBy w (some b)) (hg : w.grownBy w' row) (hr : ∀ k, row = some k → a.heap.size ≤ k) : a.grownBy w' (some b) :=
  ⟨hg.os.trans h.os, hg.tape.trans h.tape, hg.output.trans h.output, Nat.le_trans h.size hg.size, fun k hk hne => (hg.block k (Nat.lt_of_lt_of_le hk h.size) (fun e => by have := hr k e.symm; omega)).trans (h.block k hk hne)⟩
theorem heap_set1 {w : World} {x : Nat} {u v y : Value} {t : TypeId} (h : w.heap[x]? = some (.cells #[u, v] t (0, 0))) : (w.setCell ⟨x, 1, none⟩ y).heap[x]? = some (.cells #[u, y] t (0, 0)) := by
  simp [World.setCell, Array.getElem?_modify, h]
theorem heap_set2 {w : World} {x : Nat} {u v q y : Value} {t : TypeId} (h : w.heap[x]? = some (.cells #[u, v, q] t (0, 0))) : (w.setCell ⟨x, 2, none⟩ y).heap[x]? = some (.cells #[u, v, y] t (0, 0)) := by
  simp [World.setCell, Array.getElem?_modify, h]

/-- A row of strings, known whole. -/
def StrRow (b : Nat) (w : World) (A : Option Addr) (ps : List ByteArray) : Prop :=
  0 < ps.length → ∃ g cs fz, A = some ⟨g, 0, none⟩ ∧ g ≠ b ∧ w.heap[g]? = some (.cells cs 9 fz) ∧ ∀ i, i < ps.length → cs[i]? = some (.string (ps.getD i ByteArray.empty))
theorem StrRow.step {b : Nat} {w w' : World} {A : Option Addr} {ps : List ByteArray} (h : StrRow b w A ps) (k : KeepS b w w') : StrRow b w' A ps := fun hn => by
  obtain ⟨g, cs, fz, hA, hne, hg, hc⟩ := h hn
  exact ⟨g, cs, fz, hA, hne, k g cs fz hg hne, hc⟩
theorem StrRow.strs {b : Nat} {w : World} {A : Option Addr} {ps : List ByteArray} (h : StrRow b w A ps) : StrsIn b w A ps := fun hn => by
  obtain ⟨g, cs, fz, hA, hne, hg, hc⟩ := h hn
  exact ⟨g, 0, hA, hne, fun i hi => by rw [Nat.zero_add, Lib.cell_of_heap hg]; exact hc i hi⟩
theorem StrRow.own {b base cap : Nat} {w : World} {A : Option Addr} {ps : List ByteArray} (h : w.ownsRow base 9 1 (.slice A ps.length cap) ps.length (ps.map Value.string)) (hb : b < base) : StrRow b w A ps := fun hn => by
  rcases h.2 with ⟨_, h0⟩ | ⟨g, cap', cur, hv, hbg, hg, _, _, _, ht⟩
  · omega
  · injection hv with hA
    refine ⟨g, cur, _, hA, by omega, hg, fun i hi => ?_⟩
    rw [← Array.getElem?_toList]
    have : (cur.toList.take (ps.length * 1))[i]? = some (.string (ps.getD i ByteArray.empty)) := by
      rw [ht, List.getElem?_map, List.getElem?_eq_getElem hi, at_k hi]; rfl
    rw [List.getElem?_take] at this
    split at this
    · exact this
    · cases this

/-- The cells of elements with their slices. -/
abbrev ElS := El × Option Addr × Nat
def elCells (x : ElS) : List Value := [.string x.1.1, .slice x.2.1 x.1.2.length x.2.2]
theorem elCells_at (xs : List ElS) (i : Nat) (h : i < xs.length) : (xs.flatMap elCells)[i * 2]? = some (.string (xs[i]).1.1) ∧ (xs.flatMap elCells)[i * 2 + 1]? = some (.slice (xs[i]).2.1 (xs[i]).1.2.length (xs[i]).2.2) := by
  induction xs generalizing i with
  | nil => simp at h
  | cons x xs ih =>
    cases i with
    | zero => exact ⟨rfl, rfl⟩
    | succ i =>
      have h' : i < xs.length := by simpa using h
      obtain ⟨h1, h2⟩ := ih i h'
      rw [show (i + 1) * 2 = i * 2 + 1 + 1 by omega]
      exact ⟨h1, h2⟩
theorem elCells_length (xs : List ElS) : (xs.flatMap elCells).length = xs.length * 2 := by
  induction xs with
  | nil => rfl
  | cons x xs ih => rw [List.flatMap_cons, List.length_append, ih]; simp [elCells]; omega
/-- Elements that stand in memory, in blocks that are not b. -/
def Fin (b : Nat) (w : World) (xs : List ElS) : Prop := ∀ x ∈ xs, StrRow b w x.2.1 x.1.2
theorem Fin.step {b : Nat} {w w' : World} {xs : List ElS} (h : Fin b w xs) (k : KeepS b w w') : Fin b w' xs := fun x hx => (h x hx).step k
theorem Fin.snoc {b : Nat} {w : World} {xs : List ElS} (h : Fin b w xs) {x : ElS} (hx : StrRow b w x.2.1 x.1.2) : Fin b w (xs ++ [x]) := fun y hy => by
  rcases List.mem_append.1 hy with hy | hy
  · exact h y hy
  · rw [List.mem_singleton.1 hy]; exact hx
theorem Fin.els {b base cap : Nat} {w : World} {A : Option Addr} {xs : List ElS} (h : Fin b w xs) (ho : w.ownsRow base 34 2 (.slice A xs.length cap) xs.length (xs.flatMap elCells)) (hb : b < base) : ElsIn b w A (xs.map (·.1)) := fun hn => by
  rw [List.length_map] at hn
  rcases ho.2 with ⟨_, h0⟩ | ⟨g, cap', cur, hv, hbg, hg, _, _, _, ht⟩
  · omega
  · injection hv with hA
    subst hA
    refine ⟨g, 0, rfl, by omega, fun i hi => ?_⟩
    rw [List.length_map] at hi
    have e1 : (xs.map (·.1)).getD i el0 = xs[i].1 := by rw [List.getD_eq_getElem?_getD, List.getElem?_map, List.getElem?_eq_getElem hi]; rfl
    have cell : ∀ j u, (xs.flatMap elCells)[j]? = some u → w.cell? ⟨g, 0 + j, none⟩ = some u := fun j u hu => by
      rw [Nat.zero_add, Lib.cell_of_heap hg, ← Array.getElem?_toList]
      rw [← ht, List.getElem?_take] at hu
      split at hu
      · exact hu
      · cases hu
    obtain ⟨c0, c1⟩ := elCells_at xs i hi
    refine ⟨by rw [e1]; exact cell _ _ c0, xs[i].2.1, xs[i].2.2, by rw [e1]; exact cell _ _ c1, ?_⟩
    rw [e1]
    exact (h xs[i] (List.getElem_mem _)).strs

/-- The few telegrams: kinds, changes, and elements of one to three parts. -/
def kindS (i : Nat) : ByteArray := if i = 0 then ⟨#[66, 83, 77]⟩ else if i = 1 then ⟨#[66, 84, 77]⟩ else ⟨#[88, 89, 90]⟩
def chngS (i : Nat) : ByteArray := if i = 0 then ⟨#[]⟩ else if i = 1 then ⟨#[67, 72, 71]⟩ else ⟨#[68, 69, 76]⟩
def partS (i : Nat) : ByteArray := if i = 0 then ⟨#[]⟩ else if i = 1 then ⟨#[65, 49]⟩ else if i = 2 then ⟨#[83, 75, 48, 49, 50, 51]⟩ else if i = 3 then ⟨#[74, 45, 32, 43]⟩ else ⟨#[48, 49, 50, 51, 52, 53, 54, 55, 56, 57, 65, 66, 67, 68, 69, 70, 71, 72, 73, 74]⟩
theorem five_strs {w : World} {x y z u v : ByteArray} {f : Nat → ByteArray} {t : TypeId} (h0 : f 0 = x) (h1 : f 1 = y) (h2 : f 2 = z) (h3 : f 3 = u) (h4 : f 4 = v) : ∀ i, i < 5 → (w.alloc (.cells #[.string x, .string y, .string z, .string u, .string v] t)).cell? ⟨w.heap.size, i, none⟩ = some (.string (f i)) := fun i hi => by
  subst h0 h1 h2 h3 h4
  match i, hi with
  | 0, _ | 1, _ | 2, _ | 3, _ | 4, _ => simp [go_sem]
/-- A part that the reader may choose. -/
def okPart (p : ByteArray) : Bool := pcB p && shB p
theorem partS_ok (i : Nat) : okPart (partS i) = true := by
  unfold partS
  split
  · decide +kernel
  · split
    · decide +kernel
    · split
      · decide +kernel
      · split <;> decide +kernel
theorem kindS_ok (i : Nat) : letN (kindS i) 3 = true := by
  unfold kindS
  split
  · decide +kernel
  · split <;> decide +kernel
theorem chngS_ok (i : Nat) : okCh (chngS i) = true := by
  unfold chngS
  split
  · decide +kernel
  · split <;> decide +kernel
def okEl (e : El) : Bool := letN e.1 1 && (decide (1 ≤ e.2.length ∧ e.2.length ≤ 3) && e.2.all okPart)
/-- A telegram that the reader may build. -/
def FewT (t : Tel) : Prop := (∃ i, t.kind = kindS i) ∧ (∃ i, t.change = chngS i) ∧ t.els.length ≤ 4 ∧ t.els.all okEl = true
theorem okPart_all {l : List ByteArray} (h : l.all okPart = true) : l.all pcB = true ∧ l.all shB = true := by
  rw [List.all_eq_true] at h
  constructor <;> rw [List.all_eq_true] <;> intro x hx <;> have := h x hx <;> unfold okPart at this <;> rw [Bool.and_eq_true] at this
  · exact this.1
  · exact this.2
theorem okEl_all {l : List El} (h : l.all okEl = true) : l.all felB = true ∧ l.all belB = true := by
  rw [List.all_eq_true] at h
  constructor <;> rw [List.all_eq_true] <;> intro x hx <;> have := h x hx <;> unfold okEl at this <;> rw [Bool.and_eq_true, Bool.and_eq_true, decide_eq_true_eq] at this <;> obtain ⟨h1, h2, h3⟩ := this <;> obtain ⟨h4, h5⟩ := okPart_all h3
  · unfold felB
    rw [h1, h4]
    have : (x.2.length == 0) = false := by rw [beq_eq_false_iff_ne]; omega
    rw [this]; rfl
  · unfold belB
    rw [h5, Bool.and_true, decide_eq_true_eq]; omega
theorem fewT_parts {l : List ByteArray} (h : l.all okPart = true) (hl : l.length ≤ 3) : (l.flatMap partX).length ≤ 63 := by
  have := parts_len (okPart_all h).2
  omega
theorem fewT_els {l : List El} (h : l.all okEl = true) : (l.flatMap elX).length ≤ 66 * l.length := by
  induction l with
  | nil => simp
  | cons x l ih =>
    rw [List.all_cons, Bool.and_eq_true] at h
    have h1 := ih h.2
    have h2 := h.1
    unfold okEl at h2
    rw [Bool.and_eq_true, Bool.and_eq_true, decide_eq_true_eq] at h2
    have h3 := fewT_parts h2.2.2 h2.2.1.2
    have h4 : (x.1.size : Int) = 1 := by
      have := h2.1
      unfold letN at this
      rw [Bool.and_eq_true, decide_eq_true_eq] at this
      exact this.1
    have h5 : (elX x).length = 1 + (x.1.size + ((x.2.flatMap partX).length + 1)) := by simp [elX]; omega
    rw [List.flatMap_cons, List.length_append, h5, List.length_cons]
    omega
theorem few_ok {t : Tel} (h : FewT t) : telE t = 0 := by
  obtain ⟨⟨i, hi⟩, ⟨j, hj⟩, h4, he⟩ := h
  obtain ⟨h1, h2⟩ := okEl_all he
  refine telE_0 ?_ ?_ ?_
  · unfold telF; rw [hi, hj, kindS_ok, chngS_ok, h1]; rfl
  · unfold telB; rw [h2, Bool.and_true, decide_eq_true_eq]; omega
  · have h5 := fewT_els he
    unfold telX headX endX
    have h6 : t.kind.data.toList.length = 3 := by
      rw [hi]; unfold kindS; split
      · rfl
      · split <;> rfl
    have h7 : t.change.data.toList.length ≤ 3 := by
      rw [hj]; unfold chngS; split
      · simp
      · split <;> simp
    simp only [List.length_append, List.length_cons, List.length_nil, h6]
    split <;> simp only [List.length_append, List.length_cons, List.length_nil] <;> omega
theorem few_small {t : Tel} (h : FewT t) : SmallT t := by
  obtain ⟨⟨i, hi⟩, ⟨j, hj⟩, h4, he⟩ := h
  refine ⟨by omega, ?_, ?_, fun e hx => ?_⟩
  · rw [hi]; unfold kindS; split
    · decide
    · split <;> decide
  · rw [hj]; unfold chngS; split
    · decide
    · split <;> decide
  · have h2 := List.all_eq_true.1 he e hx
    unfold okEl at h2
    rw [Bool.and_eq_true, Bool.and_eq_true, decide_eq_true_eq] at h2
    have h4 : (e.1.size : Int) = 1 := by
      have := h2.1
      unfold letN at this
      rw [Bool.and_eq_true, decide_eq_true_eq] at this
      exact this.1
    refine ⟨by omega, by omega, fun p hp => ?_⟩
    have := List.all_eq_true.1 (okPart_all h2.2.2).2 p hp
    have := of_decide_eq_true this
    omega
end Go.Proofs.YtmdjdhfchigekaaDoor
