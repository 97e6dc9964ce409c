/-
  Telegrams: plain mathematics; telegrams in memory, the program's checks; rows of strings and of elements.
-/
import Derived.Test.YtbajmbegkacbbaaLibB
import Derived.Laws.OwnMore
import Derived.Deep.AppendLies
import Derived.Deep.RegionHeldLaw

/- TelM: Plain mathematics of telegrams: what is formed, what keeps the limits, the text, the error; no program, no world. -/
namespace Go.Proofs.Ytbajmbegkacbbaa

section
variable {α : Type} {p : α → Bool} {l : List α} {d : α} {k : Nat}
theorem at_k (h : k < l.length) : l.getD k d = l[k] := by rw [List.getD_eq_getElem?_getD, List.getElem?_eq_getElem h]; rfl
theorem all_zero : (l.take 0).all p = true := rfl
theorem all_step (h : k < l.length) (h0 : (l.take k).all p = true) (h1 : p (l.getD k d) = true) : (l.take (k + 1)).all p = true := by
  rw [List.take_succ_eq_append_getElem h, List.all_append, h0]
  rw [at_k h] at h1
  simp [h1]
theorem all_no (h : k < l.length) (h1 : p (l.getD k d) = false) : l.all p = false := by
  rw [List.all_eq_false]
  rw [at_k h] at h1
  exact ⟨l[k], List.getElem_mem _, by rw [h1]; exact Bool.false_ne_true⟩
theorem all_all (h : l.length ≤ k) (h0 : (l.take k).all p = true) : l.all p = true := by
  rwa [List.take_of_length_le h] at h0
theorem all_at (h : l.all p = true) (hk : k < l.length) : p (l.getD k d) = true := by
  rw [at_k hk]; exact List.all_eq_true.1 h _ (List.getElem_mem _)
end

/-- A byte that may stand in a part. -/
def isPc (c : Int) : Bool := isLe c || (isD c || (decide (c = 32) || (decide (c = 45) || decide (c = 43))))
def pcU (c : UInt8) : Bool := isPc (c.toNat : Int)
/-- All bytes of a part are permitted. -/
def pcB (s : ByteArray) : Bool := s.data.toList.all pcU
theorem byte_at {s : ByteArray} {k : Nat} (h : k < s.size) : s.data.toList.getD k 0 = s[k] := by
  rw [at_k (by simpa using h)]; rfl
theorem pc_step {s : ByteArray} {k : Nat} (h : k < s.size) (h0 : (s.data.toList.take k).all pcU = true) (h1 : isPc (s[k].toNat : Int) = true) : (s.data.toList.take (k + 1)).all pcU = true :=
  all_step (d := 0) (by simpa using h) h0 (by rw [byte_at h]; exact h1)
theorem pc_no {s : ByteArray} {k : Nat} (h : k < s.size) (h1 : isPc (s[k].toNat : Int) = false) : pcB s = false :=
  all_no (d := 0) (k := k) (by simpa using h) (by rw [byte_at h]; exact h1)
theorem pc_all {s : ByteArray} {k : Nat} (h : s.size ≤ k) (h0 : (s.data.toList.take k).all pcU = true) : pcB s = true := all_all (by simpa using h) h0

/-- An element: its key, its parts. -/
abbrev El := ByteArray × List ByteArray
def el0 : El := (ByteArray.empty, [])
def felB (e : El) : Bool := letN e.1 1 && (!(e.2.length == 0) && e.2.all pcB)
def shB (s : ByteArray) : Bool := decide (s.size ≤ 20)
def belB (e : El) : Bool := decide (e.2.length ≤ 8) && e.2.all shB
/-- A telegram. -/
structure Tel where
  kind : ByteArray
  change : ByteArray
  els : List El
def chg : ByteArray := ⟨#[67, 72, 71]⟩
def del : ByteArray := ⟨#[68, 69, 76]⟩
def chB (s : ByteArray) : Bool := (s.toList == [67, 72, 71]) || (s.toList == [68, 69, 76])
def okCh (s : ByteArray) : Bool := s.toList.isEmpty || chB s
def telF (t : Tel) : Bool := letN t.kind 3 && (okCh t.change && t.els.all felB)
def telB (t : Tel) : Bool := decide (t.els.length ≤ 24) && t.els.all belB
/-- A part with its slash. -/
def partX (p : ByteArray) : List UInt8 := 47 :: p.data.toList
def elX (e : El) : List UInt8 := 46 :: (e.1.data.toList ++ (e.2.flatMap partX ++ [10]))
def headX (t : Tel) : List UInt8 := t.kind.data.toList ++ [10] ++ (if t.change.toList.isEmpty then [] else t.change.data.toList ++ [10])
def endX (t : Tel) : List UInt8 := [69, 78, 68] ++ t.kind.data.toList ++ [10]
/-- The text. -/
def telX (t : Tel) : List UInt8 := headX t ++ (t.els.flatMap elX ++ endX t)
def telE (t : Tel) : Int := if telF t then (if telB t then (if (telX t).length ≤ 2048 then 0 else 2) else 2) else 3
def telS (t : Tel) : ByteArray := if telE t = 0 then ⟨(telX t).toArray⟩ else ByteArray.empty
theorem telE_1 {t : Tel} (h : telF t = false) : telE t = 3 := by unfold telE; rw [h]; rfl
theorem telE_2 {t : Tel} (h : telF t = true) (h2 : telB t = false) : telE t = 2 := by unfold telE; rw [h, h2]; rfl
theorem telE_3 {t : Tel} (h : telF t = true) (h2 : telB t = true) (h3 : 2048 < (telX t).length) : telE t = 2 := by unfold telE; rw [h, h2, if_pos rfl, if_pos rfl, if_neg (by omega)]
theorem telE_0 {t : Tel} (h : telF t = true) (h2 : telB t = true) (h3 : (telX t).length ≤ 2048) : telE t = 0 := by unfold telE; rw [h, h2, if_pos rfl, if_pos rfl, if_pos h3]
theorem telS_no {t : Tel} (h : telE t ≠ 0) : telS t = ByteArray.empty := by unfold telS; rw [if_neg h]
theorem telS_0 {t : Tel} (h : telE t = 0) : telS t = ⟨(telX t).toArray⟩ := by unfold telS; rw [if_pos h]
theorem tel_valid {t : Tel} (h : telE t = 0) : telF t = true ∧ telB t = true ∧ (telX t).length ≤ 2048 := by
  unfold telE at h
  by_cases h1 : telF t = true
  · by_cases h2 : telB t = true
    · by_cases h3 : (telX t).length ≤ 2048
      · exact ⟨h1, h2, h3⟩
      · rw [if_pos h1, if_pos h2, if_neg h3] at h; omega
    · rw [if_pos h1, if_neg h2] at h; omega
  · rw [if_neg h1] at h; omega

/-- How long a text within the limits can be. -/
theorem parts_len {l : List ByteArray} (h : l.all shB = true) : (l.flatMap partX).length ≤ 21 * l.length := by
  induction l with
  | nil => simp
  | cons x l ih =>
    rw [List.all_cons, Bool.and_eq_true] at h
    have h1 := ih h.2
    have h2 : x.size ≤ 20 := by simpa [shB] using h.1
    rw [List.flatMap_cons, List.length_append]
    have : (partX x).length = x.size + 1 := by simp [partX]
    rw [this, List.length_cons]
    omega
theorem els_len {l : List El} (h : l.all belB = true) (hf : l.all felB = true) : (l.flatMap elX).length ≤ 171 * l.length := by
  induction l with
  | nil => simp
  | cons x l ih =>
    rw [List.all_cons, Bool.and_eq_true] at h hf
    have h1 := ih h.2 hf.2
    have h2 := h.1
    have h3 := hf.1
    unfold belB at h2
    unfold felB at h3
    rw [Bool.and_eq_true] at h2 h3
    have h4 := parts_len h2.2
    have h5 : x.2.length ≤ 8 := by simpa using h2.1
    have h6 : (x.1.size : Int) = 1 := by
      have := h3.1
      unfold letN at this
      rw [Bool.and_eq_true] at this
      simpa using this.1
    rw [List.flatMap_cons, List.length_append]
    have : (elX x).length = 1 + (x.1.size + ((x.2.flatMap partX).length + 1)) := by simp [elX]; omega
    rw [this, List.length_cons]
    omega
theorem tel_len {t : Tel} (h : telF t = true) (h2 : telB t = true) : (telX t).length ≤ 5000 := by
  unfold telF at h
  unfold telB at h2
  rw [Bool.and_eq_true, Bool.and_eq_true] at h
  rw [Bool.and_eq_true] at h2
  have h3 := els_len h2.2 h.2.2
  have h4 : t.els.length ≤ 24 := by simpa using h2.1
  have h5 : (t.kind.size : Int) = 3 := by
    have := h.1
    unfold letN at this
    rw [Bool.and_eq_true] at this
    simpa using this.1
  have h6 : t.change.data.toList.length ≤ 3 := by
    have := h.2.1
    unfold okCh chB at this
    simp only [Bool.or_eq_true, List.isEmpty_iff, beq_iff_eq, ByteArray.toList_eq] at this
    rcases this with h | h | h <;> rw [h] <;> simp
  have h7 : (headX t).length ≤ 8 := by
    unfold headX
    simp only [List.length_append, List.length_cons, List.length_nil]
    have : t.kind.data.toList.length = t.kind.size := by simp
    split <;> simp <;> simp at h6 <;> omega
  have h8 : (endX t).length = 7 := by
    unfold endX
    have : t.kind.data.toList.length = t.kind.size := by simp
    simp only [List.length_append, List.length_cons, List.length_nil]
    omega
  unfold telX
  rw [List.length_append, List.length_append, h8]
  omega
end Go.Proofs.Ytbajmbegkacbbaa

/- TelA: Telegrams in memory; contracts of the checks of telegrams, the program's (validKind, validChange, formedPart, formedElement, formed, boundedElement, bounded). -/
namespace Go.Proofs.Ytbajmbegkacbbaa
open Go.RowKit

/-- Some strings, in a block that is not b. -/
def StrsIn (b : Nat) (w : World) (A : Option Addr) (ps : List ByteArray) : Prop :=
  0 < ps.length → ∃ g off, A = some ⟨g, off, none⟩ ∧ g ≠ b ∧ ∀ i, i < ps.length → w.cell? ⟨g, off + i, none⟩ = some (.string (ps.getD i ByteArray.empty))
theorem StrsIn.keep {b : Nat} {w w1 : World} {A : Option Addr} {ps : List ByteArray} (h : StrsIn b w A ps) (hb : Below w.heap.size w w1) : StrsIn b w1 A ps := fun hn => by
  obtain ⟨g, off, hA, hg, hc⟩ := h hn
  exact ⟨g, off, hA, hg, fun i hi => kept hb (hc i hi)⟩
theorem StrsIn.grown {b : Nat} {w w1 : World} {A : Option Addr} {ps : List ByteArray} (h : StrsIn b w A ps) (hg : w.grownBy w1 (some b)) : StrsIn b w1 A ps := fun hn => by
  obtain ⟨g, off, hA, hgb, hc⟩ := h hn
  exact ⟨g, off, hA, hgb, fun i hi => hg.cell (hc i hi) (by simpa using hgb)⟩

/-- One element, in the cells 2 * i and 2 * i + 1 of block g. -/
def ElAt (b : Nat) (w : World) (g off i : Nat) (e : El) : Prop :=
  w.cell? ⟨g, off + i * 2, none⟩ = some (.string e.1) ∧ ∃ A c, w.cell? ⟨g, off + i * 2 + 1, none⟩ = some (.slice A e.2.length c) ∧ StrsIn b w A e.2
theorem ElAt.keep {b : Nat} {w w1 : World} {g off i : Nat} {e : El} (h : ElAt b w g off i e) (hb : Below w.heap.size w w1) : ElAt b w1 g off i e := by
  obtain ⟨h1, A, c, h2, h3⟩ := h
  exact ⟨kept hb h1, A, c, kept hb h2, h3.keep hb⟩
theorem ElAt.grown {b : Nat} {w w1 : World} {g off i : Nat} {e : El} (h : ElAt b w g off i e) (hg : w.grownBy w1 (some b)) (hgb : g ≠ b) : ElAt b w1 g off i e := by
  obtain ⟨h1, A, c, h2, h3⟩ := h
  exact ⟨hg.cell h1 (by simpa using hgb), A, c, hg.cell h2 (by simpa using hgb), h3.grown hg⟩
/-- Some elements, in blocks that are not b. -/
def ElsIn (b : Nat) (w : World) (A : Option Addr) (es : List El) : Prop :=
  0 < es.length → ∃ g off, A = some ⟨g, off, none⟩ ∧ g ≠ b ∧ ∀ i, i < es.length → ElAt b w g off i (es.getD i el0)
theorem ElsIn.keep {b : Nat} {w w1 : World} {A : Option Addr} {es : List El} (h : ElsIn b w A es) (hb : Below w.heap.size w w1) : ElsIn b w1 A es := fun hn => by
  obtain ⟨g, off, hA, hg, hc⟩ := h hn
  exact ⟨g, off, hA, hg, fun i hi => (hc i hi).keep hb⟩
theorem ElsIn.grown {b : Nat} {w w1 : World} {A : Option Addr} {es : List El} (h : ElsIn b w A es) (hg : w.grownBy w1 (some b)) : ElsIn b w1 A es := fun hn => by
  obtain ⟨g, off, hA, hgb, hc⟩ := h hn
  exact ⟨g, off, hA, hgb, fun i hi => (hc i hi).grown hg hgb⟩

/-- Few elements with few parts. -/
def SmallE (e : El) : Prop := e.2.length ≤ 3000 ∧ e.1.size ≤ 3000 ∧ ∀ p ∈ e.2, p.size ≤ 3000
def SmallT (t : Tel) : Prop := t.els.length ≤ 3000 ∧ t.kind.size ≤ 3000 ∧ t.change.size ≤ 3000 ∧ ∀ e ∈ t.els, SmallE e
theorem SmallE.at {e : El} (h : SmallE e) {k : Nat} (hk : k < e.2.length) : (e.2.getD k ByteArray.empty).size ≤ 3000 := by
  rw [at_k hk]; exact h.2.2 _ (List.getElem_mem _)
theorem SmallT.at {t : Tel} (h : SmallT t) {k : Nat} (hk : k < t.els.length) : SmallE (t.els.getD k el0) := by
  rw [at_k hk]; exact h.2.2.2 _ (List.getElem_mem _)

theorem pc_of (c : Int) : isPc c = (isLe c || (isD c || (!(c != 32) || (!(c != 45) || !(c != 43))))) := by
  unfold isPc
  have e : ∀ x : Int, decide (c = x) = !(c != x) := fun x => by
    by_cases h : c = x <;> simp [h]
  rw [e, e, e]

theorem fel_of (key : ByteArray) (ps : List ByteArray) {a b : Bool} (ha : letN key 1 = a) (hb : ps.all pcB = b) : felB (key, ps) = (a && (!(ps.length == 0) && b)) := by
  unfold felB; rw [ha, hb]

end Go.Proofs.Ytbajmbegkacbbaa

/- RowS: Rows of strings and of elements in memory: what is kept while rows grow. -/
namespace Go.Proofs.Ytbajmbegkacbbaa
open Go.RowKit

theorem info_strE : (Try.prog.info? 9).map (fun i => (i.zero, i.size, i.bytes)) = some (some (.string ByteArray.empty), 1, 16) := by kernel_rfl
/-- All rows of strings but block b stay. -/
def KeepS (b : Nat) (w w' : World) : Prop := ∀ g cs fz, w.heap[g]? = some (.cells cs 9 fz) → g ≠ b → w'.heap[g]? = some (.cells cs 9 fz)
theorem KeepS.refl (b : Nat) (w : World) : KeepS b w w := fun _ _ _ h _ => h
theorem KeepS.trans {b : Nat} {w w1 w2 : World} (h : KeepS b w w1) (k : KeepS b w1 w2) : KeepS b w w2 := fun g cs fz hg hne => k g cs fz (h g cs fz hg hne) hne
theorem KeepS.reads {b : Nat} {w w' : World} (h : w.grownBy w' (some b)) : KeepS b w w' := fun g _ _ hg hne => by
  rw [h.block g (Array.getElem?_eq_some_iff.1 hg).1 (by simpa using hne)]; exact hg
theorem KeepS.below {b : Nat} {w w' : World} (h : Below w.heap.size w w') : KeepS b w w' := fun g _ _ hg _ => by
  rw [h.block g (Array.getElem?_eq_some_iff.1 hg).1]; exact hg
theorem KeepS.set {b x : Nat} {w : World} {cs : Array Value} {t : TypeId} {fz : Nat × Nat} (h : w.heap[x]? = some (.cells cs t fz)) (ht : t ≠ 9) (i : Nat) (v : Value) : KeepS b w (w.setCell ⟨x, i, none⟩ v) := fun g cs' fz' hg _ => by
  rw [Below.heap_setCell _ _ _ _ (fun e => by have e' : g = x := e; subst e'; rw [h] at hg; injection hg with hg; injection hg with _ hg _; exact ht hg)]
  exact hg
theorem KeepS.grow {b : Nat} {w w' : World} {base size n : Nat} {t : TypeId} {v : Value} {xs : List Value} (ho : w.ownsRow base t size v n xs) (ht : t ≠ 9) (h : w.grownBy w' v.ownBlock) : KeepS b w w' := fun g cs fz hg _ => by
  rw [h.block g (Array.getElem?_eq_some_iff.1 hg).1 ?_]
  · exact hg
  · intro e
    rcases ho.2 with ⟨rfl, _⟩ | ⟨g', cap, cur, rfl, _, hgg, _⟩
    · cases e
    · have e' : g = g' := by injection e
      subst e'
      rw [hgg] at hg; injection hg with hg; injection hg with _ hg _; exact ht hg

theorem KeepS.other {b x : Nat} {w w' : World} {cs : Array Value} {t : TypeId} {fz : Nat × Nat} (hg : w.grownBy w' (some x)) (h : w.heap[x]? = some (.cells cs t fz)) (ht : t ≠ 9) : KeepS b w w' := fun g cs' fz' hgg _ => by
  rw [hg.block g (Array.getElem?_eq_some_iff.1 hgg).1 ?_]
  · exact hgg
  · intro e
    injection e with e
    subst e
    rw [h] at hgg; injection hgg with hgg; injection hgg with _ hgg _; exact ht hgg
theorem own_ne {w : World} {base x size n : Nat} {t t' : TypeId} {v : Value} {xs : List Value} {cs : Array Value} {fz : Nat × Nat} (ho : w.ownsRow base t size v n xs) (h : w.heap[x]? = some (.cells cs t' fz)) (ht : t' ≠ t) : some x ≠ v.ownBlock := fun e => by
  rcases ho.2 with ⟨rfl, _⟩ | ⟨g, cap, cur, rfl, _, hgg, _⟩
  · cases e
  · have e' : x = g := by injection e
    subst e'
    rw [h] at hgg; injection hgg with hgg; injection hgg with _ hgg _; exact ht hgg
theorem grown_new {a w w' : World} {b : Nat} {row : Option Nat} (h : a.grownBy w (some b)) (hg : w.grownBy w' row) (hr : ∀ k, row = some k → a.heap.size ≤ k) : a.grownBy w' (some b) :=
  ⟨hg.os.trans h.os, hg.tape.trans h.tape, hg.output.trans h.output, Nat.le_trans h.size hg.size, fun k hk hne => (hg.block k (Nat.lt_of_lt_of_le hk h.size) (fun e => by have := hr k e.symm; omega)).trans (h.block k hk hne)⟩
theorem heap_set1 {w : World} {x : Nat} {u v y : Value} {t : TypeId} (h : w.heap[x]? = some (.cells #[u, v] t (0, 0))) : (w.setCell ⟨x, 1, none⟩ y).heap[x]? = some (.cells #[u, y] t (0, 0)) := by
  simp [World.setCell, Array.getElem?_modify, h]
theorem heap_set2 {w : World} {x : Nat} {u v q y : Value} {t : TypeId} (h : w.heap[x]? = some (.cells #[u, v, q] t (0, 0))) : (w.setCell ⟨x, 2, none⟩ y).heap[x]? = some (.cells #[u, v, y] t (0, 0)) := by
  simp [World.setCell, Array.getElem?_modify, h]

/-- A row of strings, known whole. -/
def StrRow (b : Nat) (w : World) (A : Option Addr) (ps : List ByteArray) : Prop :=
  0 < ps.length → ∃ g cs fz, A = some ⟨g, 0, none⟩ ∧ g ≠ b ∧ w.heap[g]? = some (.cells cs 9 fz) ∧ ∀ i, i < ps.length → cs[i]? = some (.string (ps.getD i ByteArray.empty))
theorem StrRow.step {b : Nat} {w w' : World} {A : Option Addr} {ps : List ByteArray} (h : StrRow b w A ps) (k : KeepS b w w') : StrRow b w' A ps := fun hn => by
  obtain ⟨g, cs, fz, hA, hne, hg, hc⟩ := h hn
  exact ⟨g, cs, fz, hA, hne, k g cs fz hg hne, hc⟩
theorem StrRow.strs {b : Nat} {w : World} {A : Option Addr} {ps : List ByteArray} (h : StrRow b w A ps) : StrsIn b w A ps := fun hn => by
  obtain ⟨g, cs, fz, hA, hne, hg, hc⟩ := h hn
  exact ⟨g, 0, hA, hne, fun i hi => by rw [Nat.zero_add, Lib.cell_of_heap hg]; exact hc i hi⟩
theorem StrRow.own {b base cap : Nat} {w : World} {A : Option Addr} {ps : List ByteArray} (h : w.ownsRow base 9 1 (.slice A ps.length cap) ps.length (ps.map Value.string)) (hb : b < base) : StrRow b w A ps := fun hn => by
  rcases h.2 with ⟨_, h0⟩ | ⟨g, cap', cur, hv, hbg, hg, _, _, _, ht⟩
  · omega
  · injection hv with hA
    refine ⟨g, cur, _, hA, by omega, hg, fun i hi => ?_⟩
    rw [← Array.getElem?_toList]
    have : (cur.toList.take (ps.length * 1))[i]? = some (.string (ps.getD i ByteArray.empty)) := by
      rw [ht, List.getElem?_map, List.getElem?_eq_getElem hi, at_k hi]; rfl
    rw [List.getElem?_take] at this
    split at this
    · exact this
    · cases this

/-- The cells of elements with their slices. -/
abbrev ElS := El × Option Addr × Nat
def elCells (x : ElS) : List Value := [.string x.1.1, .slice x.2.1 x.1.2.length x.2.2]
theorem elCells_at (xs : List ElS) (i : Nat) (h : i < xs.length) : (xs.flatMap elCells)[i * 2]? = some (.string (xs[i]).1.1) ∧ (xs.flatMap elCells)[i * 2 + 1]? = some (.slice (xs[i]).2.1 (xs[i]).1.2.length (xs[i]).2.2) := by
  induction xs generalizing i with
  | nil => simp at h
  | cons x xs ih =>
    cases i with
    | zero => exact ⟨rfl, rfl⟩
    | succ i =>
      have h' : i < xs.length := by simpa using h
      obtain ⟨h1, h2⟩ := ih i h'
      rw [show (i + 1) * 2 = i * 2 + 1 + 1 by omega]
      exact ⟨h1, h2⟩
theorem elCells_length (xs : List ElS) : (xs.flatMap elCells).length = xs.length * 2 := by
  induction xs with
  | nil => rfl
  | cons x xs ih => rw [List.flatMap_cons, List.length_append, ih]; simp [elCells]; omega
/-- Elements that stand in memory, in blocks that are not b. -/
def Fin (b : Nat) (w : World) (xs : List ElS) : Prop := ∀ x ∈ xs, StrRow b w x.2.1 x.1.2
theorem Fin.step {b : Nat} {w w' : World} {xs : List ElS} (h : Fin b w xs) (k : KeepS b w w') : Fin b w' xs := fun x hx => (h x hx).step k
theorem Fin.snoc {b : Nat} {w : World} {xs : List ElS} (h : Fin b w xs) {x : ElS} (hx : StrRow b w x.2.1 x.1.2) : Fin b w (xs ++ [x]) := fun y hy => by
  rcases List.mem_append.1 hy with hy | hy
  · exact h y hy
  · rw [List.mem_singleton.1 hy]; exact hx
theorem owns_below {w w' : World} {base size n : Nat} {t : TypeId} {v : Value} {xs : List Value} (ho : w.ownsRow base t size v n xs) (hb : Below w.heap.size w w') : w'.ownsRow base t size v n xs := by
  refine ⟨ho.1, ?_⟩
  rcases ho.2 with hn | ⟨g, cap, cur, hv, hbg, hgg, rest⟩
  · exact .inl hn
  · exact .inr ⟨g, cap, cur, hv, hbg, (hb.block g (Array.getElem?_eq_some_iff.1 hgg).1).trans hgg, rest⟩
theorem owns_other {w w' : World} {row : Option Nat} {base size n : Nat} {t : TypeId} {v : Value} {xs : List Value} (ho : w.ownsRow base t size v n xs) (hg : w.grownBy w' row) (hr : ∀ k, row = some k → k < base) : w'.ownsRow base t size v n xs := by
  refine ⟨ho.1, ?_⟩
  rcases ho.2 with hn | ⟨g, cap, cur, hv, hbg, hgg, rest⟩
  · exact .inl hn
  · exact .inr ⟨g, cap, cur, hv, hbg, (hg.block g (Array.getElem?_eq_some_iff.1 hgg).1 (fun e => by have := hr g e.symm; omega)).trans hgg, rest⟩
/-- All blocks of a type stay. -/
def KeepTy (t : TypeId) (w w' : World) : Prop := ∀ (g : Nat) (cs : Array Value) (fz : Nat × Nat), w.heap[g]? = some (.cells cs t fz) → w'.heap[g]? = some (.cells cs t fz)
theorem KeepTy.refl (t : TypeId) (w : World) : KeepTy t w w := fun _ _ _ h => h
theorem KeepTy.trans {t : TypeId} {w w1 w2 : World} (h : KeepTy t w w1) (k : KeepTy t w1 w2) : KeepTy t w w2 := fun g cs fz hg => k g cs fz (h g cs fz hg)
theorem KeepTy.below {t : TypeId} {w w' : World} (h : Below w.heap.size w w') : KeepTy t w w' := fun g _ _ hg => by
  rw [h.block g (Array.getElem?_eq_some_iff.1 hg).1]; exact hg
theorem KeepTy.s {w w' : World} (h : KeepTy 9 w w') (b : Nat) : KeepS b w w' := fun g cs fz hg _ => h g cs fz hg
theorem KeepTy.grow {w w' : World} {base size n : Nat} {t t' : TypeId} {v : Value} {xs : List Value} (ho : w.ownsRow base t size v n xs) (ht : t ≠ t') (h : w.grownBy w' v.ownBlock) : KeepTy t' w w' := fun g cs fz hg => by
  rw [h.block g (Array.getElem?_eq_some_iff.1 hg).1 (own_ne ho hg (fun e => ht e.symm))]
  exact hg
theorem KeepTy.other {x : Nat} {w w' : World} {cs : Array Value} {t t' : TypeId} {fz : Nat × Nat} (hg : w.grownBy w' (some x)) (h : w.heap[x]? = some (.cells cs t fz)) (ht : t ≠ t') : KeepTy t' w w' := fun g cs' fz' hgg => by
  rw [hg.block g (Array.getElem?_eq_some_iff.1 hgg).1 ?_]
  · exact hgg
  · intro e
    injection e with e
    subst e
    rw [h] at hgg; injection hgg with hgg; injection hgg with _ hgg _; exact ht hgg
end Go.Proofs.Ytbajmbegkacbbaa
