/-
  TelegramFormats: what is kept while the copy of a telegram grows; a slice of elements copied onto an empty literal.
-/
import Derived.Test.YtmdjdhfchigekaaDoorTelK
import Derived.Test.YtmdjdhfchigekaaDoorTelO
import Derived.Deep.AppendSrc
import Derived.Deep.Slices
namespace Go.Proofs.YtmdjdhfchigekaaDoor
open Go.RowKit

/-- Blocks below H but b stay, and rows of strings but b. -/
def KeepZ (b H : Nat) (w w' : World) : Prop := (∀ g, g < H → g ≠ b → w'.heap[g]? = w.heap[g]?) ∧ KeepS b w w'
theorem KeepZ.refl (b H : Nat) (w : World) : KeepZ b H w w := ⟨fun _ _ _ => rfl, KeepS.refl b w⟩
theorem KeepZ.trans {b H : Nat} {w w1 w2 : World} (h : KeepZ b H w w1) (k : KeepZ b H w1 w2) : KeepZ b H w w2 :=
  ⟨fun g h1 h2 => (k.1 g h1 h2).trans (h.1 g h1 h2), h.2.trans k.2⟩
theorem KeepZ.grown {b H : Nat} {w w' : World} {row : Option Nat} (hg : w.grownBy w' row) (hH : H ≤ w.heap.size) (hr : ∀ k, row = some k → H ≤ k) (hs : KeepS b w w') : KeepZ b H w w' :=
  ⟨fun g h1 _ => hg.block g (by omega) (fun e => by have := hr g e.symm; omega), hs⟩
theorem KeepZ.reads {b H : Nat} {w w' : World} (hg : w.grownBy w' (some b)) (hH : H ≤ w.heap.size) : KeepZ b H w w' :=
  ⟨fun g h1 h2 => hg.block g (by omega) (by simpa using h2), KeepS.reads hg⟩
theorem KeepZ.below {b H : Nat} {w w' : World} (hb : Below w.heap.size w w') (hH : H ≤ w.heap.size) : KeepZ b H w w' :=
  ⟨fun g h1 _ => hb.block g (by omega), KeepS.below hb⟩
/-- Strings that are old, or a row known whole. -/
def StrZ (b H : Nat) (w : World) (A : Option Addr) (ps : List ByteArray) : Prop :=
  (0 < ps.length → ∃ g off, A = some ⟨g, off, none⟩ ∧ g ≠ b ∧ g < H ∧ ∀ i, i < ps.length → w.cell? ⟨g, off + i, none⟩ = some (.string (ps.getD i ByteArray.empty))) ∨ StrRow b w A ps
theorem StrZ.step {b H : Nat} {w w' : World} {A : Option Addr} {ps : List ByteArray} (h : StrZ b H w A ps) (k : KeepZ b H w w') : StrZ b H w' A ps := by
  rcases h with h | h
  · refine .inl fun hn => ?_
    obtain ⟨g, off, hA, hne, hlt, hc⟩ := h hn
    exact ⟨g, off, hA, hne, hlt, fun i hi => (World.cell?_of_block (k.1 g hlt hne)).trans (hc i hi)⟩
  · exact .inr (h.step k.2)
theorem StrZ.strs {b H : Nat} {w : World} {A : Option Addr} {ps : List ByteArray} (h : StrZ b H w A ps) : StrsIn b w A ps := by
  rcases h with h | h
  · intro hn
    obtain ⟨g, off, hA, hne, _, hc⟩ := h hn
    exact ⟨g, off, hA, hne, hc⟩
  · exact h.strs
theorem StrZ.old {b : Nat} {w : World} {A : Option Addr} {ps : List ByteArray} (h : StrsIn b w A ps) : StrZ b w.heap.size w A ps := .inl fun hn => by
  obtain ⟨g, off, hA, hne, hc⟩ := h hn
  have := World.block_lt_of_cell? w _ (hc 0 hn)
  exact ⟨g, off, hA, hne, this, hc⟩
def FinZ (b H : Nat) (w : World) (xs : List ElS) : Prop := ∀ x ∈ xs, StrZ b H w x.2.1 x.1.2
theorem FinZ.step {b H : Nat} {w w' : World} {xs : List ElS} (h : FinZ b H w xs) (k : KeepZ b H w w') : FinZ b H w' xs := fun x hx => (h x hx).step k
theorem FinZ.snoc {b H : Nat} {w : World} {xs : List ElS} (h : FinZ b H w xs) {x : ElS} (hx : StrZ b H w x.2.1 x.1.2) : FinZ b H w (xs ++ [x]) := fun y hy => by
  rcases List.mem_append.1 hy with hy | hy
  · exact h y hy
  · rw [List.mem_singleton.1 hy]; exact hx
theorem els_own {b base cap : Nat} {w : World} {A : Option Addr} {xs : List ElS} (h : ∀ x ∈ xs, StrsIn b w x.2.1 x.1.2) (ho : w.ownsRow base 34 2 (.slice A xs.length cap) xs.length (xs.flatMap elCells)) (hb : b < base) : ElsIn b w A (xs.map (·.1)) := fun hn => by
  rw [List.length_map] at hn
  rcases ho.2 with ⟨_, h0⟩ | ⟨g, cap', cur, hv, hbg, hg, _, _, _, ht⟩
  · omega
  · injection hv with hA
    subst hA
    refine ⟨g, 0, rfl, by omega, fun i hi => ?_⟩
    rw [List.length_map] at hi
    have e1 : (xs.map (·.1)).getD i el0 = xs[i].1 := by rw [List.getD_eq_getElem?_getD, List.getElem?_map, List.getElem?_eq_getElem hi]; rfl
    have cell : ∀ j u, (xs.flatMap elCells)[j]? = some u → w.cell? ⟨g, 0 + j, none⟩ = some u := fun j u hu => by
      rw [Nat.zero_add, Lib.cell_of_heap hg, ← Array.getElem?_toList]
      rw [← ht, List.getElem?_take] at hu
      split at hu
      · exact hu
      · cases hu
    obtain ⟨c0, c1⟩ := elCells_at xs i hi
    refine ⟨by rw [e1]; exact cell _ _ c0, xs[i].2.1, xs[i].2.2, by rw [e1]; exact cell _ _ c1, ?_⟩
    rw [e1]
    exact h xs[i] (List.getElem_mem _)
theorem FinZ.els {b H base cap : Nat} {w : World} {A : Option Addr} {xs : List ElS} (h : FinZ b H w xs) (ho : w.ownsRow base 34 2 (.slice A xs.length cap) xs.length (xs.flatMap elCells)) (hb : b < base) : ElsIn b w A (xs.map (·.1)) :=
  els_own (fun x hx => (h x hx).strs) ho hb

/-- Elements in memory, with their slices. -/
theorem choose_els {b : Nat} {w : World} {A : Option Addr} {es : List El} (h : ElsIn b w A es) :
    ∃ xs : List ElS, xs.map (·.1) = es ∧ FinZ b w.heap.size w xs ∧ (0 < es.length → ∃ g off, A = some ⟨g, off, none⟩ ∧ ∀ j u, (xs.flatMap elCells)[j]? = some u → w.cell? ⟨g, off + j, none⟩ = some u) := by
  by_cases hn : 0 < es.length
  · obtain ⟨g, off, hA, hne, hc⟩ := h hn
    have hall : ∀ i, i < es.length → ∃ y : Option Addr × Nat, w.cell? ⟨g, off + i * 2, none⟩ = some (.string (es.getD i el0).1) ∧ w.cell? ⟨g, off + (i * 2 + 1), none⟩ = some (.slice y.1 (es.getD i el0).2.length y.2) ∧ StrsIn b w y.1 (es.getD i el0).2 := fun i hi => by
      obtain ⟨h1, A', c', h2, h3⟩ := hc i hi
      exact ⟨(A', c'), h1, h2, h3⟩
    obtain ⟨f, hF⟩ := Deep.choose_lt (α := Option Addr × Nat) (p := fun i y => w.cell? ⟨g, off + i * 2, none⟩ = some (.string (es.getD i el0).1) ∧ w.cell? ⟨g, off + (i * 2 + 1), none⟩ = some (.slice y.1 (es.getD i el0).2.length y.2) ∧ StrsIn b w y.1 (es.getD i el0).2) hall
    have hget : ∀ i (hi : i < ((List.range es.length).map fun i => ((es.getD i el0, f i) : ElS)).length), ((List.range es.length).map fun i => ((es.getD i el0, f i) : ElS))[i] = (es.getD i el0, f i) := fun i hi => by simp
    refine ⟨(List.range es.length).map fun i => (es.getD i el0, f i), ?_, ?_, fun _ => ⟨g, off, hA, ?_⟩⟩
    · apply List.ext_getElem
      · simp
      · intro i h1 h2
        simp [h2]
    · intro x hx
      obtain ⟨i, hi, rfl⟩ := List.mem_map.1 hx
      exact StrZ.old (hF i (List.mem_range.1 hi)).2.2
    · intro j u hu
      have hj : j < es.length * 2 := by
        have := (List.getElem?_eq_some_iff.1 hu).1
        rw [elCells_length] at this
        simpa using this
      have hi : j / 2 < ((List.range es.length).map fun i => ((es.getD i el0, f i) : ElS)).length := by simp; omega
      obtain ⟨c0, c1⟩ := elCells_at _ (j / 2) hi
      rw [hget] at c0 c1
      obtain ⟨k0, k1, _⟩ := hF (j / 2) (by omega)
      rcases (by omega : j = j / 2 * 2 ∨ j = j / 2 * 2 + 1) with e | e
      · rw [e] at hu ⊢
        rw [c0] at hu
        injection hu with hu
        rw [← hu]; exact k0
      · rw [e] at hu ⊢
        rw [c1] at hu
        injection hu with hu
        rw [← hu]; exact k1
  · have : es = [] := List.eq_nil_of_length_eq_zero (by omega)
    subst this
    exact ⟨[], rfl, (fun _ h => by cases h), fun h => absurd h hn⟩
end Go.Proofs.YtmdjdhfchigekaaDoor
