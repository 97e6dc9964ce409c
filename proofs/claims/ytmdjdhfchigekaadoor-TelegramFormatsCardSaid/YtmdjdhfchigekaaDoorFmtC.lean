/-
  TelegramFormats: the state of the walk while the copy is changed.
-/
import Derived.Test.YtmdjdhfchigekaaDoorFmtB
import Derived.Test.YtmdjdhfchigekaaDoorSameT
namespace Go.Proofs.YtmdjdhfchigekaaDoor
open Go.RowKit

structure Stt (w0 w3 : World) (B b : Nat) (t : Tel) (T : Option Addr) (c : Nat) (K C : ByteArray) (A : Option Addr) (c' : Nat) (xs : List ElS) (W : World) : Prop where
  bel : Below w0.heap.size w0 W
  gr : w3.grownBy W (some b)
  src : Src B b W
  tb : W.heap[w3.heap.size]? = some (.cells #[.string t.kind, .string t.change, .slice T t.els.length c] 24 (0, 0))
  ub : W.heap[w3.heap.size + 1]? = some (.cells #[.string K, .string C, .slice A xs.length c'] 24 (0, 0))
  own : W.ownsRow (w3.heap.size + 2) 34 2 (.slice A xs.length c') xs.length (xs.flatMap elCells)
  fin : FinZ b w3.heap.size W xs
  sz : w3.heap.size + 2 ≤ W.heap.size
  lo : w0.heap.size ≤ b
  lt : b < w3.heap.size

section
variable {w0 w3 W W' : World} {B b : Nat} {t : Tel} {T : Option Addr} {c : Nat} {K C : ByteArray} {A : Option Addr} {c' : Nat} {xs : List ElS}
theorem Stt.below (h : Stt w0 w3 B b t T c K C A c' xs W) (hb : Below W.heap.size W W') : Stt w0 w3 B b t T c K C A c' xs W' := by
  have hs := h.sz
  have hz := hb.size
  have hg : W.grownBy W' (some b) := ⟨hb.os, hb.tape, hb.output, hb.size, fun k hk _ => hb.block k hk⟩
  have hl := h.lt
  refine ⟨onward h.bel hb, Lib.grownBy_trans h.gr hg, h.src.keep hb, (hb.block _ (by omega)).trans h.tb, (hb.block _ (by omega)).trans h.ub, h.own.kept hg (Or.inr fun e => ?_), h.fin.step (KeepZ.below hb (by omega)), by omega, h.lo, h.lt⟩
  have := (h.own.lt _ e).1
  omega
theorem Stt.reads (h : Stt w0 w3 B b t T c K C A c' xs W) (hsr : Src B b W') (hg : W.grownBy W' (some b)) : Stt w0 w3 B b t T c K C A c' xs W' := by
  have hs := h.sz
  have hz := hg.size
  have hl := h.lt
  refine ⟨below_reads h.bel hg h.lo h.bel.size, Lib.grownBy_trans h.gr hg, hsr, (hg.block _ (by omega) (by simp; omega)).trans h.tb, (hg.block _ (by omega) (by simp; omega)).trans h.ub, h.own.kept hg (Or.inr fun e => ?_), h.fin.step (KeepZ.reads hg (by omega)), by omega, h.lo, h.lt⟩
  have := (h.own.lt _ e).1
  omega
/-- A change of the copy's own box. -/
theorem Stt.box (h : Stt w0 w3 B b t T c K C A c' xs W) (i : Nat) (v : Value) {K2 C2 : ByteArray} (hu : (W.setCell ⟨w3.heap.size + 1, i, none⟩ v).heap[w3.heap.size + 1]? = some (.cells #[.string K2, .string C2, .slice A xs.length c'] 24 (0, 0))) :
    Stt w0 w3 B b t T c K2 C2 A c' xs (W.setCell ⟨w3.heap.size + 1, i, none⟩ v) := by
  have hs := h.sz
  have hl := h.lt
  have hlo := h.lo
  have hg := Lib.grownBy_setB (World.grownBy.refl W (some (w3.heap.size + 1))) i v
  have hbz := h.bel.size
  refine ⟨h.bel.grown hg hbz (fun k e => by injection e with e; omega), h.gr.setNew (by omega) i v, h.src.grown hg (fun k e => by injection e with e; omega), (hg.block _ (by omega) (by simp)).trans h.tb, hu, h.own.kept hg (Or.inr fun e => ?_), h.fin.step (KeepZ.grown hg (by omega) (fun k e => by injection e with e; omega) (KeepS.other hg h.ub (by decide))), Nat.le_trans hs hg.size, h.lo, h.lt⟩
  have := (h.own.lt _ e).1
  omega
theorem Stt.kind (h : Stt w0 w3 B b t T c K C A c' xs W) (s : ByteArray) : Stt w0 w3 B b t T c s C A c' xs (W.setCell ⟨w3.heap.size + 1, 0, none⟩ (.string s)) :=
  h.box 0 (.string s) (by simp [World.setCell, Array.getElem?_modify, h.ub])
theorem Stt.change (h : Stt w0 w3 B b t T c K C A c' xs W) (s : ByteArray) : Stt w0 w3 B b t T c K s A c' xs (W.setCell ⟨w3.heap.size + 1, 1, none⟩ (.string s)) :=
  h.box 1 (.string s) (by simp [World.setCell, Array.getElem?_modify, h.ub])
/-- One element more. -/
theorem Stt.push (h : Stt w0 w3 B b t T c K C A c' xs W) {g cap : Nat} {x : ElS} (hx : StrZ b w3.heap.size W x.2.1 x.1.2)
    (hown : W'.ownsRow (w3.heap.size + 2) 34 2 (.slice (some ⟨g, 0, none⟩) (xs.length + 1) cap) (xs.length + 1) (xs.flatMap elCells ++ elCells x)) (hgrow : W.grownBy W' (Value.slice A xs.length c').ownBlock) :
    Stt w0 w3 B b t T c K C (some ⟨g, 0, none⟩) cap (xs ++ [x]) (W'.setCell ⟨w3.heap.size + 1, 2, none⟩ (.slice (some ⟨g, 0, none⟩) (xs.length + 1) cap)) := by
  have hs := h.sz
  have hl := h.lt
  have hlo := h.lo
  have hz := hgrow.size
  have hrow := fun k hk => (h.own.lt k hk).1
  have hT := (hgrow.block _ (by omega) (own_ne h.own h.tb (by decide))).trans h.tb
  have hU := (hgrow.block _ (by omega) (own_ne h.own h.ub (by decide))).trans h.ub
  have hg := Lib.grownBy_setB (World.grownBy.refl W' (some (w3.heap.size + 1))) 2 (.slice (some ⟨g, 0, none⟩) (xs.length + 1) cap)
  have hbz := h.bel.size
  have hK := (KeepZ.grown (b := b) (H := w3.heap.size) hgrow (by omega) (fun k e => by have := hrow k e; omega) (KeepS.grow h.own (by decide) hgrow)).trans (KeepZ.grown hg (by omega) (fun k e => by injection e with e; omega) (KeepS.other hg hU (by decide)))
  refine ⟨(h.bel.grown hgrow hbz (fun k e => by have := hrow k e; omega)).grown hg (by omega) (fun k e => by injection e with e; omega), (grown_new h.gr hgrow (fun k e => by have := hrow k e; omega)).setNew (by omega) 2 _, (h.src.grown hgrow (fun k e => by have := hrow k e; omega)).grown hg (fun k e => by injection e with e; omega), (hg.block _ (by omega) (by simp)).trans hT, ?_, ?_, (h.fin.step hK).snoc (hx.step hK), by have := hg.size; omega, h.lo, h.lt⟩
  · rw [List.length_append, List.length_singleton]; exact heap_set2 hU
  · rw [List.length_append, List.length_singleton, List.flatMap_append]
    have := hown.kept hg (Or.inr fun e => own_ne hown hU (by decide) e.symm)
    simpa using this
/-- The copy's first state. -/
theorem Stt.start {n : Nat} (hbel : Below w0.heap.size w0 w3) (hS : Src B b w3) (hlo : w0.heap.size ≤ b) (hn : xs.length = n) (hfin : FinZ b w3.heap.size w3 xs)
    (hown : W'.ownsRow (w3.heap.size + 2) 34 2 (.slice A n c') n (xs.flatMap elCells))
    (hgrow : (((w3.alloc (.cells #[.string t.kind, .string t.change, .slice T t.els.length c] 24)).alloc (.cells #[.string t.kind, .string t.change, .slice T t.els.length c] 24)).alloc (.cells #[] 34)).grownBy W' (some (w3.heap.size + 1 + 1))) :
    Stt w0 w3 B b t T c t.kind t.change A c' xs (W'.setCell ⟨w3.heap.size + 1, 2, none⟩ (.slice A n c')) := by
  subst hn
  have hl := hS.lt
  have b1 := (Below.refl w3.heap.size w3).alloc (Nat.le_refl _) (.cells #[.string t.kind, .string t.change, .slice T t.els.length c] 24)
  have b2 := b1.alloc (by rw [World.size_alloc]; omega) (.cells #[.string t.kind, .string t.change, .slice T t.els.length c] 24)
  have b3 := b2.alloc (by rw [World.size_alloc, World.size_alloc]; omega) (.cells #[] 34)
  have hT6 : (((w3.alloc (.cells #[.string t.kind, .string t.change, .slice T t.els.length c] 24)).alloc (.cells #[.string t.kind, .string t.change, .slice T t.els.length c] 24)).alloc (.cells #[] 34)).heap[w3.heap.size]? = some (.cells #[.string t.kind, .string t.change, .slice T t.els.length c] 24 (0, 0)) :=
    (heap_alloc_old _ _ (by rw [World.size_alloc, World.size_alloc]; omega)).trans ((heap_alloc_old _ _ (by rw [World.size_alloc]; omega)).trans (heap_alloc_new _ _))
  have hU6 : (((w3.alloc (.cells #[.string t.kind, .string t.change, .slice T t.els.length c] 24)).alloc (.cells #[.string t.kind, .string t.change, .slice T t.els.length c] 24)).alloc (.cells #[] 34)).heap[w3.heap.size + 1]? = some (.cells #[.string t.kind, .string t.change, .slice T t.els.length c] 24 (0, 0)) := by
    refine (heap_alloc_old _ _ (by rw [World.size_alloc, World.size_alloc]; omega)).trans ?_
    have := heap_alloc_new (w3.alloc (.cells #[.string t.kind, .string t.change, .slice T t.els.length c] 24)) (.cells #[.string t.kind, .string t.change, .slice T t.els.length c] 24)
    rwa [World.size_alloc] at this
  have hz6 : (((w3.alloc (.cells #[.string t.kind, .string t.change, .slice T t.els.length c] 24)).alloc (.cells #[.string t.kind, .string t.change, .slice T t.els.length c] 24)).alloc (.cells #[] 34)).heap.size = w3.heap.size + 1 + 1 + 1 := by rw [World.size_alloc, World.size_alloc, World.size_alloc]
  have hL6 : (((w3.alloc (.cells #[.string t.kind, .string t.change, .slice T t.els.length c] 24)).alloc (.cells #[.string t.kind, .string t.change, .slice T t.els.length c] 24)).alloc (.cells #[] 34)).heap[w3.heap.size + 1 + 1]? = some (.cells #[] 34 (0, 0)) := by
    have := heap_alloc_new ((w3.alloc (.cells #[.string t.kind, .string t.change, .slice T t.els.length c] 24)).alloc (.cells #[.string t.kind, .string t.change, .slice T t.els.length c] 24)) (.cells #[] 34)
    rwa [World.size_alloc, World.size_alloc] at this
  generalize ((w3.alloc (.cells #[.string t.kind, .string t.change, .slice T t.els.length c] 24)).alloc (.cells #[.string t.kind, .string t.change, .slice T t.els.length c] 24)).alloc (.cells #[] 34) = W6 at *
  have hz7 := hgrow.size
  have hbz := hbel.size
  have hbz6 := (onward hbel b3).size
  have hT := (hgrow.block _ (by omega) (by simp; omega)).trans hT6
  have hU := (hgrow.block _ (by omega) (by simp)).trans hU6
  have hg := Lib.grownBy_setB (World.grownBy.refl W' (some (w3.heap.size + 1))) 2 (.slice A xs.length c')
  have g6 : w3.grownBy W6 (some b) := ⟨b3.os, b3.tape, b3.output, b3.size, fun k hk _ => b3.block k hk⟩
  have hK := (KeepZ.grown (b := b) (H := w3.heap.size) hgrow (by omega) (fun k e => by injection e with e; omega) (KeepS.other hgrow hL6 (by decide))).trans (KeepZ.grown hg (by omega) (fun k e => by injection e with e; omega) (KeepS.other hg hU (by decide)))
  refine ⟨((onward hbel b3).grown hgrow hbz6 (fun k e => by injection e with e; omega)).grown hg (by omega) (fun k e => by injection e with e; omega), (grown_new g6 hgrow (fun k e => by injection e with e; omega)).setNew (by omega) 2 _, ((hS.keep b3).grown hgrow (fun k e => by injection e with e; omega)).grown hg (fun k e => by injection e with e; omega), (hg.block _ (by omega) (by simp)).trans hT, heap_set2 hU, hown.kept hg (Or.inr fun e => ?_), (hfin.step (KeepZ.below b3 (Nat.le_refl _))).step hK, by have := hg.size; omega, hlo, hl⟩
  exact own_ne hown hU (by decide) e.symm
theorem Stt.tail (h : Stt w0 w3 B b t T c K C A c' xs W) {R cr : Nat} {raw : Tel} {P : Option Addr} (xr : TBox w3 R raw.kind raw.change (.slice P raw.els.length cr)) (hR : R ≠ b) (er : ElsIn b w3 P raw.els) (et : ElsIn b w3 T t.els) :
    TBox W R raw.kind raw.change (.slice P raw.els.length cr) ∧ TBox W w3.heap.size t.kind t.change (.slice T t.els.length c) ∧ TBox W (w3.heap.size + 1) K C (.slice A xs.length c') ∧ ElsIn b W P raw.els ∧ ElsIn b W T t.els ∧ ElsIn b W A (xs.map (·.1)) :=
  ⟨xr.grown h.gr hR, ⟨by rw [Lib.cell_of_heap h.tb]; rfl, by rw [Lib.cell_of_heap h.tb]; rfl, by rw [Lib.cell_of_heap h.tb]; rfl⟩, ⟨by rw [Lib.cell_of_heap h.ub]; rfl, by rw [Lib.cell_of_heap h.ub]; rfl, by rw [Lib.cell_of_heap h.ub]; rfl⟩,
    er.grown h.gr, et.grown h.gr, h.fin.els h.own (by have := h.lt; omega)⟩
end
end Go.Proofs.YtmdjdhfchigekaaDoor
