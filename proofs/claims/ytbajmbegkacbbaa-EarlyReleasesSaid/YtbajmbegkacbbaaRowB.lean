/-
  Rows of numbers that a call makes by make and writes at an index.
-/
import Derived.Test.YtbajmbegkacbbaaNumO
import Derived.Deep.OwnRows
namespace Go.Proofs.Ytbajmbegkacbbaa
open Go.RowKit

/-- A row of numbers that is known whole. -/
def RowB (w : World) (g : Nat) (l : List Int) : Prop := w.heap[g]? = some (.cells (l.map (Value.int .i64)).toArray 3 (0, 0))
theorem RowB.cell {w : World} {g : Nat} {l : List Int} (h : RowB w g l) {k : Nat} (hk : k < l.length) : w.cell? ⟨g, k, none⟩ = some (.int .i64 (l.getD k 0)) := by
  rw [Lib.cell_of_heap h, List.getElem?_toArray, List.getElem?_map, List.getElem?_eq_getElem hk, at_k hk]; rfl
theorem RowB.frozen {w : World} {g : Nat} {l : List Int} (h : RowB w g l) (k : Nat) : w.frozen? ⟨g, k, none⟩ = false := frozen_of_row w g k _ _ h
theorem RowB.nums {w : World} {g : Nat} {l : List Int} (h : RowB w g l) {b : Nat} (hb : g ≠ b) : NumsIn b w (some ⟨g, 0, none⟩) l := fun _ => ⟨g, 0, rfl, hb, fun i hi => by rw [Nat.zero_add]; exact h.cell hi⟩
theorem RowB.lt {w : World} {g : Nat} {l : List Int} (h : RowB w g l) : g < w.heap.size := (Array.getElem?_eq_some_iff.1 h).1
theorem RowB.keep {w w1 : World} {g : Nat} {l : List Int} (h : RowB w g l) (hb : Below w.heap.size w w1) : RowB w1 g l := heap_below h hb
theorem RowB.put {w : World} {g : Nat} {l : List Int} (h : RowB w g l) (k : Nat) (x : Int) : RowB (w.setCell ⟨g, k, none⟩ (.int .i64 x)) g (l.set k x) := by
  unfold RowB
  rw [heap_set h, List.map_set, List.setIfInBounds_toArray]
theorem RowB.zeros (w : World) (n : Nat) : RowB (w.alloc (.cells (madeCells #[.int .i64 0] n) 3)) w.heap.size (List.replicate n 0) := by
  unfold RowB
  rw [heap_alloc_new]
  have : madeCells #[Value.int .i64 0] n = ((List.replicate n (0 : Int)).map (Value.int .i64)).toArray := by
    apply Array.toList_inj.1
    rw [toList_madeCells_one, List.map_replicate]
  rw [this]
theorem smake (n : Nat) (hn : n ≤ 1000000) (w : World) : (Instr.makeSlice 23 (.int .i64 (n : Int)) (.int .i64 (n : Int))).run Try.prog w = .ok (.slice (some ⟨w.heap.size, 0, none⟩) n n) (w.alloc (.cells (madeCells #[.int .i64 0] n) 3)) :=
  run_make_row' 23 3 (.int .i64 0) 8 Try.underlying23 linfo_int rfl .i64 .i64 n (by omega) (by omega) w
end Go.Proofs.Ytbajmbegkacbbaa
