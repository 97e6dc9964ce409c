/-
  A range over a function: what a round that goes on keeps: all below a block but one.
-/
import Derived.RangeFuncNested
import Derived.RangeFuncBound
import Derived.RangeFuncCalls
import Derived.RangeFuncLeaves
import Derived.RangeFuncBox
import Derived.Shelf.Abstract
import Derived.Shelf.RegionOpen
import Derived.WalkKit
import Derived.OwnWalkIn
import Derived.TacticsInMore
import Derived.LoopNIn
import Derived.LoopIn
namespace Go.Proofs.YtglgobmmmghdoaaGreatDoor
open Go.RowKit Go.Shelf

/-- All below n₀ but block B0 is as it was. -/
def KpX (B0 n₀ : Nat) (W W' : World) : Prop := ∀ k, k < n₀ → k ≠ B0 → W'.heap[k]? = W.heap[k]?
theorem kpX_t {B0 n₀ : Nat} {A B C : World} (h : KpX B0 n₀ A B) (k : KpX B0 n₀ B C) : KpX B0 n₀ A C := fun i h1 h2 => (k i h1 h2).trans (h i h1 h2)
theorem kpX_refl {B0 n₀ : Nat} {A : World} : KpX B0 n₀ A A := fun _ _ _ => rfl
theorem kpX_b {B0 n₀ : Nat} {w : World} (hn : n₀ ≤ w.heap.size) (W : World) (l : Nat) (o o' : Obj) (hl : w.heap.size ≤ l) (_ : W.heap[l]? = some o) (_ : o.isCells = false) (_ : o.isWalk = false) : KpX B0 n₀ W (W.putObj l o') := fun k hk _ =>
  (grownBy_putObj' W l o').block k (by have := (Array.getElem?_eq_some_iff.1 ‹W.heap[l]? = some o›).1; omega) (by simp; omega)
theorem KpX.cell {B0 n₀ : Nat} {W W' : World} (h : KpX B0 n₀ W W') {g i : Nat} (hg : g < n₀) (hne : g ≠ B0) : W'.cell? ⟨g, i, none⟩ = W.cell? ⟨g, i, none⟩ := by
  simp [World.cell?, h g hg hne]
end Go.Proofs.YtglgobmmmghdoaaGreatDoor
