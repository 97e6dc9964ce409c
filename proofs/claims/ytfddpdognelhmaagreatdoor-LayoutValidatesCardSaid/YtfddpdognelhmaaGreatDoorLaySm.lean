/-
  Contracts of Same of layouts, and of Leads of the document's own.
-/
import Derived.Test.YtfddpdognelhmaaGreatDoorNumR
import Derived.Test.YtfddpdognelhmaaGreatDoorLayH
namespace Go.Proofs.YtfddpdognelhmaaGreatDoor
open Go.RowKit

theorem Nd.ext_iff' {x y : Nd} : x = y ↔ x.name = y.name ∧ x.kind = y.kind ∧ x.len = y.len ∧ x.zone = y.zone ∧ x.exits = y.exits := by
  cases x; cases y; simp
instance : DecidableEq Nd := fun _ _ => decidable_of_iff _ Nd.ext_iff'.symm
theorem Dv.ext_iff' {x y : Dv} : x = y ↔ x.kind = y.kind ∧ x.node = y.node ∧ x.win = y.win := by
  cases x; cases y; simp
instance : DecidableEq Dv := fun _ _ => decidable_of_iff _ Dv.ext_iff'.symm
theorem dvEq_iff {x y : Dv} : dvEq x y = true ↔ x = y := by rw [Dv.ext_iff']; unfold dvEq; simp
theorem dev_neq (g h : Dv) (w : World) : (Go.binOp .neq 57 (dvV g) (dvV h)).run Tryz.prog w = .ok (.bool (!dvEq g h)) w := by
  unfold dvEq
  cases h0 : (g.kind == h.kind)
  · go_simp
  · cases h1 : (g.node == h.node)
    · go_simp
    · cases h2 : (g.win == h.win)
      · go_simp
      · go_simp
theorem nd_eq (x y : Nd) : decide (x = y) = (decide (x.name = y.name) && ((x.kind == y.kind) && ((x.len == y.len) && ((x.zone == y.zone) && decide (x.exits = y.exits))))) := by
  rw [Bool.eq_iff_iff]
  simp only [decide_eq_true_eq, Bool.and_eq_true, beq_iff_eq]
  exact Nd.ext_iff'

theorem heap_keep2 {w w1 : World} {m : Nat} {o : Obj} (h : w.heap[m]? = some o) (hb : Below w.heap.size w w1) : w1.heap[m]? = some o := (hb.block _ (Array.getElem?_eq_some_iff.1 h).1).trans h
/-- Two layouts are equal. -/
def sameL (x y : Lay) : Bool := decide (x.nodes = y.nodes) && decide (x.devs = y.devs)
theorem sameL_self (x : Lay) : sameL x x = true := by simp [sameL]
end Go.Proofs.YtfddpdognelhmaaGreatDoor
