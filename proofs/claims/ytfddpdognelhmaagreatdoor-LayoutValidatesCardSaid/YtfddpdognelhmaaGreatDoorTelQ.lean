/-
  Contracts: equal lists of strings (keep.Strings, slices.Equal).
-/
import Derived.Test.YtfddpdognelhmaaGreatDoorNumR
import Derived.Test.YtfddpdognelhmaaGreatDoorTelA
import Derived.Test.YtfddpdognelhmaaGreatDoorShelf
namespace Go.Proofs.YtfddpdognelhmaaGreatDoor
open Go.RowKit

theorem toList_eq {a b : ByteArray} : (a.toList == b.toList) = decide (a = b) := by
  by_cases h : a = b
  · subst h; simp
  · rw [decide_eq_false h, beq_eq_false_iff_ne]
    intro e
    apply h
    rw [ByteArray.toList_eq, ByteArray.toList_eq] at e
    exact ByteArray.ext (Array.toList_inj.1 e)

end Go.Proofs.YtfddpdognelhmaaGreatDoor
