/-
  Contracts: equal lists of strings (keep.Strings, slices.Equal).
-/
import Derived.Test.YtmonjjffbmccjaaGreatDoorTelA
import Derived.Test.YtmonjjffbmccjaaGreatDoorShelf
namespace Go.Proofs.YtmonjjffbmccjaaGreatDoor
open Go.RowKit

theorem take_eq_step {α : Type} {l m : List α} {d : α} {k : Nat} (h : k < l.length) (h2 : k < m.length) (h0 : l.take k = m.take k) (h1 : l.getD k d = m.getD k d) : l.take (k + 1) = m.take (k + 1) := by
  rw [List.take_succ_eq_append_getElem h, List.take_succ_eq_append_getElem h2, h0]
  rw [at_k h, at_k h2] at h1
  rw [h1]
theorem ne_of_at {α : Type} {l m : List α} {d : α} {k : Nat} (h1 : l.getD k d ≠ m.getD k d) : l ≠ m := fun e => h1 (by rw [e])
theorem toList_eq {a b : ByteArray} : (a.toList == b.toList) = decide (a = b) := by
  by_cases h : a = b
  · subst h; simp
  · rw [decide_eq_false h, beq_eq_false_iff_ne]
    intro e
    apply h
    rw [ByteArray.toList_eq, ByteArray.toList_eq] at e
    exact ByteArray.ext (Array.toList_inj.1 e)

end Go.Proofs.YtmonjjffbmccjaaGreatDoor
