/-
  Contracts of messages: equality of legs and plates, of lists of legs (slices.Equal, the reference's) and of numbers (keep.Ints, slices.Equal); ascending; ValidName.
-/
import Derived.Test.YtfddpdognelhmaaGreatDoorNumR
import Derived.Test.YtfddpdognelhmaaGreatDoorMsgA
import Derived.Test.YtfddpdognelhmaaGreatDoorShelf
import Derived.Test.YtfddpdognelhmaaGreatDoorTelQ
namespace Go.Proofs.YtfddpdognelhmaaGreatDoor
open Go.RowKit

def lgE6 (g h : Lg) : Bool := ((g.c.toList == h.c.toList) && ((g.n == h.n) && ((g.s.toList == h.s.toList) && ((g.d == h.d) && ((g.p.toList == h.p.toList) && (g.k.toList == h.k.toList))))))
theorem lgE6_dec (g h : Lg) : lgE6 g h = decide (g = h) := by
  unfold lgE6
  rw [toList_eq, toList_eq, toList_eq, toList_eq, Bool.eq_iff_iff]
  simp only [Bool.and_eq_true, decide_eq_true_eq, beq_iff_eq]
  exact Lg.ext_iff'.symm
theorem lgE6_iff {g h : Lg} : lgE6 g h = true ↔ g = h := by rw [lgE6_dec, decide_eq_true_eq]

abbrev plV (l a s : Int) : Value := .agg #[.int .i64 l, .int .i64 a, .int .i64 s]
def plE (l a s l' a' s' : Int) : Bool := (l == l') && ((a == a') && (s == s'))
theorem plE_iff {l a s l' a' s' : Int} : plE l a s l' a' s' = true ↔ l = l' ∧ a = a' ∧ s = s' := by unfold plE; simp only [Bool.and_eq_true, beq_iff_eq]
end Go.Proofs.YtfddpdognelhmaaGreatDoor
