/-
  Opening an argument that is a bool.
-/
import Derived.Test.YtfddpdognelhmaaLibOB
namespace Go.Proofs.Ytfddpdognelhmaa
open Go.ChangeShapes Go.WideShapes Go.ChangeAt Go.RowKit Go.Joins
section
variable {H : Type} {enc : TypeId × Value → H} {W : World} {base : Nat} {v : Value} {d : DataW H} {p : List MemPlace}
theorem law_bool (hv : Value.okWide Try.prog W .any base 4 v) (h : DataW.Trod enc Try.prog W 0 (fun _ => true) true 4 v d p) : ∃ x : Bool, v = .bool x := by
  obtain ⟨x, rfl, rfl, rfl⟩ := open_bool Try.underlying4 hv h
  exact ⟨x, rfl⟩
end
end Go.Proofs.Ytfddpdognelhmaa
