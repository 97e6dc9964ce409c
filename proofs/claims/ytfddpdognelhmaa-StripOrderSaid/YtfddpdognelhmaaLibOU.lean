/-
  Opening an argument that is a byte.
-/
import Derived.Test.YtfddpdognelhmaaLibOB
namespace Go.Proofs.Ytfddpdognelhmaa
open Go.ChangeShapes Go.WideShapes Go.ChangeAt Go.RowKit Go.Joins
section
variable {H : Type} {enc : TypeId × Value → H} {W : World} {base : Nat} {v : Value} {d : DataW H} {p : List MemPlace}
theorem law_byte (hv : Value.okWide Try.prog W .any base 5 v) (h : DataW.Trod enc Try.prog W 0 (fun _ => true) true 5 v d p) : ∃ x : Int, (Lit.int .u8 x).wf = true ∧ v = .int .u8 x := by
  obtain ⟨x, rfl, rfl, rfl, wx⟩ := open_int Try.underlying5 hv h
  exact ⟨x, wx, rfl⟩
end
end Go.Proofs.Ytfddpdognelhmaa
