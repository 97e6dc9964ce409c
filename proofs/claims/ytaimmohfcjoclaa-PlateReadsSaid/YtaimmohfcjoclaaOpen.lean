/-
  Opening the arguments of the laws: an integer, a string, a plate by value.
-/
import Derived.Test.YtaimmohfcjoclaaRows
import Derived.WalkKit
import Derived.ProofKit
import Derived.OpenShut
import Derived.ShutString
import Derived.Lib.SmallJoins
namespace Go.Proofs.Ytaimmohfcjoclaa
open Go.ChangeShapes Go.WideShapes Go.ChangeAt Go.RowKit Go.Joins
open Go.ChangeMaps (open_string shut_string)

theorem lawOwn : ownKnob Try.prog.godebug = none := by kernel_rfl
theorem lawLaidOut : laidOutB Try.prog = true := by kernel_rfl
theorem cellsPlate : Try.prog.cellsOf 23 = 3 := by kernel_rfl

section
variable {H : Type} {enc : TypeId × Value → H} {W : World} {base : Nat} {v : Value} {d : DataW H} {p : List MemPlace}

theorem law_int (hv : Value.okWide Try.prog W .any base 3 v) (h : DataW.Trod enc Try.prog W 0 (fun _ => true) true 3 v d p) : ∃ x : Int, (Lit.int .i64 x).wf = true ∧ v = .int .i64 x := by
  obtain ⟨x, rfl, rfl, rfl, wx⟩ := open_int Try.underlying3 hv h
  exact ⟨x, wx, rfl⟩
theorem law_str (hv : Value.okWide Try.prog W .any base 9 v) (h : DataW.Trod enc Try.prog W 0 (fun _ => true) true 9 v d p) : ∃ x : ByteArray, x.size ≤ maxLen ∧ v = .string x := by
  obtain ⟨x, rfl, rfl, rfl, wx⟩ := open_string Try.underlying9 hv h
  exact ⟨x, wx, rfl⟩
theorem law_plate (hv : Value.okWide Try.prog W .any base 23 v) (h : DataW.Trod enc Try.prog W 0 (fun _ => true) true 23 v d p) :
    ∃ l a s : Int, (Lit.int .i64 l).wf = true ∧ (Lit.int .i64 a).wf = true ∧ (Lit.int .i64 s).wf = true ∧ v = .agg #[.int .i64 l, .int .i64 a, .int .i64 s] := by
  obtain ⟨c0, c1, c2, y0, y1, y2, m, rfl, rfl, rfl, hy0, hy1, hy2⟩ := open_agg3 Try.underlying23 (by kernel_rfl) cellsPlate hv h
  obtain ⟨x0, e0, rfl, w0⟩ := DataW.trod_int Try.underlying3 hy0
  obtain ⟨x1, e1, rfl, w1⟩ := DataW.trod_int Try.underlying3 hy1
  obtain ⟨x2, e2, rfl, w2⟩ := DataW.trod_int Try.underlying3 hy2
  simp at e0 e1 e2
  subst e0 e1 e2
  exact ⟨x0, x1, x2, w0, w1, w2, rfl⟩
end
end Go.Proofs.Ytaimmohfcjoclaa
