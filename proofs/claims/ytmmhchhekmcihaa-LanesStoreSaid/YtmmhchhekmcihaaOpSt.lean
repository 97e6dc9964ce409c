/-
  Opening an argument of api.Stored by value.
-/
import Derived.Test.YtmmhchhekmcihaaLibOB
import Derived.Lib.SmallJoins
namespace Go.Proofs.Ytmmhchhekmcihaa
open Go.ChangeShapes Go.WideShapes Go.ChangeAt Go.RowKit Go.Joins
theorem cellsStored : Try.prog.cellsOf 39 = 2 := by kernel_rfl
theorem law_stored {H : Type} {enc : TypeId × Value → H} {W : World} {base : Nat} {v : Value} {d : DataW H} {p : List MemPlace} (hv : Value.okWide Try.prog W .any base 39 v) (h : DataW.Trod enc Try.prog W 0 (fun _ => true) true 39 v d p) :
    ∃ (b d : Int), (Lit.int .i64 b).wf = true ∧ (Lit.int .i64 d).wf = true ∧ v = .agg #[.int .i64 b, .int .i64 d] := by
  obtain ⟨c0, c1, y0, y1, m, rfl, rfl, rfl, hy0, hy1⟩ := open_agg2 Try.underlying39 (by kernel_rfl) cellsStored hv h
  obtain ⟨x0, e0, rfl, w0⟩ := DataW.trod_int Try.underlying3 hy0
  obtain ⟨x1, e1, rfl, w1⟩ := DataW.trod_int Try.underlying3 hy1
  simp at e0 e1
  subst e0 e1
  exact ⟨x0, x1, w0, w1, rfl⟩
end Go.Proofs.Ytmmhchhekmcihaa
