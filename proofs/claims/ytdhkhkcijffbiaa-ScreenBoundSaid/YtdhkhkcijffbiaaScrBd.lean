/-
  Screening (layer 15): ScreenBound over the program's own functions.
-/
import Derived.Test.YtdhkhkcijffbiaaScrD
import Derived.Test.YtdhkhkcijffbiaaScrAB
namespace Go.Proofs.Ytdhkhkcijffbiaa
theorem bound_law (x0 : Int) (_ : (Lit.int .i64 x0).wf = true) (x1 : Int) (_ : (Lit.int .i64 x1).wf = true) (x2 : Int) (_ : (Lit.int .i64 x2).wf = true) (x3 : Int) (_ : (Lit.int .i64 x3).wf = true) (x4 : Int) (_ : (Lit.int .i64 x4).wf = true) (x5 : Int) (_ : (Lit.int .i64 x5).wf = true) (w : World) :
    Calls Try.prog 5 #[.int .i64 x0, .int .i64 x1, .int .i64 x2, .int .i64 x3, .int .i64 x4, .int .i64 x5] w fun e w' => e = .returned (.bool true) ∧ RowKit.Below w.heap.size w w' :=
  bound_any scr_ok x0 x1 x2 x3 x4 x5 w
end Go.Proofs.Ytdhkhkcijffbiaa
