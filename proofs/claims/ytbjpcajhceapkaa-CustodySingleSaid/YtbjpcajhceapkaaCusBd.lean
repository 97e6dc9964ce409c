/-
  Custody (layer 16): CustodySingle over the program's own functions.
-/
import Derived.Test.YtbjpcajhceapkaaCusB
import Derived.Test.YtbjpcajhceapkaaCusH
namespace Go.Proofs.Ytbjpcajhceapkaa
theorem single_law {w : World} (x0 : Int) (_ : (Lit.int .i64 x0).wf = true) (A1 : Option Addr) (X1 : List Int) (cap1 : Nat) (_ : X1.length ≤ cap1) (h1 : NumsIn w.heap.size w A1 X1) (w1 : ∀ x ∈ X1, (Lit.int .i64 x).wf = true) (x2 : Int) (_ : (Lit.int .i64 x2).wf = true) (x3 : Int) (_ : (Lit.int .i64 x3).wf = true)
    (A4 : Option Addr) (X4 : List Int) (cap4 : Nat) (_ : X4.length ≤ cap4) (h4 : NumsIn w.heap.size w A4 X4) (w4 : ∀ x ∈ X4, (Lit.int .i64 x).wf = true) :
    Calls Try.prog 5 #[.int .i64 x0, .slice A1 X1.length cap1, .int .i64 x2, .int .i64 x3, .slice A4 X4.length cap4] w fun e w' => e = .returned (.bool true) ∧ RowKit.Below w.heap.size w w' :=
  single_any cus_ok x0 A1 X1 cap1 w h1 w1 x2 x3 A4 X4 cap4 h4 w4
end Go.Proofs.Ytbjpcajhceapkaa
