/-
  Custody (layer 16): CustodyScript over the program's own functions.
-/
import Derived.Test.YtbjpcajhceapkaaCusN
namespace Go.Proofs.Ytbjpcajhceapkaa
theorem script_law {w : World} (A0 : Option Addr) (len0 cap0 : Nat) (hc : len0 ≤ cap0) (hA : IntsIn w.heap.size w A0 len0) (x1 : Int) (_ : (Lit.int .i64 x1).wf = true) (x2 : Int) (_ : (Lit.int .i64 x2).wf = true) :
    Calls Try.prog 3 #[.slice A0 len0 cap0, .int .i64 x1, .int .i64 x2] w fun e w' => e = .returned (.bool true) ∧ RowKit.Below w.heap.size w w' :=
  script_any cus_ok A0 len0 cap0 w hc hA x1 x2
end Go.Proofs.Ytbjpcajhceapkaa
