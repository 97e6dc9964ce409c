/-
  Lanes (layer 17): LanesKeeps over the program's own functions.
-/
import Derived.Test.YtmmhchhekmcihaaLanBI
import Derived.Test.YtmmhchhekmcihaaLanAA
import Derived.Test.YtmmhchhekmcihaaLanBG
namespace Go.Proofs.Ytmmhchhekmcihaa
theorem keeps_law {w : World} (A0 : Option Addr) (n0 c0 : Nat) (hc : n0 ≤ c0) (hA : IntsIn w.heap.size w A0 n0) (x1 : Int) (_ : (Lit.int .i64 x1).wf = true) :
    Calls Try.prog 8 #[.slice A0 n0 c0, .int .i64 x1] w fun e w' => e = .returned (.bool true) ∧ RowKit.Below w.heap.size w w' := keeps_any (awake_lan lan_ok) sto_ok A0 n0 c0 w hc hA x1
end Go.Proofs.Ytmmhchhekmcihaa
