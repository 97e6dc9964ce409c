/-
  Lanes (layer 17): LanesFree over the program's own functions.
-/
import Derived.Test.YtmmhchhekmcihaaLanF
import Derived.Test.YtmmhchhekmcihaaLanAA
import Derived.Test.YtmmhchhekmcihaaLanBG
namespace Go.Proofs.Ytmmhchhekmcihaa
theorem free_law {w : World} (A0 : Option Addr) (n0 c0 : Nat) (hc : n0 ≤ c0) (hA : IntsIn w.heap.size w A0 n0) :
    Calls Try.prog 7 #[.slice A0 n0 c0] w fun e w' => e = .returned (.bool true) ∧ RowKit.Below w.heap.size w w' := free_any lan_ok.count (awake_lan lan_ok) sto_ok A0 n0 c0 w hc hA
end Go.Proofs.Ytmmhchhekmcihaa
