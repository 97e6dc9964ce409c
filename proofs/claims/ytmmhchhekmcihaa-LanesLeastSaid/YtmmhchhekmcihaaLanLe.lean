/-
  Lanes (layer 17): LanesLeast over the program's own functions.
-/
import Derived.Test.YtmmhchhekmcihaaLanD
import Derived.Test.YtmmhchhekmcihaaLanAA
namespace Go.Proofs.Ytmmhchhekmcihaa
theorem least_law {w : World} (A0 : Option Addr) (n0 c0 : Nat) (hc : n0 ≤ c0) (hA : IntsIn w.heap.size w A0 n0) (A9 : Option Addr) (n9 c9 : Nat) (hc9 : n9 ≤ c9) (hA9 : IntsIn w.heap.size w A9 n9) :
    Calls Try.prog 5 #[.slice A0 n0 c0, .slice A9 n9 c9] w fun e w' => e = .returned (.bool true) ∧ RowKit.Below w.heap.size w w' := least_any lan_ok A0 n0 c0 w hc hA A9 n9 c9 hc9 hA9
end Go.Proofs.Ytmmhchhekmcihaa
