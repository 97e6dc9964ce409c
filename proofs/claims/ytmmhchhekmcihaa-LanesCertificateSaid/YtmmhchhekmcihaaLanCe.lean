/-
  Lanes (layer 17): LanesCertificate over the program's own functions.
-/
import Derived.Test.YtmmhchhekmcihaaLanC
import Derived.Test.YtmmhchhekmcihaaLanAA
namespace Go.Proofs.Ytmmhchhekmcihaa
theorem cert_law {w : World} (A0 : Option Addr) (n0 c0 : Nat) (hc : n0 ≤ c0) (hA : IntsIn w.heap.size w A0 n0) :
    Calls Try.prog 4 #[.slice A0 n0 c0] w fun e w' => e = .returned (.bool true) ∧ RowKit.Below w.heap.size w w' := cert_any lan_ok A0 n0 c0 w hc hA
end Go.Proofs.Ytmmhchhekmcihaa
