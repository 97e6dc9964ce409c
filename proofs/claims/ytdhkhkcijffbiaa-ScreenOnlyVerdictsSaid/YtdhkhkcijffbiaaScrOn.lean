/-
  Screening (layer 15): ScreenOnlyVerdicts over the program's own functions.
-/
import Derived.Test.YtdhkhkcijffbiaaScrG
import Derived.Test.YtdhkhkcijffbiaaScrAB
namespace Go.Proofs.Ytdhkhkcijffbiaa
theorem onlyv_law {w : World} (A0 : Option Addr) (n0 c0 : Nat) (hc : n0 ≤ c0) (hA : IntsIn w.heap.size w A0 n0) :
    Calls Try.prog 4 #[.slice A0 n0 c0] w fun e w' => e = .returned (.bool true) ∧ RowKit.Below w.heap.size w w' :=
  onlyv_any scr_ok A0 n0 c0 w hc hA
end Go.Proofs.Ytdhkhkcijffbiaa
