/-
  Screening (layer 15): ScreenImages over the program's own functions.
-/
import Derived.Test.YtdhkhkcijffbiaaScrI
import Derived.Test.YtdhkhkcijffbiaaScrAB
namespace Go.Proofs.Ytdhkhkcijffbiaa
theorem images_law {w : World} (A0 : Option Addr) (n0 c0 : Nat) (hc : n0 ≤ c0) (hA : IntsIn w.heap.size w A0 n0) :
    Calls Try.prog 6 #[.slice A0 n0 c0] w fun e w' => e = .returned (.bool true) ∧ RowKit.Below w.heap.size w w' :=
  images_any scr_ok A0 n0 c0 w hc hA
end Go.Proofs.Ytdhkhkcijffbiaa
