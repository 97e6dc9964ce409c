/-
  Lanes (layer 17): LanesAssigns over the program's own functions.
-/
import Derived.Test.YtmmhchhekmcihaaLanE
import Derived.Test.YtmmhchhekmcihaaLanAA
namespace Go.Proofs.Ytmmhchhekmcihaa
theorem assigns_law {w : World} (A0 : Option Addr) (X : List Int) (c0 : Nat) (hc0 : X.length ≤ c0) (hX : NumsIn w.heap.size w A0 X) (wX : ∀ x ∈ X, (Lit.int .i64 x).wf = true) (A9 : Option Addr) (n9 c9 : Nat) (hc9 : n9 ≤ c9) (hA9 : IntsIn w.heap.size w A9 n9)
    (A8 : Option Addr) (Y : List Int) (c8 : Nat) (hc8 : Y.length ≤ c8) (hY : NumsIn w.heap.size w A8 Y) (wY : ∀ x ∈ Y, (Lit.int .i64 x).wf = true) :
    Calls Try.prog 3 #[.slice A0 X.length c0, .slice A9 n9 c9, .slice A8 Y.length c8] w fun e w' => e = .returned (.bool true) ∧ RowKit.Below w.heap.size w w' := assigns_any lan_ok w A0 X c0 hc0 hX wX A9 n9 c9 hc9 hA9 A8 Y c8 hc8 hY wY
end Go.Proofs.Ytmmhchhekmcihaa
