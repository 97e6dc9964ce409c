/-
  Lanes (layer 17): LanesStore over the program's own functions.
-/
import Derived.Test.YtmmhchhekmcihaaLanCG
import Derived.Test.YtmmhchhekmcihaaLanAA
namespace Go.Proofs.Ytmmhchhekmcihaa
theorem store_law {w : World} (A0 : Option Addr) (n0 c0 : Nat) (hc : n0 ≤ c0) (hA : IntsIn w.heap.size w A0 n0) (x1 : Int) (_ : (Lit.int .i64 x1).wf = true) (x2 : Int) (_ : (Lit.int .i64 x2).wf = true) (x3 y3 : Int) (w3 : (Lit.int .i64 x3).wf = true) (v3 : (Lit.int .i64 y3).wf = true) :
    Calls Try.prog 6 #[.slice A0 n0 c0, .int .i64 x1, .int .i64 x2, .agg #[.int .i64 x3, .int .i64 y3]] w fun e w' => e = .returned (.bool true) ∧ RowKit.Below w.heap.size w w' := store_any (awake_lan lan_ok) A0 n0 c0 w hc hA x1 x2 x3 y3 w3 v3
end Go.Proofs.Ytmmhchhekmcihaa
