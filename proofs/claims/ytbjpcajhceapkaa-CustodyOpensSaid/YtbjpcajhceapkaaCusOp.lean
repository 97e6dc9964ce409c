/-
  Custody (layer 16): CustodyOpens over the program's own functions.
-/
import Derived.Test.YtbjpcajhceapkaaCusK
namespace Go.Proofs.Ytbjpcajhceapkaa
theorem opens_law {w : World} (t s : Int) (X Y : List Int) (A B : Option Addr) (c d : Nat) (hX : NumsIn w.heap.size w A X) (hY : NumsIn w.heap.size w B Y) (wX : ∀ x ∈ X, (Lit.int .i64 x).wf = true) (wY : ∀ x ∈ Y, (Lit.int .i64 x).wf = true)
    (A1 : Option Addr) (len1 cap1 : Nat) (hc : len1 ≤ cap1) (hA : IntsIn w.heap.size w A1 len1) :
    Calls Try.prog 4 #[.agg #[.int .i64 t, .int .i64 s, .slice A X.length c, .slice B Y.length d], .slice A1 len1 cap1] w fun e w' => e = .returned (.bool true) ∧ RowKit.Below w.heap.size w w' :=
  opens_any cus_ok t s X Y A B c d A1 len1 cap1 w hc hA hX hY wX wY
end Go.Proofs.Ytbjpcajhceapkaa
