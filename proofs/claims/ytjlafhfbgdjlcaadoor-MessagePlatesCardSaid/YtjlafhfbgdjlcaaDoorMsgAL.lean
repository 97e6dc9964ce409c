/-
  MessagePlates: the walk as its step wants it.
-/
import Derived.Test.YtjlafhfbgdjlcaaDoorMsgAG
import Derived.Test.YtjlafhfbgdjlcaaDoorMsgAH
namespace Go.Proofs.YtjlafhfbgdjlcaaDoor
open Go.RowKit
theorem mplates_law (A : Option Addr) (len cap : Nat) (hcap : len ≤ cap) {w : World} (hA : IntsIn w.heap.size w A len) (A' : Option Addr) (len' cap' : Nat) (hcap' : len' ≤ cap') (hA' : IntsIn w.heap.size w A' len')
    (raw : Msg) (P : Option Addr) (c : Nat) (Q : Option Addr) (d : Nat) (h1 : ∀ b', w.heap.size ≤ b' → LegsIn b' w P raw.onw) (h2 : ∀ b', w.heap.size ≤ b' → NumsIn b' w Q raw.lst)
    (oth : Msg) (P' : Option Addr) (c' : Nat) (Q' : Option Addr) (d' : Nat) (h3 : ∀ b', w.heap.size ≤ b' → LegsIn b' w P' oth.onw) (h4 : ∀ b', w.heap.size ≤ b' → NumsIn b' w Q' oth.lst) (hT : Keys w ∧ Tabs w) :
    Calls Tryd.prog 4 #[.slice A len cap, .slice A' len' cap', msgV raw P c Q d, msgV oth P' c' Q' d'] w fun e w' => e = .returned (.bool true) ∧ Below w.heap.size w w' :=
  mplates_any A len cap A' len' cap' raw oth P Q P' Q' c d c' d' w hcap hA hcap' hA' (h1 _ (Nat.le_refl _)) (h2 _ (Nat.le_refl _)) (h3 _ (Nat.le_refl _)) (h4 _ (Nat.le_refl _)) hT.1 hT.2
end Go.Proofs.YtjlafhfbgdjlcaaDoor
