/-
  No cell of these rows narrows 'for every input' (looked for: loops, veiled, ifaces, maps, wideKeys, modest, calm, conditions, laid).
  DERIVED. THE GIVEN ROWS OF THIS SEAT. 4 by the template 'for every input the law returns true; each argument reads behind the call as it read before'; 0 by the template 'total and deterministic' (their statements: YtdhkhkcijffbiaaTotals.lean).
  GIVEN WITH THE SEED: the statements are not yours to turn. If you find one false, say at which input.
  Laid BY PROGRAM, IN A SANDBOX (cutbox-rows.mjs): the forced cells as the released guide's own fill.sh prints them over the translation 150069ac7ac1fe9e… (all of the seat's roots in one cut). By AI agents, Wed Nov 11 2026. No macro, syntax, notation, axiom, sorry.
-/
import Derived.Test.YtdhkhkcijffbiaaChecked
import GoSem.Claim
import GoSem.ClaimJoined
import GoSem.ClaimMapViews
import Derived.JoinedTies
import Derived.KernelRfl
namespace Go.Proofs.Ytdhkhkcijffbiaa
/- THE CELL 'sum', in the pinned program and in every row, IS THE sha256 OF THE DUMP (.gsa) THAT YtdhkhkcijffbiaaProg.lean LOADS. Nothing in Lean hashes anything: it is a label: what it is worth is what the hold of that sum in a sandbox is worth. -/
noncomputable def Try.pinned : Pinned := { name := "ytdhkhkcijffbiaa", sum := "150069ac7ac1fe9e267fd937c78dc61653dc72f956e321e66415eb0889ba56f4", checked := Try.checked }
namespace Rows
def none {H : Type} : Left H := { results := [], args := [] }

/-- 'baggagelaw15.ScreenScript': WHATEVER THE INPUT: true; the input reads as it did. -/
def screenScriptSpec : ChangeSpec := { name := "screenScript", fn := fun _ => fun
  | [d1, d2, d3, d4, d5] => { results := [.lit (.bool true)], args := [d1, d2, d3, d4, d5] }
  | _ => none }
def screenScriptRow : OpenClaim := { program := "ytdhkhkcijffbiaa", sum := "150069ac7ac1fe9e267fd937c78dc61653dc72f956e321e66415eb0889ba56f4", func := "baggage/baggagelaw15.ScreenScript", spec := "screenScript", inPlace := ["slices.overlaps[baggage/api.Check]"], unfollowed := true, recurses := true, apart := false }
def ScreenScriptSaid : Prop := screenScriptRow.holds Try.pinned (OpenSpec.ofChange screenScriptSpec)

/-- ITS FALSE NEIGHBOUR: 'it returns false'. Refute it at one input. -/
def screenScriptWrong : ChangeSpec := { name := "screenScript", fn := fun _ => fun
  | [d1, d2, d3, d4, d5] => { results := [.lit (.bool false)], args := [d1, d2, d3, d4, d5] }
  | _ => none }
def ScreenScriptWrongFalsely : Prop := screenScriptRow.holds Try.pinned (OpenSpec.ofChange screenScriptWrong)

/-- 'baggagelaw15.ScreenOnlyVerdicts': WHATEVER THE INPUT: true; the input reads as it did. -/
def screenOnlyVerdictsSpec : ChangeSpec := { name := "screenOnlyVerdicts", fn := fun _ => fun
  | [d] => { results := [.lit (.bool true)], args := [d] }
  | _ => none }
def screenOnlyVerdictsRow : OpenClaim := { program := "ytdhkhkcijffbiaa", sum := "150069ac7ac1fe9e267fd937c78dc61653dc72f956e321e66415eb0889ba56f4", func := "baggage/baggagelaw15.ScreenOnlyVerdicts", spec := "screenOnlyVerdicts", inPlace := ["slices.overlaps[baggage/api.Check]"], unfollowed := true, recurses := true, apart := false }
def ScreenOnlyVerdictsSaid : Prop := screenOnlyVerdictsRow.holds Try.pinned (OpenSpec.ofChange screenOnlyVerdictsSpec)

/-- ITS FALSE NEIGHBOUR: 'it returns false'. Refute it at one input. -/
def screenOnlyVerdictsWrong : ChangeSpec := { name := "screenOnlyVerdicts", fn := fun _ => fun
  | [d] => { results := [.lit (.bool false)], args := [d] }
  | _ => none }
def ScreenOnlyVerdictsWrongFalsely : Prop := screenOnlyVerdictsRow.holds Try.pinned (OpenSpec.ofChange screenOnlyVerdictsWrong)

/-- 'baggagelaw15.ScreenBound': WHATEVER THE INPUT: true; the input reads as it did. -/
def screenBoundSpec : ChangeSpec := { name := "screenBound", fn := fun _ => fun
  | [d1, d2, d3, d4, d5, d6] => { results := [.lit (.bool true)], args := [d1, d2, d3, d4, d5, d6] }
  | _ => none }
def screenBoundRow : OpenClaim := { program := "ytdhkhkcijffbiaa", sum := "150069ac7ac1fe9e267fd937c78dc61653dc72f956e321e66415eb0889ba56f4", func := "baggage/baggagelaw15.ScreenBound", spec := "screenBound", inPlace := ["slices.overlaps[baggage/api.Check]"], unfollowed := true, recurses := true, apart := false }
def ScreenBoundSaid : Prop := screenBoundRow.holds Try.pinned (OpenSpec.ofChange screenBoundSpec)

/-- ITS FALSE NEIGHBOUR: 'it returns false'. Refute it at one input. -/
def screenBoundWrong : ChangeSpec := { name := "screenBound", fn := fun _ => fun
  | [d1, d2, d3, d4, d5, d6] => { results := [.lit (.bool false)], args := [d1, d2, d3, d4, d5, d6] }
  | _ => none }
def ScreenBoundWrongFalsely : Prop := screenBoundRow.holds Try.pinned (OpenSpec.ofChange screenBoundWrong)

/-- 'baggagelaw15.ScreenImages': WHATEVER THE INPUT: true; the input reads as it did. -/
def screenImagesSpec : ChangeSpec := { name := "screenImages", fn := fun _ => fun
  | [d] => { results := [.lit (.bool true)], args := [d] }
  | _ => none }
def screenImagesRow : OpenClaim := { program := "ytdhkhkcijffbiaa", sum := "150069ac7ac1fe9e267fd937c78dc61653dc72f956e321e66415eb0889ba56f4", func := "baggage/baggagelaw15.ScreenImages", spec := "screenImages", inPlace := ["slices.overlaps[baggage/api.Check]"], unfollowed := true, recurses := true, apart := false }
def ScreenImagesSaid : Prop := screenImagesRow.holds Try.pinned (OpenSpec.ofChange screenImagesSpec)

/-- ITS FALSE NEIGHBOUR: 'it returns false'. Refute it at one input. -/
def screenImagesWrong : ChangeSpec := { name := "screenImages", fn := fun _ => fun
  | [d] => { results := [.lit (.bool false)], args := [d] }
  | _ => none }
def ScreenImagesWrongFalsely : Prop := screenImagesRow.holds Try.pinned (OpenSpec.ofChange screenImagesWrong)

/- THE SECOND FORM. 'bulk': how many values and letters a reading holds, each counted each time it is reached (what is shared counts as often as it is met; a slice's spare places count too). A statement '..UptoSaid' is the law's where the arguments, and the package variables that the reading takes, are together of bulk at most 1048576: NARROWER than '..Said'. Prove '..Said' where nothing that the law and all that it calls make is longer than what came in: it says more and counts as full. Else prove '..UptoSaid'. A law counts once. -/
mutual
def uptoBulk {H : Type} : DataW H → Nat
  | .lit (.string bytes) => bytes.length + 1
  | .lit _ => 1
  | .nil => 1
  | .ptr d => uptoBulk d + 1
  | .slice elems spare => uptoBulkAll elems + uptoBulkAll spare + 1
  | .agg parts => uptoBulkAll parts + 1
  | .iface _ d => uptoBulk d + 1
  | .map entries => uptoBulkEntries entries + 1
  | .held _ => 1
def uptoBulkAll {H : Type} : List (DataW H) → Nat
  | [] => 0
  | d :: r => uptoBulk d + uptoBulkAll r
def uptoBulkEntries {H : Type} : List (Lit × DataW H) → Nat
  | [] => 0
  | x :: r => uptoBulkEntry x + uptoBulkEntries r
def uptoBulkEntry {H : Type} : Lit × DataW H → Nat
  | (.string bytes, d) => bytes.length + uptoBulk d + 1
  | (_, d) => uptoBulk d + 1
 end
def uptoSmall : (H : Type) → List (DataW H) → Bool := fun _ ds => decide (uptoBulkAll ds ≤ 1048576)
def OpenSpec.upto (s : _root_.Go.ChangeSpec) : _root_.Go.OpenSpec := { _root_.Go.OpenSpec.ofChange s with cond := some uptoSmall }

/-- 'baggagelaw15.ScreenScript', WHERE WHAT IT READS IS OF BULK AT MOST 1048576: true; the input reads as it did. -/
def screenScriptUptoRow : OpenClaim := { program := "ytdhkhkcijffbiaa", sum := "150069ac7ac1fe9e267fd937c78dc61653dc72f956e321e66415eb0889ba56f4", func := "baggage/baggagelaw15.ScreenScript", spec := "screenScript", inPlace := ["slices.overlaps[baggage/api.Check]"], unfollowed := true, recurses := true, apart := false, narrowed := true }
def ScreenScriptUptoSaid : Prop := screenScriptUptoRow.holds Try.pinned (OpenSpec.upto screenScriptSpec)

/-- 'baggagelaw15.ScreenOnlyVerdicts', WHERE WHAT IT READS IS OF BULK AT MOST 1048576: true; the input reads as it did. -/
def screenOnlyVerdictsUptoRow : OpenClaim := { program := "ytdhkhkcijffbiaa", sum := "150069ac7ac1fe9e267fd937c78dc61653dc72f956e321e66415eb0889ba56f4", func := "baggage/baggagelaw15.ScreenOnlyVerdicts", spec := "screenOnlyVerdicts", inPlace := ["slices.overlaps[baggage/api.Check]"], unfollowed := true, recurses := true, apart := false, narrowed := true }
def ScreenOnlyVerdictsUptoSaid : Prop := screenOnlyVerdictsUptoRow.holds Try.pinned (OpenSpec.upto screenOnlyVerdictsSpec)

/-- 'baggagelaw15.ScreenBound', WHERE WHAT IT READS IS OF BULK AT MOST 1048576: true; the input reads as it did. -/
def screenBoundUptoRow : OpenClaim := { program := "ytdhkhkcijffbiaa", sum := "150069ac7ac1fe9e267fd937c78dc61653dc72f956e321e66415eb0889ba56f4", func := "baggage/baggagelaw15.ScreenBound", spec := "screenBound", inPlace := ["slices.overlaps[baggage/api.Check]"], unfollowed := true, recurses := true, apart := false, narrowed := true }
def ScreenBoundUptoSaid : Prop := screenBoundUptoRow.holds Try.pinned (OpenSpec.upto screenBoundSpec)

/-- 'baggagelaw15.ScreenImages', WHERE WHAT IT READS IS OF BULK AT MOST 1048576: true; the input reads as it did. -/
def screenImagesUptoRow : OpenClaim := { program := "ytdhkhkcijffbiaa", sum := "150069ac7ac1fe9e267fd937c78dc61653dc72f956e321e66415eb0889ba56f4", func := "baggage/baggagelaw15.ScreenImages", spec := "screenImages", inPlace := ["slices.overlaps[baggage/api.Check]"], unfollowed := true, recurses := true, apart := false, narrowed := true }
def ScreenImagesUptoSaid : Prop := screenImagesUptoRow.holds Try.pinned (OpenSpec.upto screenImagesSpec)

end Rows
end Go.Proofs.Ytdhkhkcijffbiaa
