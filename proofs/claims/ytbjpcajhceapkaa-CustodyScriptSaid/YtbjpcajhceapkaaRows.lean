/-
  No cell of these rows narrows 'for every input' (looked for: loops, veiled, ifaces, maps, wideKeys, modest, calm, conditions, laid).
  DERIVED. THE GIVEN ROWS OF THIS SEAT. 4 by the template 'for every input the law returns true; each argument reads behind the call as it read before'; 0 by the template 'total and deterministic' (their statements: YtbjpcajhceapkaaTotals.lean).
  GIVEN WITH THE SEED: the statements are not yours to turn. If you find one false, say at which input.
  Laid BY PROGRAM, IN A SANDBOX (cutbox-rows.mjs): the forced cells as the released guide's own fill.sh prints them over the translation 0fbaefbfe4aa8ecf… (all of the seat's roots in one cut). By AI agents, Wed Nov 11 2026. No macro, syntax, notation, axiom, sorry.
-/
import Derived.Test.YtbjpcajhceapkaaChecked
import GoSem.Claim
import GoSem.ClaimJoined
import GoSem.ClaimMapViews
import Derived.JoinedTies
import Derived.KernelRfl
namespace Go.Proofs.Ytbjpcajhceapkaa
/- THE CELL 'sum', in the pinned program and in every row, IS THE sha256 OF THE DUMP (.gsa) THAT YtbjpcajhceapkaaProg.lean LOADS. Nothing in Lean hashes anything: it is a label: what it is worth is what the hold of that sum in a sandbox is worth. -/
noncomputable def Try.pinned : Pinned := { name := "ytbjpcajhceapkaa", sum := "0fbaefbfe4aa8ecf58fa5a61cff1f8650c86d0f8aa082aebfddfc439ce30dd99", checked := Try.checked }
namespace Rows
def none {H : Type} : Left H := { results := [], args := [] }

/-- 'baggagelaw16.CustodyScript': WHATEVER THE INPUT: true; the input reads as it did. -/
def custodyScriptSpec : ChangeSpec := { name := "custodyScript", fn := fun _ => fun
  | [d1, d2, d3] => { results := [.lit (.bool true)], args := [d1, d2, d3] }
  | _ => none }
def custodyScriptRow : OpenClaim := { program := "ytbjpcajhceapkaa", sum := "0fbaefbfe4aa8ecf58fa5a61cff1f8650c86d0f8aa082aebfddfc439ce30dd99", func := "baggage/baggagelaw16.CustodyScript", spec := "custodyScript", inPlace := ["slices.overlaps[baggage/api.Seal]"], unfollowed := true, recurses := true, apart := false }
def CustodyScriptSaid : Prop := custodyScriptRow.holds Try.pinned (OpenSpec.ofChange custodyScriptSpec)

/-- ITS FALSE NEIGHBOUR: 'it returns false'. Refute it at one input. -/
def custodyScriptWrong : ChangeSpec := { name := "custodyScript", fn := fun _ => fun
  | [d1, d2, d3] => { results := [.lit (.bool false)], args := [d1, d2, d3] }
  | _ => none }
def CustodyScriptWrongFalsely : Prop := custodyScriptRow.holds Try.pinned (OpenSpec.ofChange custodyScriptWrong)

/-- 'baggagelaw16.CustodyOpens': WHATEVER THE INPUT: true; the input reads as it did. -/
def custodyOpensSpec : ChangeSpec := { name := "custodyOpens", fn := fun _ => fun
  | [d1, d2] => { results := [.lit (.bool true)], args := [d1, d2] }
  | _ => none }
def custodyOpensRow : OpenClaim := { program := "ytbjpcajhceapkaa", sum := "0fbaefbfe4aa8ecf58fa5a61cff1f8650c86d0f8aa082aebfddfc439ce30dd99", func := "baggage/baggagelaw16.CustodyOpens", spec := "custodyOpens", inPlace := ["slices.overlaps[baggage/api.Seal]"], unfollowed := true, recurses := true, apart := false }
def CustodyOpensSaid : Prop := custodyOpensRow.holds Try.pinned (OpenSpec.ofChange custodyOpensSpec)

/-- ITS FALSE NEIGHBOUR: 'it returns false'. Refute it at one input. -/
def custodyOpensWrong : ChangeSpec := { name := "custodyOpens", fn := fun _ => fun
  | [d1, d2] => { results := [.lit (.bool false)], args := [d1, d2] }
  | _ => none }
def CustodyOpensWrongFalsely : Prop := custodyOpensRow.holds Try.pinned (OpenSpec.ofChange custodyOpensWrong)

/-- 'baggagelaw16.CustodySingle': WHATEVER THE INPUT: true; the input reads as it did. -/
def custodySingleSpec : ChangeSpec := { name := "custodySingle", fn := fun _ => fun
  | [d1, d2, d3, d4, d5] => { results := [.lit (.bool true)], args := [d1, d2, d3, d4, d5] }
  | _ => none }
def custodySingleRow : OpenClaim := { program := "ytbjpcajhceapkaa", sum := "0fbaefbfe4aa8ecf58fa5a61cff1f8650c86d0f8aa082aebfddfc439ce30dd99", func := "baggage/baggagelaw16.CustodySingle", spec := "custodySingle", inPlace := ["slices.overlaps[baggage/api.Seal]"], unfollowed := true, recurses := true, apart := false }
def CustodySingleSaid : Prop := custodySingleRow.holds Try.pinned (OpenSpec.ofChange custodySingleSpec)

/-- ITS FALSE NEIGHBOUR: 'it returns false'. Refute it at one input. -/
def custodySingleWrong : ChangeSpec := { name := "custodySingle", fn := fun _ => fun
  | [d1, d2, d3, d4, d5] => { results := [.lit (.bool false)], args := [d1, d2, d3, d4, d5] }
  | _ => none }
def CustodySingleWrongFalsely : Prop := custodySingleRow.holds Try.pinned (OpenSpec.ofChange custodySingleWrong)

/-- 'baggagelaw16.CustodyUndone': WHATEVER THE INPUT: true; the input reads as it did. -/
def custodyUndoneSpec : ChangeSpec := { name := "custodyUndone", fn := fun _ => fun
  | [d1, d2] => { results := [.lit (.bool true)], args := [d1, d2] }
  | _ => none }
def custodyUndoneRow : OpenClaim := { program := "ytbjpcajhceapkaa", sum := "0fbaefbfe4aa8ecf58fa5a61cff1f8650c86d0f8aa082aebfddfc439ce30dd99", func := "baggage/baggagelaw16.CustodyUndone", spec := "custodyUndone", inPlace := ["slices.overlaps[baggage/api.Seal]"], unfollowed := true, recurses := true, apart := false }
def CustodyUndoneSaid : Prop := custodyUndoneRow.holds Try.pinned (OpenSpec.ofChange custodyUndoneSpec)

/-- ITS FALSE NEIGHBOUR: 'it returns false'. Refute it at one input. -/
def custodyUndoneWrong : ChangeSpec := { name := "custodyUndone", fn := fun _ => fun
  | [d1, d2] => { results := [.lit (.bool false)], args := [d1, d2] }
  | _ => none }
def CustodyUndoneWrongFalsely : Prop := custodyUndoneRow.holds Try.pinned (OpenSpec.ofChange custodyUndoneWrong)

/- THE SECOND FORM. 'bulk': how many values and letters a reading holds, each counted each time it is reached (what is shared counts as often as it is met; a slice's spare places count too). A statement '..UptoSaid' is the law's where the arguments, and the package variables that the reading takes, are together of bulk at most 1048576: NARROWER than '..Said'. Prove '..Said' where nothing that the law and all that it calls make is longer than what came in: it says more and counts as full. Else prove '..UptoSaid'. A law counts once. -/
mutual
def uptoBulk {H : Type} : DataW H → Nat
  | .lit (.string bytes) => bytes.length + 1
  | .lit _ => 1
  | .nil => 1
  | .ptr d => uptoBulk d + 1
  | .slice elems spare => uptoBulkAll elems + uptoBulkAll spare + 1
  | .agg parts => uptoBulkAll parts + 1
  | .iface _ d => uptoBulk d + 1
  | .map entries => uptoBulkEntries entries + 1
  | .held _ => 1
def uptoBulkAll {H : Type} : List (DataW H) → Nat
  | [] => 0
  | d :: r => uptoBulk d + uptoBulkAll r
def uptoBulkEntries {H : Type} : List (Lit × DataW H) → Nat
  | [] => 0
  | x :: r => uptoBulkEntry x + uptoBulkEntries r
def uptoBulkEntry {H : Type} : Lit × DataW H → Nat
  | (.string bytes, d) => bytes.length + uptoBulk d + 1
  | (_, d) => uptoBulk d + 1
 end
def uptoSmall : (H : Type) → List (DataW H) → Bool := fun _ ds => decide (uptoBulkAll ds ≤ 1048576)
def OpenSpec.upto (s : _root_.Go.ChangeSpec) : _root_.Go.OpenSpec := { _root_.Go.OpenSpec.ofChange s with cond := some uptoSmall }

/-- 'baggagelaw16.CustodyScript', WHERE WHAT IT READS IS OF BULK AT MOST 1048576: true; the input reads as it did. -/
def custodyScriptUptoRow : OpenClaim := { program := "ytbjpcajhceapkaa", sum := "0fbaefbfe4aa8ecf58fa5a61cff1f8650c86d0f8aa082aebfddfc439ce30dd99", func := "baggage/baggagelaw16.CustodyScript", spec := "custodyScript", inPlace := ["slices.overlaps[baggage/api.Seal]"], unfollowed := true, recurses := true, apart := false, narrowed := true }
def CustodyScriptUptoSaid : Prop := custodyScriptUptoRow.holds Try.pinned (OpenSpec.upto custodyScriptSpec)

/-- 'baggagelaw16.CustodyOpens', WHERE WHAT IT READS IS OF BULK AT MOST 1048576: true; the input reads as it did. -/
def custodyOpensUptoRow : OpenClaim := { program := "ytbjpcajhceapkaa", sum := "0fbaefbfe4aa8ecf58fa5a61cff1f8650c86d0f8aa082aebfddfc439ce30dd99", func := "baggage/baggagelaw16.CustodyOpens", spec := "custodyOpens", inPlace := ["slices.overlaps[baggage/api.Seal]"], unfollowed := true, recurses := true, apart := false, narrowed := true }
def CustodyOpensUptoSaid : Prop := custodyOpensUptoRow.holds Try.pinned (OpenSpec.upto custodyOpensSpec)

/-- 'baggagelaw16.CustodySingle', WHERE WHAT IT READS IS OF BULK AT MOST 1048576: true; the input reads as it did. -/
def custodySingleUptoRow : OpenClaim := { program := "ytbjpcajhceapkaa", sum := "0fbaefbfe4aa8ecf58fa5a61cff1f8650c86d0f8aa082aebfddfc439ce30dd99", func := "baggage/baggagelaw16.CustodySingle", spec := "custodySingle", inPlace := ["slices.overlaps[baggage/api.Seal]"], unfollowed := true, recurses := true, apart := false, narrowed := true }
def CustodySingleUptoSaid : Prop := custodySingleUptoRow.holds Try.pinned (OpenSpec.upto custodySingleSpec)

/-- 'baggagelaw16.CustodyUndone', WHERE WHAT IT READS IS OF BULK AT MOST 1048576: true; the input reads as it did. -/
def custodyUndoneUptoRow : OpenClaim := { program := "ytbjpcajhceapkaa", sum := "0fbaefbfe4aa8ecf58fa5a61cff1f8650c86d0f8aa082aebfddfc439ce30dd99", func := "baggage/baggagelaw16.CustodyUndone", spec := "custodyUndone", inPlace := ["slices.overlaps[baggage/api.Seal]"], unfollowed := true, recurses := true, apart := false, narrowed := true }
def CustodyUndoneUptoSaid : Prop := custodyUndoneUptoRow.holds Try.pinned (OpenSpec.upto custodyUndoneSpec)

end Rows
end Go.Proofs.Ytbjpcajhceapkaa
