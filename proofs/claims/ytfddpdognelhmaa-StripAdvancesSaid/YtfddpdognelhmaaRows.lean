/-
  No cell of these rows narrows 'for every input' (looked for: loops, veiled, ifaces, maps, wideKeys, modest, calm, conditions, laid).
  DERIVED. THE GIVEN ROWS OF THIS SEAT. 5 by the template 'for every input the law returns true; each argument reads behind the call as it read before'; 0 by the template 'total and deterministic' (their statements: YtfddpdognelhmaaTotals.lean).
  GIVEN WITH THE SEED: the statements are not yours to turn. If you find one false, say at which input.
  Laid BY PROGRAM, IN A SANDBOX (cutbox-rows.mjs): the forced cells as the released guide's own fill.sh prints them over the translation 848888817febda94… (all of the seat's roots in one cut). By AI agents, Wed Nov 11 2026. No macro, syntax, notation, axiom, sorry.
-/
import Derived.Test.YtfddpdognelhmaaChecked
import GoSem.Claim
import GoSem.ClaimJoined
import GoSem.ClaimMapViews
import Derived.JoinedTies
import Derived.KernelRfl
namespace Go.Proofs.Ytfddpdognelhmaa
/- THE CELL 'sum', in the pinned program and in every row, IS THE sha256 OF THE DUMP (.gsa) THAT YtfddpdognelhmaaProg.lean LOADS. Nothing in Lean hashes anything: it is a label: what it is worth is what the hold of that sum in a sandbox is worth. -/
noncomputable def Try.pinned : Pinned := { name := "ytfddpdognelhmaa", sum := "848888817febda94d7894f264dac4848256b527b59496c80f6ed4de73b5fa344", checked := Try.checked }
namespace Rows
def none {H : Type} : Left H := { results := [], args := [] }

/-- 'baggagelaw09.StripAdvances': WHATEVER THE INPUT: true; the input reads as it did. -/
def stripAdvancesSpec : ChangeSpec := { name := "stripAdvances", fn := fun _ => fun
  | [d1, d2, d3, d4, d5] => { results := [.lit (.bool true)], args := [d1, d2, d3, d4, d5] }
  | _ => none }
def stripAdvancesRow : OpenClaim := { program := "ytfddpdognelhmaa", sum := "848888817febda94d7894f264dac4848256b527b59496c80f6ed4de73b5fa344", func := "baggage/baggagelaw09.StripAdvances", spec := "stripAdvances", unfollowed := true, recurses := true, apart := false }
def StripAdvancesSaid : Prop := stripAdvancesRow.holds Try.pinned (OpenSpec.ofChange stripAdvancesSpec)

/-- ITS FALSE NEIGHBOUR: 'it returns false'. Refute it at one input. -/
def stripAdvancesWrong : ChangeSpec := { name := "stripAdvances", fn := fun _ => fun
  | [d1, d2, d3, d4, d5] => { results := [.lit (.bool false)], args := [d1, d2, d3, d4, d5] }
  | _ => none }
def StripAdvancesWrongFalsely : Prop := stripAdvancesRow.holds Try.pinned (OpenSpec.ofChange stripAdvancesWrong)

/-- 'baggagelaw09.StripOrder': WHATEVER THE INPUT: true; the input reads as it did. -/
def stripOrderSpec : ChangeSpec := { name := "stripOrder", fn := fun _ => fun
  | [d1, d2, d3] => { results := [.lit (.bool true)], args := [d1, d2, d3] }
  | _ => none }
def stripOrderRow : OpenClaim := { program := "ytfddpdognelhmaa", sum := "848888817febda94d7894f264dac4848256b527b59496c80f6ed4de73b5fa344", func := "baggage/baggagelaw09.StripOrder", spec := "stripOrder", unfollowed := true, recurses := true, apart := false }
def StripOrderSaid : Prop := stripOrderRow.holds Try.pinned (OpenSpec.ofChange stripOrderSpec)

/-- ITS FALSE NEIGHBOUR: 'it returns false'. Refute it at one input. -/
def stripOrderWrong : ChangeSpec := { name := "stripOrder", fn := fun _ => fun
  | [d1, d2, d3] => { results := [.lit (.bool false)], args := [d1, d2, d3] }
  | _ => none }
def StripOrderWrongFalsely : Prop := stripOrderRow.holds Try.pinned (OpenSpec.ofChange stripOrderWrong)

/-- 'baggagelaw09.StripDrains': WHATEVER THE INPUT: true; the input reads as it did. -/
def stripDrainsSpec : ChangeSpec := { name := "stripDrains", fn := fun _ => fun
  | [d] => { results := [.lit (.bool true)], args := [d] }
  | _ => none }
def stripDrainsRow : OpenClaim := { program := "ytfddpdognelhmaa", sum := "848888817febda94d7894f264dac4848256b527b59496c80f6ed4de73b5fa344", func := "baggage/baggagelaw09.StripDrains", spec := "stripDrains", unfollowed := true, recurses := true, apart := false }
def StripDrainsSaid : Prop := stripDrainsRow.holds Try.pinned (OpenSpec.ofChange stripDrainsSpec)

/-- ITS FALSE NEIGHBOUR: 'it returns false'. Refute it at one input. -/
def stripDrainsWrong : ChangeSpec := { name := "stripDrains", fn := fun _ => fun
  | [d] => { results := [.lit (.bool false)], args := [d] }
  | _ => none }
def StripDrainsWrongFalsely : Prop := stripDrainsRow.holds Try.pinned (OpenSpec.ofChange stripDrainsWrong)

/-- 'baggagelaw09.StripStops': WHATEVER THE INPUT: true; the input reads as it did. -/
def stripStopsSpec : ChangeSpec := { name := "stripStops", fn := fun _ => fun
  | [d] => { results := [.lit (.bool true)], args := [d] }
  | _ => none }
def stripStopsRow : OpenClaim := { program := "ytfddpdognelhmaa", sum := "848888817febda94d7894f264dac4848256b527b59496c80f6ed4de73b5fa344", func := "baggage/baggagelaw09.StripStops", spec := "stripStops", unfollowed := true, recurses := true, apart := false }
def StripStopsSaid : Prop := stripStopsRow.holds Try.pinned (OpenSpec.ofChange stripStopsSpec)

/-- ITS FALSE NEIGHBOUR: 'it returns false'. Refute it at one input. -/
def stripStopsWrong : ChangeSpec := { name := "stripStops", fn := fun _ => fun
  | [d] => { results := [.lit (.bool false)], args := [d] }
  | _ => none }
def StripStopsWrongFalsely : Prop := stripStopsRow.holds Try.pinned (OpenSpec.ofChange stripStopsWrong)

/-- 'baggagelaw09.StripFaults': WHATEVER THE INPUT: true; the input reads as it did. -/
def stripFaultsSpec : ChangeSpec := { name := "stripFaults", fn := fun _ => fun
  | [d1, d2, d3] => { results := [.lit (.bool true)], args := [d1, d2, d3] }
  | _ => none }
def stripFaultsRow : OpenClaim := { program := "ytfddpdognelhmaa", sum := "848888817febda94d7894f264dac4848256b527b59496c80f6ed4de73b5fa344", func := "baggage/baggagelaw09.StripFaults", spec := "stripFaults", unfollowed := true, recurses := true, apart := false }
def StripFaultsSaid : Prop := stripFaultsRow.holds Try.pinned (OpenSpec.ofChange stripFaultsSpec)

/-- ITS FALSE NEIGHBOUR: 'it returns false'. Refute it at one input. -/
def stripFaultsWrong : ChangeSpec := { name := "stripFaults", fn := fun _ => fun
  | [d1, d2, d3] => { results := [.lit (.bool false)], args := [d1, d2, d3] }
  | _ => none }
def StripFaultsWrongFalsely : Prop := stripFaultsRow.holds Try.pinned (OpenSpec.ofChange stripFaultsWrong)

/- THE SECOND FORM. 'bulk': how many values and letters a reading holds, each counted each time it is reached (what is shared counts as often as it is met; a slice's spare places count too). A statement '..UptoSaid' is the law's where the arguments, and the package variables that the reading takes, are together of bulk at most 1048576: NARROWER than '..Said'. Prove '..Said' where nothing that the law and all that it calls make is longer than what came in: it says more and counts as full. Else prove '..UptoSaid'. A law counts once. -/
mutual
def uptoBulk {H : Type} : DataW H → Nat
  | .lit (.string bytes) => bytes.length + 1
  | .lit _ => 1
  | .nil => 1
  | .ptr d => uptoBulk d + 1
  | .slice elems spare => uptoBulkAll elems + uptoBulkAll spare + 1
  | .agg parts => uptoBulkAll parts + 1
  | .iface _ d => uptoBulk d + 1
  | .map entries => uptoBulkEntries entries + 1
  | .held _ => 1
def uptoBulkAll {H : Type} : List (DataW H) → Nat
  | [] => 0
  | d :: r => uptoBulk d + uptoBulkAll r
def uptoBulkEntries {H : Type} : List (Lit × DataW H) → Nat
  | [] => 0
  | x :: r => uptoBulkEntry x + uptoBulkEntries r
def uptoBulkEntry {H : Type} : Lit × DataW H → Nat
  | (.string bytes, d) => bytes.length + uptoBulk d + 1
  | (_, d) => uptoBulk d + 1
 end
def uptoSmall : (H : Type) → List (DataW H) → Bool := fun _ ds => decide (uptoBulkAll ds ≤ 1048576)
def OpenSpec.upto (s : _root_.Go.ChangeSpec) : _root_.Go.OpenSpec := { _root_.Go.OpenSpec.ofChange s with cond := some uptoSmall }

/-- 'baggagelaw09.StripAdvances', WHERE WHAT IT READS IS OF BULK AT MOST 1048576: true; the input reads as it did. -/
def stripAdvancesUptoRow : OpenClaim := { program := "ytfddpdognelhmaa", sum := "848888817febda94d7894f264dac4848256b527b59496c80f6ed4de73b5fa344", func := "baggage/baggagelaw09.StripAdvances", spec := "stripAdvances", unfollowed := true, recurses := true, apart := false, narrowed := true }
def StripAdvancesUptoSaid : Prop := stripAdvancesUptoRow.holds Try.pinned (OpenSpec.upto stripAdvancesSpec)

/-- 'baggagelaw09.StripOrder', WHERE WHAT IT READS IS OF BULK AT MOST 1048576: true; the input reads as it did. -/
def stripOrderUptoRow : OpenClaim := { program := "ytfddpdognelhmaa", sum := "848888817febda94d7894f264dac4848256b527b59496c80f6ed4de73b5fa344", func := "baggage/baggagelaw09.StripOrder", spec := "stripOrder", unfollowed := true, recurses := true, apart := false, narrowed := true }
def StripOrderUptoSaid : Prop := stripOrderUptoRow.holds Try.pinned (OpenSpec.upto stripOrderSpec)

/-- 'baggagelaw09.StripDrains', WHERE WHAT IT READS IS OF BULK AT MOST 1048576: true; the input reads as it did. -/
def stripDrainsUptoRow : OpenClaim := { program := "ytfddpdognelhmaa", sum := "848888817febda94d7894f264dac4848256b527b59496c80f6ed4de73b5fa344", func := "baggage/baggagelaw09.StripDrains", spec := "stripDrains", unfollowed := true, recurses := true, apart := false, narrowed := true }
def StripDrainsUptoSaid : Prop := stripDrainsUptoRow.holds Try.pinned (OpenSpec.upto stripDrainsSpec)

/-- 'baggagelaw09.StripStops', WHERE WHAT IT READS IS OF BULK AT MOST 1048576: true; the input reads as it did. -/
def stripStopsUptoRow : OpenClaim := { program := "ytfddpdognelhmaa", sum := "848888817febda94d7894f264dac4848256b527b59496c80f6ed4de73b5fa344", func := "baggage/baggagelaw09.StripStops", spec := "stripStops", unfollowed := true, recurses := true, apart := false, narrowed := true }
def StripStopsUptoSaid : Prop := stripStopsUptoRow.holds Try.pinned (OpenSpec.upto stripStopsSpec)

/-- 'baggagelaw09.StripFaults', WHERE WHAT IT READS IS OF BULK AT MOST 1048576: true; the input reads as it did. -/
def stripFaultsUptoRow : OpenClaim := { program := "ytfddpdognelhmaa", sum := "848888817febda94d7894f264dac4848256b527b59496c80f6ed4de73b5fa344", func := "baggage/baggagelaw09.StripFaults", spec := "stripFaults", unfollowed := true, recurses := true, apart := false, narrowed := true }
def StripFaultsUptoSaid : Prop := stripFaultsUptoRow.holds Try.pinned (OpenSpec.upto stripFaultsSpec)

end Rows
end Go.Proofs.Ytfddpdognelhmaa
