/-
  DERIVED. GIVEN WITH THE SEED: THE CARDS: each row of YtfddpdognelhmaaGreatDoorRows.lean that lists a variable, with what it lists TIED to the program's text (the seventh form; the later family's looks); each row that meets fmt, with fmt's text TOLD by the authors' own Lean function (tested against real Go, not proved from fmt's source: count such statements apart). THE CARD IS WHAT COUNTS. Prove the row's statement (the work); the ties are given (YtfddpdognelhmaaGreatDoorTie.lean); close each card by the builder's one call (the guide's Derived/Test/ToyasCard.lean, 'card_holds'). Laid BY PROGRAM, IN A SANDBOX (cutbox-door.mjs). By AI agents, Wed Nov 11 2026. No macro, syntax, notation, axiom, sorry.
-/
import Derived.Test.YtfddpdognelhmaaGreatDoorRows
import GoSem.ClaimSeven
namespace Go.Proofs.YtfddpdognelhmaaGreatDoor
namespace Rows

/-- THE TIED CARD OF 'baggagelaw07.LayoutValidates'. -/
def layoutValidatesCard : Claim7 := { stood := { row := layoutValidatesRow, standIns := [], harness := (true, "fcdbbe6542a9198e62fe31081ebec8835e9c196dda87b69c13dac62dbc79ca0a"), looks := false }, kinds := [], alts := [], laidByText := true, laidKinds := [.data, .data, .data, .data, .data, .data, .data, .pinned], laidTests := true, laidLooks := .later }
def LayoutValidatesCardSaid : Prop := Claim7.holds Tryz.pinned (.plain (OpenSpec.ofChange layoutValidatesSpec)) layoutValidatesCard

/-- THE SECOND FORM's CARD OF 'baggagelaw07.LayoutValidates'. -/
def layoutValidatesUptoCard : Claim7 := { stood := { row := layoutValidatesUptoRow, standIns := [], harness := (true, "fcdbbe6542a9198e62fe31081ebec8835e9c196dda87b69c13dac62dbc79ca0a"), looks := false }, kinds := [], alts := [], laidByText := true, laidKinds := [.data, .data, .data, .data, .data, .data, .data, .pinned], laidTests := true, laidLooks := .later }
def LayoutValidatesUptoCardSaid : Prop := Claim7.holds Tryz.pinned (.plain (OpenSpec.upto layoutValidatesSpec)) layoutValidatesUptoCard
end Rows
end Go.Proofs.YtfddpdognelhmaaGreatDoor
