/-
  DERIVED. GIVEN WITH THE SEED: THE CARDS: each row of YtmonjjffbmccjaaGreatDoorRows.lean that lists a variable, with what it lists TIED to the program's text (the seventh form; the later family's looks); each row that meets fmt, with fmt's text TOLD by the authors' own Lean function (tested against real Go, not proved from fmt's source: count such statements apart). THE CARD IS WHAT COUNTS. Prove the row's statement (the work); the ties are given (YtmonjjffbmccjaaGreatDoorTie.lean); close each card by the builder's one call (the guide's Derived/Test/ToyasCard.lean, 'card_holds'). Laid BY PROGRAM, IN A SANDBOX (cutbox-door.mjs). By AI agents, Wed Nov 11 2026. No macro, syntax, notation, axiom, sorry.
-/
import Derived.Test.YtmonjjffbmccjaaGreatDoorRows
import GoSem.ClaimSeven
namespace Go.Proofs.YtmonjjffbmccjaaGreatDoor
namespace Rows

/-- THE TIED CARD OF 'baggagelaw07.LayoutValidates'. -/
def layoutValidatesCard : Claim7 := { stood := { row := layoutValidatesRow, standIns := [], harness := (true, "ec86e65c4728c1b67563a9c68e939d1ea9f4999c778eb05fa190b0e7abe2e01f"), looks := false }, kinds := [], alts := [], laidByText := true, laidKinds := [.data, .data, .data, .data, .data, .data, .data, .pinned], laidTests := true, laidLooks := .later }
def LayoutValidatesCardSaid : Prop := Claim7.holds Tryz.pinned (.plain (OpenSpec.ofChange layoutValidatesSpec)) layoutValidatesCard

/-- THE TIED CARD OF 'baggagelaw07.LayoutParses'. -/
def layoutParsesCard : Claim7 := { stood := { row := layoutParsesRow, standIns := [], harness := (true, "ec86e65c4728c1b67563a9c68e939d1ea9f4999c778eb05fa190b0e7abe2e01f"), looks := false }, kinds := [], alts := [], laidByText := true, laidKinds := [.data, .data, .data, .data, .data, .data, .data, .pinned], laidTests := true, laidLooks := .later }
def LayoutParsesCardSaid : Prop := Claim7.holds Tryz.pinned (.plain (OpenSpec.ofChange layoutParsesSpec)) layoutParsesCard

/-- THE TIED CARD OF 'baggagelaw07.LayoutBack'. -/
def layoutBackCard : Claim7 := { stood := { row := layoutBackRow, standIns := [], harness := (true, "ec86e65c4728c1b67563a9c68e939d1ea9f4999c778eb05fa190b0e7abe2e01f"), looks := false }, kinds := [], alts := [], laidByText := true, laidKinds := [.data, .data, .data, .data, .data, .data, .pinned], laidTests := true, laidLooks := .later }
def LayoutBackCardSaid : Prop := Claim7.holds Tryz.pinned (.plain (OpenSpec.ofChange layoutBackSpec)) layoutBackCard

/-- THE TIED CARD OF 'baggagelaw07.LayoutOrder'. -/
def layoutOrderCard : Claim7 := { stood := { row := layoutOrderRow, standIns := [], harness := (true, "ec86e65c4728c1b67563a9c68e939d1ea9f4999c778eb05fa190b0e7abe2e01f"), looks := false }, kinds := [], alts := [], laidByText := true, laidKinds := [.data, .data, .data, .data, .data, .data, .pinned], laidTests := true, laidLooks := .later }
def LayoutOrderCardSaid : Prop := Claim7.holds Tryz.pinned (.plain (OpenSpec.ofChange layoutOrderSpec)) layoutOrderCard

/-- THE TIED CARD OF 'baggagelaw07.LayoutZones'. -/
def layoutZonesCard : Claim7 := { stood := { row := layoutZonesRow, standIns := [], harness := (true, "ec86e65c4728c1b67563a9c68e939d1ea9f4999c778eb05fa190b0e7abe2e01f"), looks := false }, kinds := [], alts := [], laidByText := true, laidKinds := [.data, .data, .data, .data, .data, .data, .pinned], laidTests := true, laidLooks := .later }
def LayoutZonesCardSaid : Prop := Claim7.holds Tryz.pinned (.plain (OpenSpec.ofChange layoutZonesSpec)) layoutZonesCard

/-- THE TIED CARD OF 'baggagelaw07.LayoutSame'. -/
def layoutSameCard : Claim7 := { stood := { row := layoutSameRow, standIns := [], harness := (true, "ec86e65c4728c1b67563a9c68e939d1ea9f4999c778eb05fa190b0e7abe2e01f"), looks := false }, kinds := [], alts := [], laidByText := true, laidKinds := [.data, .data, .data, .data, .data, .data, .pinned], laidTests := true, laidLooks := .later }
def LayoutSameCardSaid : Prop := Claim7.holds Tryz.pinned (.plain (OpenSpec.ofChange layoutSameSpec)) layoutSameCard

/-- THE SECOND FORM's CARD OF 'baggagelaw07.LayoutValidates'. -/
def layoutValidatesUptoCard : Claim7 := { stood := { row := layoutValidatesUptoRow, standIns := [], harness := (true, "ec86e65c4728c1b67563a9c68e939d1ea9f4999c778eb05fa190b0e7abe2e01f"), looks := false }, kinds := [], alts := [], laidByText := true, laidKinds := [.data, .data, .data, .data, .data, .data, .data, .pinned], laidTests := true, laidLooks := .later }
def LayoutValidatesUptoCardSaid : Prop := Claim7.holds Tryz.pinned (.plain (OpenSpec.upto layoutValidatesSpec)) layoutValidatesUptoCard

/-- THE SECOND FORM's CARD OF 'baggagelaw07.LayoutParses'. -/
def layoutParsesUptoCard : Claim7 := { stood := { row := layoutParsesUptoRow, standIns := [], harness := (true, "ec86e65c4728c1b67563a9c68e939d1ea9f4999c778eb05fa190b0e7abe2e01f"), looks := false }, kinds := [], alts := [], laidByText := true, laidKinds := [.data, .data, .data, .data, .data, .data, .data, .pinned], laidTests := true, laidLooks := .later }
def LayoutParsesUptoCardSaid : Prop := Claim7.holds Tryz.pinned (.plain (OpenSpec.upto layoutParsesSpec)) layoutParsesUptoCard

/-- THE SECOND FORM's CARD OF 'baggagelaw07.LayoutBack'. -/
def layoutBackUptoCard : Claim7 := { stood := { row := layoutBackUptoRow, standIns := [], harness := (true, "ec86e65c4728c1b67563a9c68e939d1ea9f4999c778eb05fa190b0e7abe2e01f"), looks := false }, kinds := [], alts := [], laidByText := true, laidKinds := [.data, .data, .data, .data, .data, .data, .pinned], laidTests := true, laidLooks := .later }
def LayoutBackUptoCardSaid : Prop := Claim7.holds Tryz.pinned (.plain (OpenSpec.upto layoutBackSpec)) layoutBackUptoCard

/-- THE SECOND FORM's CARD OF 'baggagelaw07.LayoutOrder'. -/
def layoutOrderUptoCard : Claim7 := { stood := { row := layoutOrderUptoRow, standIns := [], harness := (true, "ec86e65c4728c1b67563a9c68e939d1ea9f4999c778eb05fa190b0e7abe2e01f"), looks := false }, kinds := [], alts := [], laidByText := true, laidKinds := [.data, .data, .data, .data, .data, .data, .pinned], laidTests := true, laidLooks := .later }
def LayoutOrderUptoCardSaid : Prop := Claim7.holds Tryz.pinned (.plain (OpenSpec.upto layoutOrderSpec)) layoutOrderUptoCard

/-- THE SECOND FORM's CARD OF 'baggagelaw07.LayoutZones'. -/
def layoutZonesUptoCard : Claim7 := { stood := { row := layoutZonesUptoRow, standIns := [], harness := (true, "ec86e65c4728c1b67563a9c68e939d1ea9f4999c778eb05fa190b0e7abe2e01f"), looks := false }, kinds := [], alts := [], laidByText := true, laidKinds := [.data, .data, .data, .data, .data, .data, .pinned], laidTests := true, laidLooks := .later }
def LayoutZonesUptoCardSaid : Prop := Claim7.holds Tryz.pinned (.plain (OpenSpec.upto layoutZonesSpec)) layoutZonesUptoCard

/-- THE SECOND FORM's CARD OF 'baggagelaw07.LayoutSame'. -/
def layoutSameUptoCard : Claim7 := { stood := { row := layoutSameUptoRow, standIns := [], harness := (true, "ec86e65c4728c1b67563a9c68e939d1ea9f4999c778eb05fa190b0e7abe2e01f"), looks := false }, kinds := [], alts := [], laidByText := true, laidKinds := [.data, .data, .data, .data, .data, .data, .pinned], laidTests := true, laidLooks := .later }
def LayoutSameUptoCardSaid : Prop := Claim7.holds Tryz.pinned (.plain (OpenSpec.upto layoutSameSpec)) layoutSameUptoCard
end Rows
end Go.Proofs.YtmonjjffbmccjaaGreatDoor
