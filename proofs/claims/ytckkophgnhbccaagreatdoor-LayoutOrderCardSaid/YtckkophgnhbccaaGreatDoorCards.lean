/-
  DERIVED. GIVEN WITH THE SEED: THE CARDS: each row of YtckkophgnhbccaaGreatDoorRows.lean that lists a variable, with what it lists TIED to the program's text (the seventh form; the later family's looks); each row that meets fmt, with fmt's text TOLD by the authors' own Lean function (tested against real Go, not proved from fmt's source: count such statements apart). THE CARD IS WHAT COUNTS. Prove the row's statement (the work); the ties are given (YtckkophgnhbccaaGreatDoorTie.lean); close each card by the builder's one call (the guide's Derived/Test/ToyasCard.lean, 'card_holds'). Laid BY PROGRAM, IN A SANDBOX (cutbox-door.mjs). By AI agents, Wed Nov 11 2026. No macro, syntax, notation, axiom, sorry.
-/
import Derived.Test.YtckkophgnhbccaaGreatDoorRows
import GoSem.ClaimSeven
namespace Go.Proofs.YtckkophgnhbccaaGreatDoor
namespace Rows

/-- THE TIED CARD OF 'baggagelaw07.LayoutBack'. -/
def layoutBackCard : Claim7 := { stood := { row := layoutBackRow, standIns := [], harness := (true, "efb3b7cd794fa863b64bae359f2a20adb8b07c8fc7794a85ec701150dcaaf8b3"), looks := false }, kinds := [], alts := [], laidByText := true, laidKinds := [.data, .data, .data, .data, .data, .data, .pinned], laidTests := true, laidLooks := .later }
def LayoutBackCardSaid : Prop := Claim7.holds Tryz.pinned (.plain (OpenSpec.ofChange layoutBackSpec)) layoutBackCard

/-- THE TIED CARD OF 'baggagelaw07.LayoutOrder'. -/
def layoutOrderCard : Claim7 := { stood := { row := layoutOrderRow, standIns := [], harness := (true, "efb3b7cd794fa863b64bae359f2a20adb8b07c8fc7794a85ec701150dcaaf8b3"), looks := false }, kinds := [], alts := [], laidByText := true, laidKinds := [.data, .data, .data, .data, .data, .data, .pinned], laidTests := true, laidLooks := .later }
def LayoutOrderCardSaid : Prop := Claim7.holds Tryz.pinned (.plain (OpenSpec.ofChange layoutOrderSpec)) layoutOrderCard

/-- THE TIED CARD OF 'baggagelaw07.LayoutZones'. -/
def layoutZonesCard : Claim7 := { stood := { row := layoutZonesRow, standIns := [], harness := (true, "efb3b7cd794fa863b64bae359f2a20adb8b07c8fc7794a85ec701150dcaaf8b3"), looks := false }, kinds := [], alts := [], laidByText := true, laidKinds := [.data, .data, .data, .data, .data, .data, .pinned], laidTests := true, laidLooks := .later }
def LayoutZonesCardSaid : Prop := Claim7.holds Tryz.pinned (.plain (OpenSpec.ofChange layoutZonesSpec)) layoutZonesCard

/-- THE TIED CARD OF 'baggagelaw07.LayoutSame'. -/
def layoutSameCard : Claim7 := { stood := { row := layoutSameRow, standIns := [], harness := (true, "efb3b7cd794fa863b64bae359f2a20adb8b07c8fc7794a85ec701150dcaaf8b3"), looks := false }, kinds := [], alts := [], laidByText := true, laidKinds := [.data, .data, .data, .data, .data, .data, .pinned], laidTests := true, laidLooks := .later }
def LayoutSameCardSaid : Prop := Claim7.holds Tryz.pinned (.plain (OpenSpec.ofChange layoutSameSpec)) layoutSameCard

/-- THE SECOND FORM's CARD OF 'baggagelaw07.LayoutBack'. -/
def layoutBackUptoCard : Claim7 := { stood := { row := layoutBackUptoRow, standIns := [], harness := (true, "efb3b7cd794fa863b64bae359f2a20adb8b07c8fc7794a85ec701150dcaaf8b3"), looks := false }, kinds := [], alts := [], laidByText := true, laidKinds := [.data, .data, .data, .data, .data, .data, .pinned], laidTests := true, laidLooks := .later }
def LayoutBackUptoCardSaid : Prop := Claim7.holds Tryz.pinned (.plain (OpenSpec.upto layoutBackSpec)) layoutBackUptoCard

/-- THE SECOND FORM's CARD OF 'baggagelaw07.LayoutOrder'. -/
def layoutOrderUptoCard : Claim7 := { stood := { row := layoutOrderUptoRow, standIns := [], harness := (true, "efb3b7cd794fa863b64bae359f2a20adb8b07c8fc7794a85ec701150dcaaf8b3"), looks := false }, kinds := [], alts := [], laidByText := true, laidKinds := [.data, .data, .data, .data, .data, .data, .pinned], laidTests := true, laidLooks := .later }
def LayoutOrderUptoCardSaid : Prop := Claim7.holds Tryz.pinned (.plain (OpenSpec.upto layoutOrderSpec)) layoutOrderUptoCard

/-- THE SECOND FORM's CARD OF 'baggagelaw07.LayoutZones'. -/
def layoutZonesUptoCard : Claim7 := { stood := { row := layoutZonesUptoRow, standIns := [], harness := (true, "efb3b7cd794fa863b64bae359f2a20adb8b07c8fc7794a85ec701150dcaaf8b3"), looks := false }, kinds := [], alts := [], laidByText := true, laidKinds := [.data, .data, .data, .data, .data, .data, .pinned], laidTests := true, laidLooks := .later }
def LayoutZonesUptoCardSaid : Prop := Claim7.holds Tryz.pinned (.plain (OpenSpec.upto layoutZonesSpec)) layoutZonesUptoCard

/-- THE SECOND FORM's CARD OF 'baggagelaw07.LayoutSame'. -/
def layoutSameUptoCard : Claim7 := { stood := { row := layoutSameUptoRow, standIns := [], harness := (true, "efb3b7cd794fa863b64bae359f2a20adb8b07c8fc7794a85ec701150dcaaf8b3"), looks := false }, kinds := [], alts := [], laidByText := true, laidKinds := [.data, .data, .data, .data, .data, .data, .pinned], laidTests := true, laidLooks := .later }
def LayoutSameUptoCardSaid : Prop := Claim7.holds Tryz.pinned (.plain (OpenSpec.upto layoutSameSpec)) layoutSameUptoCard
end Rows
end Go.Proofs.YtckkophgnhbccaaGreatDoor
