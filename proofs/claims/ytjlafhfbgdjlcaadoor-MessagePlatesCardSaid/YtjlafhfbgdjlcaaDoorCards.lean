/-
  DERIVED. GIVEN WITH THE SEED: THE CARDS: each row of YtjlafhfbgdjlcaaDoorRows.lean that lists a variable, with what it lists TIED to the program's text (the seventh form; the later family's looks); each row that meets fmt, with fmt's text TOLD by the authors' own Lean function (tested against real Go, not proved from fmt's source: count such statements apart). THE CARD IS WHAT COUNTS. Prove the row's statement (the work); the ties are given (YtjlafhfbgdjlcaaDoorTie.lean); close each card by the builder's one call (the guide's Derived/Test/ToyasCard.lean, 'card_holds'). Laid BY PROGRAM, IN A SANDBOX (cutbox-door.mjs). By AI agents, Wed Nov 11 2026. No macro, syntax, notation, axiom, sorry.
-/
import Derived.Test.YtjlafhfbgdjlcaaDoorRows
import GoSem.ClaimSeven
namespace Go.Proofs.YtjlafhfbgdjlcaaDoor
namespace Rows

/-- THE TIED CARD OF 'baggagelaw04.MessageBoarding'. -/
def messageBoardingCard : Claim7 := { stood := { row := messageBoardingRow, standIns := [], harness := (true, "3309e7c8eb1b316989b36fbed9cea4b5afe5b4810728b42769237305d55d5fae"), looks := false }, kinds := [], alts := [], laidByText := true, laidKinds := [.data, .data, .data, .data, .data], laidTests := true, laidLooks := .later }
def MessageBoardingCardSaid : Prop := Claim7.holds Tryd.pinned (.plain (OpenSpec.ofChange messageBoardingSpec)) messageBoardingCard

/-- THE TIED CARD OF 'baggagelaw04.MessagePlates'. -/
def messagePlatesCard : Claim7 := { stood := { row := messagePlatesRow, standIns := [], harness := (true, "3309e7c8eb1b316989b36fbed9cea4b5afe5b4810728b42769237305d55d5fae"), looks := false }, kinds := [], alts := [], laidByText := true, laidKinds := [.data, .data, .data, .data, .data], laidTests := true, laidLooks := .later }
def MessagePlatesCardSaid : Prop := Claim7.holds Tryd.pinned (.plain (OpenSpec.ofChange messagePlatesSpec)) messagePlatesCard

/-- THE TIED CARD OF 'baggagelaw05.InboxOrder'. -/
def inboxOrderCard : Claim7 := { stood := { row := inboxOrderRow, standIns := [], harness := (true, "3309e7c8eb1b316989b36fbed9cea4b5afe5b4810728b42769237305d55d5fae"), looks := false }, kinds := [], alts := [], laidByText := true, laidKinds := [.data], laidTests := true, laidLooks := .later }
def InboxOrderCardSaid : Prop := Claim7.holds Tryd.pinned (.plain (OpenSpec.ofChange inboxOrderSpec)) inboxOrderCard

/-- THE TIED CARD OF 'baggagelaw05.InboxSenders'. -/
def inboxSendersCard : Claim7 := { stood := { row := inboxSendersRow, standIns := [], harness := (true, "3309e7c8eb1b316989b36fbed9cea4b5afe5b4810728b42769237305d55d5fae"), looks := false }, kinds := [], alts := [], laidByText := true, laidKinds := [.data], laidTests := true, laidLooks := .later }
def InboxSendersCardSaid : Prop := Claim7.holds Tryd.pinned (.plain (OpenSpec.ofChange inboxSendersSpec)) inboxSendersCard

/-- THE TIED CARD OF 'baggagelaw05.InboxGaps'. -/
def inboxGapsCard : Claim7 := { stood := { row := inboxGapsRow, standIns := [], harness := (true, "3309e7c8eb1b316989b36fbed9cea4b5afe5b4810728b42769237305d55d5fae"), looks := false }, kinds := [], alts := [], laidByText := true, laidKinds := [.data], laidTests := true, laidLooks := .later }
def InboxGapsCardSaid : Prop := Claim7.holds Tryd.pinned (.plain (OpenSpec.ofChange inboxGapsSpec)) inboxGapsCard

/-- THE TIED CARD OF 'baggagelaw05.InboxConflicts'. -/
def inboxConflictsCard : Claim7 := { stood := { row := inboxConflictsRow, standIns := [], harness := (true, "3309e7c8eb1b316989b36fbed9cea4b5afe5b4810728b42769237305d55d5fae"), looks := false }, kinds := [], alts := [], laidByText := true, laidKinds := [.data], laidTests := true, laidLooks := .later }
def InboxConflictsCardSaid : Prop := Claim7.holds Tryd.pinned (.plain (OpenSpec.ofChange inboxConflictsSpec)) inboxConflictsCard

/-- THE SECOND FORM's CARD OF 'baggagelaw04.MessageBoarding'. -/
def messageBoardingUptoCard : Claim7 := { stood := { row := messageBoardingUptoRow, standIns := [], harness := (true, "3309e7c8eb1b316989b36fbed9cea4b5afe5b4810728b42769237305d55d5fae"), looks := false }, kinds := [], alts := [], laidByText := true, laidKinds := [.data, .data, .data, .data, .data], laidTests := true, laidLooks := .later }
def MessageBoardingUptoCardSaid : Prop := Claim7.holds Tryd.pinned (.plain (OpenSpec.upto messageBoardingSpec)) messageBoardingUptoCard

/-- THE SECOND FORM's CARD OF 'baggagelaw04.MessagePlates'. -/
def messagePlatesUptoCard : Claim7 := { stood := { row := messagePlatesUptoRow, standIns := [], harness := (true, "3309e7c8eb1b316989b36fbed9cea4b5afe5b4810728b42769237305d55d5fae"), looks := false }, kinds := [], alts := [], laidByText := true, laidKinds := [.data, .data, .data, .data, .data], laidTests := true, laidLooks := .later }
def MessagePlatesUptoCardSaid : Prop := Claim7.holds Tryd.pinned (.plain (OpenSpec.upto messagePlatesSpec)) messagePlatesUptoCard

/-- THE SECOND FORM's CARD OF 'baggagelaw05.InboxOrder'. -/
def inboxOrderUptoCard : Claim7 := { stood := { row := inboxOrderUptoRow, standIns := [], harness := (true, "3309e7c8eb1b316989b36fbed9cea4b5afe5b4810728b42769237305d55d5fae"), looks := false }, kinds := [], alts := [], laidByText := true, laidKinds := [.data], laidTests := true, laidLooks := .later }
def InboxOrderUptoCardSaid : Prop := Claim7.holds Tryd.pinned (.plain (OpenSpec.upto inboxOrderSpec)) inboxOrderUptoCard

/-- THE SECOND FORM's CARD OF 'baggagelaw05.InboxSenders'. -/
def inboxSendersUptoCard : Claim7 := { stood := { row := inboxSendersUptoRow, standIns := [], harness := (true, "3309e7c8eb1b316989b36fbed9cea4b5afe5b4810728b42769237305d55d5fae"), looks := false }, kinds := [], alts := [], laidByText := true, laidKinds := [.data], laidTests := true, laidLooks := .later }
def InboxSendersUptoCardSaid : Prop := Claim7.holds Tryd.pinned (.plain (OpenSpec.upto inboxSendersSpec)) inboxSendersUptoCard

/-- THE SECOND FORM's CARD OF 'baggagelaw05.InboxGaps'. -/
def inboxGapsUptoCard : Claim7 := { stood := { row := inboxGapsUptoRow, standIns := [], harness := (true, "3309e7c8eb1b316989b36fbed9cea4b5afe5b4810728b42769237305d55d5fae"), looks := false }, kinds := [], alts := [], laidByText := true, laidKinds := [.data], laidTests := true, laidLooks := .later }
def InboxGapsUptoCardSaid : Prop := Claim7.holds Tryd.pinned (.plain (OpenSpec.upto inboxGapsSpec)) inboxGapsUptoCard

/-- THE SECOND FORM's CARD OF 'baggagelaw05.InboxConflicts'. -/
def inboxConflictsUptoCard : Claim7 := { stood := { row := inboxConflictsUptoRow, standIns := [], harness := (true, "3309e7c8eb1b316989b36fbed9cea4b5afe5b4810728b42769237305d55d5fae"), looks := false }, kinds := [], alts := [], laidByText := true, laidKinds := [.data], laidTests := true, laidLooks := .later }
def InboxConflictsUptoCardSaid : Prop := Claim7.holds Tryd.pinned (.plain (OpenSpec.upto inboxConflictsSpec)) inboxConflictsUptoCard
end Rows
end Go.Proofs.YtjlafhfbgdjlcaaDoor
