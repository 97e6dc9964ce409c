/-
  DERIVED. GIVEN WITH THE SEED: THE CARDS: each row of YtcjdjdganaokfaaDoorRows.lean that lists a variable, with what it lists TIED to the program's text (the seventh form; the later family's looks); each row that meets fmt, with fmt's text TOLD by the authors' own Lean function (tested against real Go, not proved from fmt's source: count such statements apart). THE CARD IS WHAT COUNTS. Prove the row's statement (the work); the ties are given (YtcjdjdganaokfaaDoorTie.lean); close each card by the builder's one call (the guide's Derived/Test/ToyasCard.lean, 'card_holds'). Laid BY PROGRAM, IN A SANDBOX (cutbox-door.mjs). By AI agents, Wed Nov 11 2026. No macro, syntax, notation, axiom, sorry.
-/
import Derived.Test.YtcjdjdganaokfaaDoorRows
import GoSem.ClaimSeven
namespace Go.Proofs.YtcjdjdganaokfaaDoor
namespace Rows

/-- THE TIED CARD OF 'baggagelaw04.MessageBoarding'. -/
def messageBoardingCard : Claim7 := { stood := { row := messageBoardingRow, standIns := [], harness := (true, "a0e5d0835aed0c11b267488a3a1e2d1c24a3f5c190056108d46e8f91f5a46dd0"), looks := false }, kinds := [], alts := [], laidByText := true, laidKinds := [.data, .data, .data, .data, .data], laidTests := true, laidLooks := .later }
def MessageBoardingCardSaid : Prop := Claim7.holds Tryd.pinned (.plain (OpenSpec.ofChange messageBoardingSpec)) messageBoardingCard

/-- THE TIED CARD OF 'baggagelaw05.InboxOrder'. -/
def inboxOrderCard : Claim7 := { stood := { row := inboxOrderRow, standIns := [], harness := (true, "a0e5d0835aed0c11b267488a3a1e2d1c24a3f5c190056108d46e8f91f5a46dd0"), looks := false }, kinds := [], alts := [], laidByText := true, laidKinds := [.data], laidTests := true, laidLooks := .later }
def InboxOrderCardSaid : Prop := Claim7.holds Tryd.pinned (.plain (OpenSpec.ofChange inboxOrderSpec)) inboxOrderCard

/-- THE TIED CARD OF 'baggagelaw05.InboxSenders'. -/
def inboxSendersCard : Claim7 := { stood := { row := inboxSendersRow, standIns := [], harness := (true, "a0e5d0835aed0c11b267488a3a1e2d1c24a3f5c190056108d46e8f91f5a46dd0"), looks := false }, kinds := [], alts := [], laidByText := true, laidKinds := [.data], laidTests := true, laidLooks := .later }
def InboxSendersCardSaid : Prop := Claim7.holds Tryd.pinned (.plain (OpenSpec.ofChange inboxSendersSpec)) inboxSendersCard

/-- THE TIED CARD OF 'baggagelaw05.InboxGaps'. -/
def inboxGapsCard : Claim7 := { stood := { row := inboxGapsRow, standIns := [], harness := (true, "a0e5d0835aed0c11b267488a3a1e2d1c24a3f5c190056108d46e8f91f5a46dd0"), looks := false }, kinds := [], alts := [], laidByText := true, laidKinds := [.data], laidTests := true, laidLooks := .later }
def InboxGapsCardSaid : Prop := Claim7.holds Tryd.pinned (.plain (OpenSpec.ofChange inboxGapsSpec)) inboxGapsCard

/-- THE TIED CARD OF 'baggagelaw05.InboxConflicts'. -/
def inboxConflictsCard : Claim7 := { stood := { row := inboxConflictsRow, standIns := [], harness := (true, "a0e5d0835aed0c11b267488a3a1e2d1c24a3f5c190056108d46e8f91f5a46dd0"), looks := false }, kinds := [], alts := [], laidByText := true, laidKinds := [.data], laidTests := true, laidLooks := .later }
def InboxConflictsCardSaid : Prop := Claim7.holds Tryd.pinned (.plain (OpenSpec.ofChange inboxConflictsSpec)) inboxConflictsCard

/-- THE TIED CARD OF 'baggagelaw06.RegistryLimit'. -/
def registryLimitCard : Claim7 := { stood := { row := registryLimitRow, standIns := [], harness := (true, "a0e5d0835aed0c11b267488a3a1e2d1c24a3f5c190056108d46e8f91f5a46dd0"), looks := false }, kinds := [], alts := [], laidByText := true, laidKinds := [.data], laidTests := true, laidLooks := .later }
def RegistryLimitCardSaid : Prop := Claim7.holds Tryd.pinned (.plain (OpenSpec.ofChange registryLimitSpec)) registryLimitCard

/-- THE SECOND FORM's CARD OF 'baggagelaw04.MessageBoarding'. -/
def messageBoardingUptoCard : Claim7 := { stood := { row := messageBoardingUptoRow, standIns := [], harness := (true, "a0e5d0835aed0c11b267488a3a1e2d1c24a3f5c190056108d46e8f91f5a46dd0"), looks := false }, kinds := [], alts := [], laidByText := true, laidKinds := [.data, .data, .data, .data, .data], laidTests := true, laidLooks := .later }
def MessageBoardingUptoCardSaid : Prop := Claim7.holds Tryd.pinned (.plain (OpenSpec.upto messageBoardingSpec)) messageBoardingUptoCard

/-- THE SECOND FORM's CARD OF 'baggagelaw05.InboxOrder'. -/
def inboxOrderUptoCard : Claim7 := { stood := { row := inboxOrderUptoRow, standIns := [], harness := (true, "a0e5d0835aed0c11b267488a3a1e2d1c24a3f5c190056108d46e8f91f5a46dd0"), looks := false }, kinds := [], alts := [], laidByText := true, laidKinds := [.data], laidTests := true, laidLooks := .later }
def InboxOrderUptoCardSaid : Prop := Claim7.holds Tryd.pinned (.plain (OpenSpec.upto inboxOrderSpec)) inboxOrderUptoCard

/-- THE SECOND FORM's CARD OF 'baggagelaw05.InboxSenders'. -/
def inboxSendersUptoCard : Claim7 := { stood := { row := inboxSendersUptoRow, standIns := [], harness := (true, "a0e5d0835aed0c11b267488a3a1e2d1c24a3f5c190056108d46e8f91f5a46dd0"), looks := false }, kinds := [], alts := [], laidByText := true, laidKinds := [.data], laidTests := true, laidLooks := .later }
def InboxSendersUptoCardSaid : Prop := Claim7.holds Tryd.pinned (.plain (OpenSpec.upto inboxSendersSpec)) inboxSendersUptoCard

/-- THE SECOND FORM's CARD OF 'baggagelaw05.InboxGaps'. -/
def inboxGapsUptoCard : Claim7 := { stood := { row := inboxGapsUptoRow, standIns := [], harness := (true, "a0e5d0835aed0c11b267488a3a1e2d1c24a3f5c190056108d46e8f91f5a46dd0"), looks := false }, kinds := [], alts := [], laidByText := true, laidKinds := [.data], laidTests := true, laidLooks := .later }
def InboxGapsUptoCardSaid : Prop := Claim7.holds Tryd.pinned (.plain (OpenSpec.upto inboxGapsSpec)) inboxGapsUptoCard

/-- THE SECOND FORM's CARD OF 'baggagelaw05.InboxConflicts'. -/
def inboxConflictsUptoCard : Claim7 := { stood := { row := inboxConflictsUptoRow, standIns := [], harness := (true, "a0e5d0835aed0c11b267488a3a1e2d1c24a3f5c190056108d46e8f91f5a46dd0"), looks := false }, kinds := [], alts := [], laidByText := true, laidKinds := [.data], laidTests := true, laidLooks := .later }
def InboxConflictsUptoCardSaid : Prop := Claim7.holds Tryd.pinned (.plain (OpenSpec.upto inboxConflictsSpec)) inboxConflictsUptoCard

/-- THE SECOND FORM's CARD OF 'baggagelaw06.RegistryLimit'. -/
def registryLimitUptoCard : Claim7 := { stood := { row := registryLimitUptoRow, standIns := [], harness := (true, "a0e5d0835aed0c11b267488a3a1e2d1c24a3f5c190056108d46e8f91f5a46dd0"), looks := false }, kinds := [], alts := [], laidByText := true, laidKinds := [.data], laidTests := true, laidLooks := .later }
def RegistryLimitUptoCardSaid : Prop := Claim7.holds Tryd.pinned (.plain (OpenSpec.upto registryLimitSpec)) registryLimitUptoCard
end Rows
end Go.Proofs.YtcjdjdganaokfaaDoor
