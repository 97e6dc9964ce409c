/-
  NARROWER THAN 'FOR EVERY INPUT', by the rows' own cells (each row's printed sentence says how): MessageBoarding: laid · InboxOrder: laid · InboxSenders: laid · InboxGaps: laid · InboxConflicts: laid · RegistryLimit: laid.
  DERIVED. THE GIVEN ROWS OF THIS SEAT. 6 by the template 'for every input the law returns true; each argument reads behind the call as it read before'; 0 by the template 'total and deterministic' (their statements: YtcjdjdganaokfaaDoorTotals.lean).
  GIVEN WITH THE SEED: the statements are not yours to turn. If you find one false, say at which input.
  Laid BY PROGRAM, IN A SANDBOX (cutbox-rows.mjs): the forced cells as the released guide's own fill.sh prints them over the translation fc79905f9e173af2… (all of the seat's roots in one cut). By AI agents, Wed Nov 11 2026. No macro, syntax, notation, axiom, sorry.
-/
import Derived.Test.YtcjdjdganaokfaaDoorChecked
import GoSem.Claim
import GoSem.ClaimJoined
import GoSem.ClaimMapViews
import Derived.JoinedTies
import Derived.KernelRfl
namespace Go.Proofs.YtcjdjdganaokfaaDoor
/- THE CELL 'sum', in the pinned program and in every row, IS THE sha256 OF THE DUMP (.gsa) THAT YtcjdjdganaokfaaDoorProg.lean LOADS. Nothing in Lean hashes anything: it is a label: what it is worth is what the hold of that sum in a sandbox is worth. -/
noncomputable def Tryd.pinned : Pinned := { name := "ytcjdjdganaokfaadoor", sum := "fc79905f9e173af274f552d0cbb21c51a9b0f9bbeb0c38bd6a3809f2919f8315", checked := Tryd.checked }
namespace Rows
def none {H : Type} : Left H := { results := [], args := [] }

/- WHAT THE LISTED PACKAGE-LEVEL VARIABLES READ AS WHEN THE CALL BEGINS. Each datum BY PROGRAM (the guide's laid-datum.mjs) off the statement by which the dump's own 'gosem.cut.vars' lays the variable. In a bare row this is a premise. The card (YtcjdjdganaokfaaDoorCards.lean) ties it to the program's text. -/
def laid_math_bits_deBruijn32tab {H : Type} : DataW H := .agg [.lit (.int .u8 0), .lit (.int .u8 1), .lit (.int .u8 28), .lit (.int .u8 2), .lit (.int .u8 29), .lit (.int .u8 14), .lit (.int .u8 24), .lit (.int .u8 3), .lit (.int .u8 30), .lit (.int .u8 22), .lit (.int .u8 20), .lit (.int .u8 15), .lit (.int .u8 25), .lit (.int .u8 17), .lit (.int .u8 4), .lit (.int .u8 8), .lit (.int .u8 31), .lit (.int .u8 27), .lit (.int .u8 13), .lit (.int .u8 23), .lit (.int .u8 21), .lit (.int .u8 19), .lit (.int .u8 16), .lit (.int .u8 7), .lit (.int .u8 26), .lit (.int .u8 12), .lit (.int .u8 18), .lit (.int .u8 6), .lit (.int .u8 11), .lit (.int .u8 5), .lit (.int .u8 10), .lit (.int .u8 9)]
def laid_math_bits_deBruijn64tab {H : Type} : DataW H := .agg [.lit (.int .u8 0), .lit (.int .u8 1), .lit (.int .u8 56), .lit (.int .u8 2), .lit (.int .u8 57), .lit (.int .u8 49), .lit (.int .u8 28), .lit (.int .u8 3), .lit (.int .u8 61), .lit (.int .u8 58), .lit (.int .u8 42), .lit (.int .u8 50), .lit (.int .u8 38), .lit (.int .u8 29), .lit (.int .u8 17), .lit (.int .u8 4), .lit (.int .u8 62), .lit (.int .u8 47), .lit (.int .u8 59), .lit (.int .u8 36), .lit (.int .u8 45), .lit (.int .u8 43), .lit (.int .u8 51), .lit (.int .u8 22), .lit (.int .u8 53), .lit (.int .u8 39), .lit (.int .u8 33), .lit (.int .u8 30), .lit (.int .u8 24), .lit (.int .u8 18), .lit (.int .u8 12), .lit (.int .u8 5), .lit (.int .u8 63), .lit (.int .u8 55), .lit (.int .u8 48), .lit (.int .u8 27), .lit (.int .u8 60), .lit (.int .u8 41), .lit (.int .u8 37), .lit (.int .u8 16), .lit (.int .u8 46), .lit (.int .u8 35), .lit (.int .u8 44), .lit (.int .u8 21), .lit (.int .u8 52), .lit (.int .u8 32), .lit (.int .u8 23), .lit (.int .u8 11), .lit (.int .u8 54), .lit (.int .u8 26), .lit (.int .u8 40), .lit (.int .u8 15), .lit (.int .u8 34), .lit (.int .u8 20), .lit (.int .u8 31), .lit (.int .u8 10), .lit (.int .u8 25), .lit (.int .u8 14), .lit (.int .u8 19), .lit (.int .u8 9), .lit (.int .u8 13), .lit (.int .u8 8), .lit (.int .u8 7), .lit (.int .u8 6)]
def laid_internal_strconv_uint64pow10 {H : Type} : DataW H := .agg [.lit (.int .u64 1), .lit (.int .u64 10), .lit (.int .u64 100), .lit (.int .u64 1000), .lit (.int .u64 10000), .lit (.int .u64 100000), .lit (.int .u64 1000000), .lit (.int .u64 10000000), .lit (.int .u64 100000000), .lit (.int .u64 1000000000), .lit (.int .u64 10000000000), .lit (.int .u64 100000000000), .lit (.int .u64 1000000000000), .lit (.int .u64 10000000000000), .lit (.int .u64 100000000000000), .lit (.int .u64 1000000000000000), .lit (.int .u64 10000000000000000), .lit (.int .u64 100000000000000000), .lit (.int .u64 1000000000000000000), .lit (.int .u64 10000000000000000000)]
def laid_baggage_message_keys {H : Type} : DataW H := .agg [.lit (.string []), .lit (.string [86, 70, 79, 78, 83, 87, 80, 88]), .lit (.string [86, 73, 70, 79, 78, 83, 87, 80, 88]), .lit (.string [86, 78, 74]), .lit (.string [86, 70, 78]), .lit (.string [86, 70, 66])]
def laid_baggage_message_words {H : Type} : DataW H := .agg [.agg [.lit (.string []), .lit (.string [66, 83, 77]), .lit (.string [66, 84, 77]), .lit (.string [66, 80, 77]), .lit (.string [66, 85, 77]), .lit (.string [66, 66, 77])], .agg [.lit (.string []), .lit (.string [67, 72, 71]), .lit (.string [68, 69, 76]), .lit (.string []), .lit (.string []), .lit (.string [])], .agg [.lit (.string []), .lit (.string [67]), .lit (.string [83]), .lit (.string [78]), .lit (.string [66]), .lit (.string [])], .agg [.lit (.string []), .lit (.string [82, 85, 83, 72]), .lit (.string [67, 82, 69, 87]), .lit (.string [67, 65, 82, 71, 79]), .lit (.string []), .lit (.string [])]]

/-- 'baggagelaw04.MessageBoarding': WHATEVER THE INPUT: true; the input reads as it did. -/
def messageBoardingSpec : ChangeSpec := { name := "messageBoarding", fn := fun _ => fun
  | [d1, d2] => { results := [.lit (.bool true)], args := [d1, d2] }
  | _ => none }
def messageBoardingRow : OpenClaim := { program := "ytcjdjdganaokfaadoor", sum := "fc79905f9e173af274f552d0cbb21c51a9b0f9bbeb0c38bd6a3809f2919f8315", func := "baggage/baggagelaw04.MessageBoarding", spec := "messageBoarding", inPlace := ["internal/bytealg.IndexByteString", "internal/bytealg.IndexString"], unfollowed := true, recurses := true, named := ["baggage/message.words", "baggage/message.keys", "internal/strconv.uint64pow10", "math/bits.deBruijn32tab", "math/bits.deBruijn64tab", "internal/bytealg.MaxLen"], apart := false, laid := [("math/bits.deBruijn32tab", laid_math_bits_deBruijn32tab), ("math/bits.deBruijn64tab", laid_math_bits_deBruijn64tab), ("internal/strconv.uint64pow10", laid_internal_strconv_uint64pow10), ("baggage/message.keys", laid_baggage_message_keys), ("baggage/message.words", laid_baggage_message_words)] }
def MessageBoardingSaid : Prop := messageBoardingRow.holds Tryd.pinned (OpenSpec.ofChange messageBoardingSpec)

/-- ITS FALSE NEIGHBOUR: 'it returns false'. Refute it at one input. -/
def messageBoardingWrong : ChangeSpec := { name := "messageBoarding", fn := fun _ => fun
  | [d1, d2] => { results := [.lit (.bool false)], args := [d1, d2] }
  | _ => none }
def MessageBoardingWrongFalsely : Prop := messageBoardingRow.holds Tryd.pinned (OpenSpec.ofChange messageBoardingWrong)

/-- 'baggagelaw05.InboxOrder': WHATEVER THE INPUT: true; the input reads as it did. -/
def inboxOrderSpec : ChangeSpec := { name := "inboxOrder", fn := fun _ => fun
  | [d1, d2, d3] => { results := [.lit (.bool true)], args := [d1, d2, d3] }
  | _ => none }
def inboxOrderRow : OpenClaim := { program := "ytcjdjdganaokfaadoor", sum := "fc79905f9e173af274f552d0cbb21c51a9b0f9bbeb0c38bd6a3809f2919f8315", func := "baggage/baggagelaw05.InboxOrder", spec := "inboxOrder", inPlace := ["internal/bytealg.abigen_runtime_cmpstring", "slices.overlaps[baggage/api.Sender]", "slices.overlaps[baggage/api.Message]"], unfollowed := true, recurses := true, named := ["baggage/message.keys"], apart := false, laid := [("baggage/message.keys", laid_baggage_message_keys)] }
def InboxOrderSaid : Prop := inboxOrderRow.holds Tryd.pinned (OpenSpec.ofChange inboxOrderSpec)

/-- ITS FALSE NEIGHBOUR: 'it returns false'. Refute it at one input. -/
def inboxOrderWrong : ChangeSpec := { name := "inboxOrder", fn := fun _ => fun
  | [d1, d2, d3] => { results := [.lit (.bool false)], args := [d1, d2, d3] }
  | _ => none }
def InboxOrderWrongFalsely : Prop := inboxOrderRow.holds Tryd.pinned (OpenSpec.ofChange inboxOrderWrong)

/-- 'baggagelaw05.InboxSenders': WHATEVER THE INPUT: true; the input reads as it did. -/
def inboxSendersSpec : ChangeSpec := { name := "inboxSenders", fn := fun _ => fun
  | [d] => { results := [.lit (.bool true)], args := [d] }
  | _ => none }
def inboxSendersRow : OpenClaim := { program := "ytcjdjdganaokfaadoor", sum := "fc79905f9e173af274f552d0cbb21c51a9b0f9bbeb0c38bd6a3809f2919f8315", func := "baggage/baggagelaw05.InboxSenders", spec := "inboxSenders", inPlace := ["internal/bytealg.abigen_runtime_cmpstring", "slices.overlaps[baggage/api.Sender]", "slices.overlaps[baggage/api.Message]"], unfollowed := true, recurses := true, named := ["baggage/message.keys"], apart := false, laid := [("baggage/message.keys", laid_baggage_message_keys)] }
def InboxSendersSaid : Prop := inboxSendersRow.holds Tryd.pinned (OpenSpec.ofChange inboxSendersSpec)

/-- ITS FALSE NEIGHBOUR: 'it returns false'. Refute it at one input. -/
def inboxSendersWrong : ChangeSpec := { name := "inboxSenders", fn := fun _ => fun
  | [d] => { results := [.lit (.bool false)], args := [d] }
  | _ => none }
def InboxSendersWrongFalsely : Prop := inboxSendersRow.holds Tryd.pinned (OpenSpec.ofChange inboxSendersWrong)

/-- 'baggagelaw05.InboxGaps': WHATEVER THE INPUT: true; the input reads as it did. -/
def inboxGapsSpec : ChangeSpec := { name := "inboxGaps", fn := fun _ => fun
  | [d] => { results := [.lit (.bool true)], args := [d] }
  | _ => none }
def inboxGapsRow : OpenClaim := { program := "ytcjdjdganaokfaadoor", sum := "fc79905f9e173af274f552d0cbb21c51a9b0f9bbeb0c38bd6a3809f2919f8315", func := "baggage/baggagelaw05.InboxGaps", spec := "inboxGaps", inPlace := ["internal/bytealg.abigen_runtime_cmpstring", "slices.overlaps[baggage/api.Sender]", "slices.overlaps[baggage/api.Message]"], unfollowed := true, recurses := true, named := ["baggage/message.keys"], apart := false, laid := [("baggage/message.keys", laid_baggage_message_keys)] }
def InboxGapsSaid : Prop := inboxGapsRow.holds Tryd.pinned (OpenSpec.ofChange inboxGapsSpec)

/-- ITS FALSE NEIGHBOUR: 'it returns false'. Refute it at one input. -/
def inboxGapsWrong : ChangeSpec := { name := "inboxGaps", fn := fun _ => fun
  | [d] => { results := [.lit (.bool false)], args := [d] }
  | _ => none }
def InboxGapsWrongFalsely : Prop := inboxGapsRow.holds Tryd.pinned (OpenSpec.ofChange inboxGapsWrong)

/-- 'baggagelaw05.InboxConflicts': WHATEVER THE INPUT: true; the input reads as it did. -/
def inboxConflictsSpec : ChangeSpec := { name := "inboxConflicts", fn := fun _ => fun
  | [d1, d2] => { results := [.lit (.bool true)], args := [d1, d2] }
  | _ => none }
def inboxConflictsRow : OpenClaim := { program := "ytcjdjdganaokfaadoor", sum := "fc79905f9e173af274f552d0cbb21c51a9b0f9bbeb0c38bd6a3809f2919f8315", func := "baggage/baggagelaw05.InboxConflicts", spec := "inboxConflicts", inPlace := ["internal/bytealg.abigen_runtime_cmpstring", "slices.overlaps[baggage/api.Sender]", "slices.overlaps[baggage/api.Message]"], unfollowed := true, recurses := true, named := ["baggage/message.keys"], apart := false, laid := [("baggage/message.keys", laid_baggage_message_keys)] }
def InboxConflictsSaid : Prop := inboxConflictsRow.holds Tryd.pinned (OpenSpec.ofChange inboxConflictsSpec)

/-- ITS FALSE NEIGHBOUR: 'it returns false'. Refute it at one input. -/
def inboxConflictsWrong : ChangeSpec := { name := "inboxConflicts", fn := fun _ => fun
  | [d1, d2] => { results := [.lit (.bool false)], args := [d1, d2] }
  | _ => none }
def InboxConflictsWrongFalsely : Prop := inboxConflictsRow.holds Tryd.pinned (OpenSpec.ofChange inboxConflictsWrong)

/-- 'baggagelaw06.RegistryLimit': WHATEVER THE INPUT: true; the input reads as it did. -/
def registryLimitSpec : ChangeSpec := { name := "registryLimit", fn := fun _ => fun
  | [d] => { results := [.lit (.bool true)], args := [d] }
  | _ => none }
def registryLimitRow : OpenClaim := { program := "ytcjdjdganaokfaadoor", sum := "fc79905f9e173af274f552d0cbb21c51a9b0f9bbeb0c38bd6a3809f2919f8315", func := "baggage/baggagelaw06.RegistryLimit", spec := "registryLimit", unfollowed := true, recurses := true, named := ["baggage/message.keys"], apart := false, laid := [("baggage/message.keys", laid_baggage_message_keys)] }
def RegistryLimitSaid : Prop := registryLimitRow.holds Tryd.pinned (OpenSpec.ofChange registryLimitSpec)

/-- ITS FALSE NEIGHBOUR: 'it returns false'. Refute it at one input. -/
def registryLimitWrong : ChangeSpec := { name := "registryLimit", fn := fun _ => fun
  | [d] => { results := [.lit (.bool false)], args := [d] }
  | _ => none }
def RegistryLimitWrongFalsely : Prop := registryLimitRow.holds Tryd.pinned (OpenSpec.ofChange registryLimitWrong)

/- THE SECOND FORM. 'bulk': how many values and letters a reading holds, each counted each time it is reached (what is shared counts as often as it is met; a slice's spare places count too). A statement '..UptoSaid' is the law's where the arguments, and the package variables that the reading takes, are together of bulk at most 1048576: NARROWER than '..Said'. Prove '..Said' where nothing that the law and all that it calls make is longer than what came in: it says more and counts as full. Else prove '..UptoSaid'. A law counts once. -/
mutual
def uptoBulk {H : Type} : DataW H → Nat
  | .lit (.string bytes) => bytes.length + 1
  | .lit _ => 1
  | .nil => 1
  | .ptr d => uptoBulk d + 1
  | .slice elems spare => uptoBulkAll elems + uptoBulkAll spare + 1
  | .agg parts => uptoBulkAll parts + 1
  | .iface _ d => uptoBulk d + 1
  | .map entries => uptoBulkEntries entries + 1
  | .held _ => 1
def uptoBulkAll {H : Type} : List (DataW H) → Nat
  | [] => 0
  | d :: r => uptoBulk d + uptoBulkAll r
def uptoBulkEntries {H : Type} : List (Lit × DataW H) → Nat
  | [] => 0
  | x :: r => uptoBulkEntry x + uptoBulkEntries r
def uptoBulkEntry {H : Type} : Lit × DataW H → Nat
  | (.string bytes, d) => bytes.length + uptoBulk d + 1
  | (_, d) => uptoBulk d + 1
 end
def uptoSmall : (H : Type) → List (DataW H) → Bool := fun _ ds => decide (uptoBulkAll ds ≤ 1048576)
def OpenSpec.upto (s : _root_.Go.ChangeSpec) : _root_.Go.OpenSpec := { _root_.Go.OpenSpec.ofChange s with cond := some uptoSmall }

/-- 'baggagelaw04.MessageBoarding', WHERE WHAT IT READS IS OF BULK AT MOST 1048576: true; the input reads as it did. -/
def messageBoardingUptoRow : OpenClaim := { program := "ytcjdjdganaokfaadoor", sum := "fc79905f9e173af274f552d0cbb21c51a9b0f9bbeb0c38bd6a3809f2919f8315", func := "baggage/baggagelaw04.MessageBoarding", spec := "messageBoarding", inPlace := ["internal/bytealg.IndexByteString", "internal/bytealg.IndexString"], unfollowed := true, recurses := true, named := ["baggage/message.words", "baggage/message.keys", "internal/strconv.uint64pow10", "math/bits.deBruijn32tab", "math/bits.deBruijn64tab", "internal/bytealg.MaxLen"], apart := false, laid := [("math/bits.deBruijn32tab", laid_math_bits_deBruijn32tab), ("math/bits.deBruijn64tab", laid_math_bits_deBruijn64tab), ("internal/strconv.uint64pow10", laid_internal_strconv_uint64pow10), ("baggage/message.keys", laid_baggage_message_keys), ("baggage/message.words", laid_baggage_message_words)], narrowed := true }
def MessageBoardingUptoSaid : Prop := messageBoardingUptoRow.holds Tryd.pinned (OpenSpec.upto messageBoardingSpec)

/-- 'baggagelaw05.InboxOrder', WHERE WHAT IT READS IS OF BULK AT MOST 1048576: true; the input reads as it did. -/
def inboxOrderUptoRow : OpenClaim := { program := "ytcjdjdganaokfaadoor", sum := "fc79905f9e173af274f552d0cbb21c51a9b0f9bbeb0c38bd6a3809f2919f8315", func := "baggage/baggagelaw05.InboxOrder", spec := "inboxOrder", inPlace := ["internal/bytealg.abigen_runtime_cmpstring", "slices.overlaps[baggage/api.Sender]", "slices.overlaps[baggage/api.Message]"], unfollowed := true, recurses := true, named := ["baggage/message.keys"], apart := false, laid := [("baggage/message.keys", laid_baggage_message_keys)], narrowed := true }
def InboxOrderUptoSaid : Prop := inboxOrderUptoRow.holds Tryd.pinned (OpenSpec.upto inboxOrderSpec)

/-- 'baggagelaw05.InboxSenders', WHERE WHAT IT READS IS OF BULK AT MOST 1048576: true; the input reads as it did. -/
def inboxSendersUptoRow : OpenClaim := { program := "ytcjdjdganaokfaadoor", sum := "fc79905f9e173af274f552d0cbb21c51a9b0f9bbeb0c38bd6a3809f2919f8315", func := "baggage/baggagelaw05.InboxSenders", spec := "inboxSenders", inPlace := ["internal/bytealg.abigen_runtime_cmpstring", "slices.overlaps[baggage/api.Sender]", "slices.overlaps[baggage/api.Message]"], unfollowed := true, recurses := true, named := ["baggage/message.keys"], apart := false, laid := [("baggage/message.keys", laid_baggage_message_keys)], narrowed := true }
def InboxSendersUptoSaid : Prop := inboxSendersUptoRow.holds Tryd.pinned (OpenSpec.upto inboxSendersSpec)

/-- 'baggagelaw05.InboxGaps', WHERE WHAT IT READS IS OF BULK AT MOST 1048576: true; the input reads as it did. -/
def inboxGapsUptoRow : OpenClaim := { program := "ytcjdjdganaokfaadoor", sum := "fc79905f9e173af274f552d0cbb21c51a9b0f9bbeb0c38bd6a3809f2919f8315", func := "baggage/baggagelaw05.InboxGaps", spec := "inboxGaps", inPlace := ["internal/bytealg.abigen_runtime_cmpstring", "slices.overlaps[baggage/api.Sender]", "slices.overlaps[baggage/api.Message]"], unfollowed := true, recurses := true, named := ["baggage/message.keys"], apart := false, laid := [("baggage/message.keys", laid_baggage_message_keys)], narrowed := true }
def InboxGapsUptoSaid : Prop := inboxGapsUptoRow.holds Tryd.pinned (OpenSpec.upto inboxGapsSpec)

/-- 'baggagelaw05.InboxConflicts', WHERE WHAT IT READS IS OF BULK AT MOST 1048576: true; the input reads as it did. -/
def inboxConflictsUptoRow : OpenClaim := { program := "ytcjdjdganaokfaadoor", sum := "fc79905f9e173af274f552d0cbb21c51a9b0f9bbeb0c38bd6a3809f2919f8315", func := "baggage/baggagelaw05.InboxConflicts", spec := "inboxConflicts", inPlace := ["internal/bytealg.abigen_runtime_cmpstring", "slices.overlaps[baggage/api.Sender]", "slices.overlaps[baggage/api.Message]"], unfollowed := true, recurses := true, named := ["baggage/message.keys"], apart := false, laid := [("baggage/message.keys", laid_baggage_message_keys)], narrowed := true }
def InboxConflictsUptoSaid : Prop := inboxConflictsUptoRow.holds Tryd.pinned (OpenSpec.upto inboxConflictsSpec)

/-- 'baggagelaw06.RegistryLimit', WHERE WHAT IT READS IS OF BULK AT MOST 1048576: true; the input reads as it did. -/
def registryLimitUptoRow : OpenClaim := { program := "ytcjdjdganaokfaadoor", sum := "fc79905f9e173af274f552d0cbb21c51a9b0f9bbeb0c38bd6a3809f2919f8315", func := "baggage/baggagelaw06.RegistryLimit", spec := "registryLimit", unfollowed := true, recurses := true, named := ["baggage/message.keys"], apart := false, laid := [("baggage/message.keys", laid_baggage_message_keys)], narrowed := true }
def RegistryLimitUptoSaid : Prop := registryLimitUptoRow.holds Tryd.pinned (OpenSpec.upto registryLimitSpec)

end Rows
end Go.Proofs.YtcjdjdganaokfaaDoor
