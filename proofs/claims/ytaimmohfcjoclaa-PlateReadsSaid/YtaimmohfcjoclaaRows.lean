/-
  No cell of these rows narrows 'for every input' (looked for: loops, veiled, ifaces, maps, wideKeys, modest, calm, conditions, laid).
  DERIVED. THE GIVEN ROWS OF THIS SEAT. 13 by the template 'for every input the law returns true; each argument reads behind the call as it read before'; 0 by the template 'total and deterministic' (their statements: YtaimmohfcjoclaaTotals.lean).
  GIVEN WITH THE SEED: the statements are not yours to turn. If you find one false, say at which input.
  Laid BY PROGRAM, IN A SANDBOX (cutbox-rows.mjs): the forced cells as the released guide's own fill.sh prints them over the translation 5792bf42ac5ce192… (all of the seat's roots in one cut). By AI agents, Wed Nov 11 2026. No macro, syntax, notation, axiom, sorry.
-/
import Derived.Test.YtaimmohfcjoclaaChecked
import GoSem.Claim
import GoSem.ClaimJoined
import GoSem.ClaimMapViews
import Derived.JoinedTies
import Derived.KernelRfl
namespace Go.Proofs.Ytaimmohfcjoclaa
/- THE CELL 'sum', in the pinned program and in every row, IS THE sha256 OF THE DUMP (.gsa) THAT YtaimmohfcjoclaaProg.lean LOADS. Nothing in Lean hashes anything: it is a label: what it is worth is what the hold of that sum in a sandbox is worth. -/
noncomputable def Try.pinned : Pinned := { name := "ytaimmohfcjoclaa", sum := "5792bf42ac5ce192be96bd1ba2ab97de496f102f486448a8a6bac5181c80f204", checked := Try.checked }
namespace Rows
def none {H : Type} : Left H := { results := [], args := [] }

/-- 'baggagelaw01.PlateTexts': WHATEVER THE INPUT: true; the input reads as it did. -/
def plateTextsSpec : ChangeSpec := { name := "plateTexts", fn := fun _ => fun
  | [d1, d2] => { results := [.lit (.bool true)], args := [d1, d2] }
  | _ => none }
def plateTextsRow : OpenClaim := { program := "ytaimmohfcjoclaa", sum := "5792bf42ac5ce192be96bd1ba2ab97de496f102f486448a8a6bac5181c80f204", func := "baggage/baggagelaw01.PlateTexts", spec := "plateTexts", apart := false }
def PlateTextsSaid : Prop := plateTextsRow.holds Try.pinned (OpenSpec.ofChange plateTextsSpec)

/-- ITS FALSE NEIGHBOUR: 'it returns false'. Refute it at one input. -/
def plateTextsWrong : ChangeSpec := { name := "plateTexts", fn := fun _ => fun
  | [d1, d2] => { results := [.lit (.bool false)], args := [d1, d2] }
  | _ => none }
def PlateTextsWrongFalsely : Prop := plateTextsRow.holds Try.pinned (OpenSpec.ofChange plateTextsWrong)

/-- 'baggagelaw01.PlateOrder': WHATEVER THE INPUT: true; the input reads as it did. -/
def plateOrderSpec : ChangeSpec := { name := "plateOrder", fn := fun _ => fun
  | [d1, d2] => { results := [.lit (.bool true)], args := [d1, d2] }
  | _ => none }
def plateOrderRow : OpenClaim := { program := "ytaimmohfcjoclaa", sum := "5792bf42ac5ce192be96bd1ba2ab97de496f102f486448a8a6bac5181c80f204", func := "baggage/baggagelaw01.PlateOrder", spec := "plateOrder", apart := false }
def PlateOrderSaid : Prop := plateOrderRow.holds Try.pinned (OpenSpec.ofChange plateOrderSpec)

/-- ITS FALSE NEIGHBOUR: 'it returns false'. Refute it at one input. -/
def plateOrderWrong : ChangeSpec := { name := "plateOrder", fn := fun _ => fun
  | [d1, d2] => { results := [.lit (.bool false)], args := [d1, d2] }
  | _ => none }
def PlateOrderWrongFalsely : Prop := plateOrderRow.holds Try.pinned (OpenSpec.ofChange plateOrderWrong)

/-- 'baggagelaw01.PlateBack': WHATEVER THE INPUT: true; the input reads as it did. -/
def plateBackSpec : ChangeSpec := { name := "plateBack", fn := fun _ => fun
  | [d1, d2] => { results := [.lit (.bool true)], args := [d1, d2] }
  | _ => none }
def plateBackRow : OpenClaim := { program := "ytaimmohfcjoclaa", sum := "5792bf42ac5ce192be96bd1ba2ab97de496f102f486448a8a6bac5181c80f204", func := "baggage/baggagelaw01.PlateBack", spec := "plateBack", apart := false }
def PlateBackSaid : Prop := plateBackRow.holds Try.pinned (OpenSpec.ofChange plateBackSpec)

/-- ITS FALSE NEIGHBOUR: 'it returns false'. Refute it at one input. -/
def plateBackWrong : ChangeSpec := { name := "plateBack", fn := fun _ => fun
  | [d1, d2] => { results := [.lit (.bool false)], args := [d1, d2] }
  | _ => none }
def PlateBackWrongFalsely : Prop := plateBackRow.holds Try.pinned (OpenSpec.ofChange plateBackWrong)

/-- 'baggagelaw01.PlateRuns': WHATEVER THE INPUT: true; the input reads as it did. -/
def plateRunsSpec : ChangeSpec := { name := "plateRuns", fn := fun _ => fun
  | [d1, d2] => { results := [.lit (.bool true)], args := [d1, d2] }
  | _ => none }
def plateRunsRow : OpenClaim := { program := "ytaimmohfcjoclaa", sum := "5792bf42ac5ce192be96bd1ba2ab97de496f102f486448a8a6bac5181c80f204", func := "baggage/baggagelaw01.PlateRuns", spec := "plateRuns", apart := false }
def PlateRunsSaid : Prop := plateRunsRow.holds Try.pinned (OpenSpec.ofChange plateRunsSpec)

/-- ITS FALSE NEIGHBOUR: 'it returns false'. Refute it at one input. -/
def plateRunsWrong : ChangeSpec := { name := "plateRuns", fn := fun _ => fun
  | [d1, d2] => { results := [.lit (.bool false)], args := [d1, d2] }
  | _ => none }
def PlateRunsWrongFalsely : Prop := plateRunsRow.holds Try.pinned (OpenSpec.ofChange plateRunsWrong)

/-- 'baggagelaw01.PlateDistinct': WHATEVER THE INPUT: true; the input reads as it did. -/
def plateDistinctSpec : ChangeSpec := { name := "plateDistinct", fn := fun _ => fun
  | [d1, d2, d3, d4] => { results := [.lit (.bool true)], args := [d1, d2, d3, d4] }
  | _ => none }
def plateDistinctRow : OpenClaim := { program := "ytaimmohfcjoclaa", sum := "5792bf42ac5ce192be96bd1ba2ab97de496f102f486448a8a6bac5181c80f204", func := "baggage/baggagelaw01.PlateDistinct", spec := "plateDistinct", apart := false }
def PlateDistinctSaid : Prop := plateDistinctRow.holds Try.pinned (OpenSpec.ofChange plateDistinctSpec)

/-- ITS FALSE NEIGHBOUR: 'it returns false'. Refute it at one input. -/
def plateDistinctWrong : ChangeSpec := { name := "plateDistinct", fn := fun _ => fun
  | [d1, d2, d3, d4] => { results := [.lit (.bool false)], args := [d1, d2, d3, d4] }
  | _ => none }
def PlateDistinctWrongFalsely : Prop := plateDistinctRow.holds Try.pinned (OpenSpec.ofChange plateDistinctWrong)

/-- 'baggagelaw01.PlatePatterns': WHATEVER THE INPUT: true; the input reads as it did. -/
def platePatternsSpec : ChangeSpec := { name := "platePatterns", fn := fun _ => fun
  | [d1, d2, d3, d4] => { results := [.lit (.bool true)], args := [d1, d2, d3, d4] }
  | _ => none }
def platePatternsRow : OpenClaim := { program := "ytaimmohfcjoclaa", sum := "5792bf42ac5ce192be96bd1ba2ab97de496f102f486448a8a6bac5181c80f204", func := "baggage/baggagelaw01.PlatePatterns", spec := "platePatterns", apart := false }
def PlatePatternsSaid : Prop := platePatternsRow.holds Try.pinned (OpenSpec.ofChange platePatternsSpec)

/-- ITS FALSE NEIGHBOUR: 'it returns false'. Refute it at one input. -/
def platePatternsWrong : ChangeSpec := { name := "platePatterns", fn := fun _ => fun
  | [d1, d2, d3, d4] => { results := [.lit (.bool false)], args := [d1, d2, d3, d4] }
  | _ => none }
def PlatePatternsWrongFalsely : Prop := platePatternsRow.holds Try.pinned (OpenSpec.ofChange platePatternsWrong)

/-- 'baggagelaw01.PlateReads': WHATEVER THE INPUT: true; the input reads as it did. -/
def plateReadsSpec : ChangeSpec := { name := "plateReads", fn := fun _ => fun
  | [d1, d2, d3] => { results := [.lit (.bool true)], args := [d1, d2, d3] }
  | _ => none }
def plateReadsRow : OpenClaim := { program := "ytaimmohfcjoclaa", sum := "5792bf42ac5ce192be96bd1ba2ab97de496f102f486448a8a6bac5181c80f204", func := "baggage/baggagelaw01.PlateReads", spec := "plateReads", apart := false }
def PlateReadsSaid : Prop := plateReadsRow.holds Try.pinned (OpenSpec.ofChange plateReadsSpec)

/-- ITS FALSE NEIGHBOUR: 'it returns false'. Refute it at one input. -/
def plateReadsWrong : ChangeSpec := { name := "plateReads", fn := fun _ => fun
  | [d1, d2, d3] => { results := [.lit (.bool false)], args := [d1, d2, d3] }
  | _ => none }
def PlateReadsWrongFalsely : Prop := plateReadsRow.holds Try.pinned (OpenSpec.ofChange plateReadsWrong)

/-- 'baggagelaw02.FlightTexts': WHATEVER THE INPUT: true; the input reads as it did. -/
def flightTextsSpec : ChangeSpec := { name := "flightTexts", fn := fun _ => fun
  | [d1, d2] => { results := [.lit (.bool true)], args := [d1, d2] }
  | _ => none }
def flightTextsRow : OpenClaim := { program := "ytaimmohfcjoclaa", sum := "5792bf42ac5ce192be96bd1ba2ab97de496f102f486448a8a6bac5181c80f204", func := "baggage/baggagelaw02.FlightTexts", spec := "flightTexts", inPlace := ["internal/bytealg.IndexByteString", "internal/bytealg.IndexString"], named := ["internal/bytealg.MaxLen"], apart := false }
def FlightTextsSaid : Prop := flightTextsRow.holds Try.pinned (OpenSpec.ofChange flightTextsSpec)

/-- ITS FALSE NEIGHBOUR: 'it returns false'. Refute it at one input. -/
def flightTextsWrong : ChangeSpec := { name := "flightTexts", fn := fun _ => fun
  | [d1, d2] => { results := [.lit (.bool false)], args := [d1, d2] }
  | _ => none }
def FlightTextsWrongFalsely : Prop := flightTextsRow.holds Try.pinned (OpenSpec.ofChange flightTextsWrong)

/-- 'baggagelaw02.FlightNear': WHATEVER THE INPUT: true; the input reads as it did. -/
def flightNearSpec : ChangeSpec := { name := "flightNear", fn := fun _ => fun
  | [d1, d2, d3, d4] => { results := [.lit (.bool true)], args := [d1, d2, d3, d4] }
  | _ => none }
def flightNearRow : OpenClaim := { program := "ytaimmohfcjoclaa", sum := "5792bf42ac5ce192be96bd1ba2ab97de496f102f486448a8a6bac5181c80f204", func := "baggage/baggagelaw02.FlightNear", spec := "flightNear", inPlace := ["internal/bytealg.IndexByteString", "internal/bytealg.IndexString"], named := ["internal/bytealg.MaxLen"], apart := false }
def FlightNearSaid : Prop := flightNearRow.holds Try.pinned (OpenSpec.ofChange flightNearSpec)

/-- ITS FALSE NEIGHBOUR: 'it returns false'. Refute it at one input. -/
def flightNearWrong : ChangeSpec := { name := "flightNear", fn := fun _ => fun
  | [d1, d2, d3, d4] => { results := [.lit (.bool false)], args := [d1, d2, d3, d4] }
  | _ => none }
def FlightNearWrongFalsely : Prop := flightNearRow.holds Try.pinned (OpenSpec.ofChange flightNearWrong)

/-- 'baggagelaw02.FlightBack': WHATEVER THE INPUT: true; the input reads as it did. -/
def flightBackSpec : ChangeSpec := { name := "flightBack", fn := fun _ => fun
  | [d1, d2] => { results := [.lit (.bool true)], args := [d1, d2] }
  | _ => none }
def flightBackRow : OpenClaim := { program := "ytaimmohfcjoclaa", sum := "5792bf42ac5ce192be96bd1ba2ab97de496f102f486448a8a6bac5181c80f204", func := "baggage/baggagelaw02.FlightBack", spec := "flightBack", inPlace := ["internal/bytealg.IndexByteString", "internal/bytealg.IndexString"], named := ["internal/bytealg.MaxLen"], apart := false }
def FlightBackSaid : Prop := flightBackRow.holds Try.pinned (OpenSpec.ofChange flightBackSpec)

/-- ITS FALSE NEIGHBOUR: 'it returns false'. Refute it at one input. -/
def flightBackWrong : ChangeSpec := { name := "flightBack", fn := fun _ => fun
  | [d1, d2] => { results := [.lit (.bool false)], args := [d1, d2] }
  | _ => none }
def FlightBackWrongFalsely : Prop := flightBackRow.holds Try.pinned (OpenSpec.ofChange flightBackWrong)

/-- 'baggagelaw02.FlightOrder': WHATEVER THE INPUT: true; the input reads as it did. -/
def flightOrderSpec : ChangeSpec := { name := "flightOrder", fn := fun _ => fun
  | [d1, d2, d3] => { results := [.lit (.bool true)], args := [d1, d2, d3] }
  | _ => none }
def flightOrderRow : OpenClaim := { program := "ytaimmohfcjoclaa", sum := "5792bf42ac5ce192be96bd1ba2ab97de496f102f486448a8a6bac5181c80f204", func := "baggage/baggagelaw02.FlightOrder", spec := "flightOrder", inPlace := ["internal/bytealg.IndexByteString", "internal/bytealg.IndexString"], named := ["internal/bytealg.MaxLen"], apart := false }
def FlightOrderSaid : Prop := flightOrderRow.holds Try.pinned (OpenSpec.ofChange flightOrderSpec)

/-- ITS FALSE NEIGHBOUR: 'it returns false'. Refute it at one input. -/
def flightOrderWrong : ChangeSpec := { name := "flightOrder", fn := fun _ => fun
  | [d1, d2, d3] => { results := [.lit (.bool false)], args := [d1, d2, d3] }
  | _ => none }
def FlightOrderWrongFalsely : Prop := flightOrderRow.holds Try.pinned (OpenSpec.ofChange flightOrderWrong)

/-- 'baggagelaw02.FlightLegs': WHATEVER THE INPUT: true; the input reads as it did. -/
def flightLegsSpec : ChangeSpec := { name := "flightLegs", fn := fun _ => fun
  | [d1, d2, d3, d4] => { results := [.lit (.bool true)], args := [d1, d2, d3, d4] }
  | _ => none }
def flightLegsRow : OpenClaim := { program := "ytaimmohfcjoclaa", sum := "5792bf42ac5ce192be96bd1ba2ab97de496f102f486448a8a6bac5181c80f204", func := "baggage/baggagelaw02.FlightLegs", spec := "flightLegs", inPlace := ["internal/bytealg.IndexByteString", "internal/bytealg.IndexString"], named := ["internal/bytealg.MaxLen"], apart := false }
def FlightLegsSaid : Prop := flightLegsRow.holds Try.pinned (OpenSpec.ofChange flightLegsSpec)

/-- ITS FALSE NEIGHBOUR: 'it returns false'. Refute it at one input. -/
def flightLegsWrong : ChangeSpec := { name := "flightLegs", fn := fun _ => fun
  | [d1, d2, d3, d4] => { results := [.lit (.bool false)], args := [d1, d2, d3, d4] }
  | _ => none }
def FlightLegsWrongFalsely : Prop := flightLegsRow.holds Try.pinned (OpenSpec.ofChange flightLegsWrong)

/-- 'baggagelaw02.FlightDays': WHATEVER THE INPUT: true; the input reads as it did. -/
def flightDaysSpec : ChangeSpec := { name := "flightDays", fn := fun _ => fun
  | [d1, d2, d3] => { results := [.lit (.bool true)], args := [d1, d2, d3] }
  | _ => none }
def flightDaysRow : OpenClaim := { program := "ytaimmohfcjoclaa", sum := "5792bf42ac5ce192be96bd1ba2ab97de496f102f486448a8a6bac5181c80f204", func := "baggage/baggagelaw02.FlightDays", spec := "flightDays", inPlace := ["internal/bytealg.IndexByteString", "internal/bytealg.IndexString"], named := ["internal/bytealg.MaxLen"], apart := false }
def FlightDaysSaid : Prop := flightDaysRow.holds Try.pinned (OpenSpec.ofChange flightDaysSpec)

/-- ITS FALSE NEIGHBOUR: 'it returns false'. Refute it at one input. -/
def flightDaysWrong : ChangeSpec := { name := "flightDays", fn := fun _ => fun
  | [d1, d2, d3] => { results := [.lit (.bool false)], args := [d1, d2, d3] }
  | _ => none }
def FlightDaysWrongFalsely : Prop := flightDaysRow.holds Try.pinned (OpenSpec.ofChange flightDaysWrong)

/- THE SECOND FORM. 'bulk': how many values and letters a reading holds, each counted each time it is reached (what is shared counts as often as it is met; a slice's spare places count too). A statement '..UptoSaid' is the law's where the arguments, and the package variables that the reading takes, are together of bulk at most 1048576: NARROWER than '..Said'. Prove '..Said' where nothing that the law and all that it calls make is longer than what came in: it says more and counts as full. Else prove '..UptoSaid'. A law counts once. -/
mutual
def uptoBulk {H : Type} : DataW H → Nat
  | .lit (.string bytes) => bytes.length + 1
  | .lit _ => 1
  | .nil => 1
  | .ptr d => uptoBulk d + 1
  | .slice elems spare => uptoBulkAll elems + uptoBulkAll spare + 1
  | .agg parts => uptoBulkAll parts + 1
  | .iface _ d => uptoBulk d + 1
  | .map entries => uptoBulkEntries entries + 1
  | .held _ => 1
def uptoBulkAll {H : Type} : List (DataW H) → Nat
  | [] => 0
  | d :: r => uptoBulk d + uptoBulkAll r
def uptoBulkEntries {H : Type} : List (Lit × DataW H) → Nat
  | [] => 0
  | x :: r => uptoBulkEntry x + uptoBulkEntries r
def uptoBulkEntry {H : Type} : Lit × DataW H → Nat
  | (.string bytes, d) => bytes.length + uptoBulk d + 1
  | (_, d) => uptoBulk d + 1
 end
def uptoSmall : (H : Type) → List (DataW H) → Bool := fun _ ds => decide (uptoBulkAll ds ≤ 1048576)
def OpenSpec.upto (s : _root_.Go.ChangeSpec) : _root_.Go.OpenSpec := { _root_.Go.OpenSpec.ofChange s with cond := some uptoSmall }

/-- 'baggagelaw01.PlateTexts', WHERE WHAT IT READS IS OF BULK AT MOST 1048576: true; the input reads as it did. -/
def plateTextsUptoRow : OpenClaim := { program := "ytaimmohfcjoclaa", sum := "5792bf42ac5ce192be96bd1ba2ab97de496f102f486448a8a6bac5181c80f204", func := "baggage/baggagelaw01.PlateTexts", spec := "plateTexts", apart := false, narrowed := true }
def PlateTextsUptoSaid : Prop := plateTextsUptoRow.holds Try.pinned (OpenSpec.upto plateTextsSpec)

/-- 'baggagelaw01.PlateOrder', WHERE WHAT IT READS IS OF BULK AT MOST 1048576: true; the input reads as it did. -/
def plateOrderUptoRow : OpenClaim := { program := "ytaimmohfcjoclaa", sum := "5792bf42ac5ce192be96bd1ba2ab97de496f102f486448a8a6bac5181c80f204", func := "baggage/baggagelaw01.PlateOrder", spec := "plateOrder", apart := false, narrowed := true }
def PlateOrderUptoSaid : Prop := plateOrderUptoRow.holds Try.pinned (OpenSpec.upto plateOrderSpec)

/-- 'baggagelaw01.PlateBack', WHERE WHAT IT READS IS OF BULK AT MOST 1048576: true; the input reads as it did. -/
def plateBackUptoRow : OpenClaim := { program := "ytaimmohfcjoclaa", sum := "5792bf42ac5ce192be96bd1ba2ab97de496f102f486448a8a6bac5181c80f204", func := "baggage/baggagelaw01.PlateBack", spec := "plateBack", apart := false, narrowed := true }
def PlateBackUptoSaid : Prop := plateBackUptoRow.holds Try.pinned (OpenSpec.upto plateBackSpec)

/-- 'baggagelaw01.PlateRuns', WHERE WHAT IT READS IS OF BULK AT MOST 1048576: true; the input reads as it did. -/
def plateRunsUptoRow : OpenClaim := { program := "ytaimmohfcjoclaa", sum := "5792bf42ac5ce192be96bd1ba2ab97de496f102f486448a8a6bac5181c80f204", func := "baggage/baggagelaw01.PlateRuns", spec := "plateRuns", apart := false, narrowed := true }
def PlateRunsUptoSaid : Prop := plateRunsUptoRow.holds Try.pinned (OpenSpec.upto plateRunsSpec)

/-- 'baggagelaw01.PlateDistinct', WHERE WHAT IT READS IS OF BULK AT MOST 1048576: true; the input reads as it did. -/
def plateDistinctUptoRow : OpenClaim := { program := "ytaimmohfcjoclaa", sum := "5792bf42ac5ce192be96bd1ba2ab97de496f102f486448a8a6bac5181c80f204", func := "baggage/baggagelaw01.PlateDistinct", spec := "plateDistinct", apart := false, narrowed := true }
def PlateDistinctUptoSaid : Prop := plateDistinctUptoRow.holds Try.pinned (OpenSpec.upto plateDistinctSpec)

/-- 'baggagelaw01.PlatePatterns', WHERE WHAT IT READS IS OF BULK AT MOST 1048576: true; the input reads as it did. -/
def platePatternsUptoRow : OpenClaim := { program := "ytaimmohfcjoclaa", sum := "5792bf42ac5ce192be96bd1ba2ab97de496f102f486448a8a6bac5181c80f204", func := "baggage/baggagelaw01.PlatePatterns", spec := "platePatterns", apart := false, narrowed := true }
def PlatePatternsUptoSaid : Prop := platePatternsUptoRow.holds Try.pinned (OpenSpec.upto platePatternsSpec)

/-- 'baggagelaw01.PlateReads', WHERE WHAT IT READS IS OF BULK AT MOST 1048576: true; the input reads as it did. -/
def plateReadsUptoRow : OpenClaim := { program := "ytaimmohfcjoclaa", sum := "5792bf42ac5ce192be96bd1ba2ab97de496f102f486448a8a6bac5181c80f204", func := "baggage/baggagelaw01.PlateReads", spec := "plateReads", apart := false, narrowed := true }
def PlateReadsUptoSaid : Prop := plateReadsUptoRow.holds Try.pinned (OpenSpec.upto plateReadsSpec)

/-- 'baggagelaw02.FlightTexts', WHERE WHAT IT READS IS OF BULK AT MOST 1048576: true; the input reads as it did. -/
def flightTextsUptoRow : OpenClaim := { program := "ytaimmohfcjoclaa", sum := "5792bf42ac5ce192be96bd1ba2ab97de496f102f486448a8a6bac5181c80f204", func := "baggage/baggagelaw02.FlightTexts", spec := "flightTexts", inPlace := ["internal/bytealg.IndexByteString", "internal/bytealg.IndexString"], named := ["internal/bytealg.MaxLen"], apart := false, narrowed := true }
def FlightTextsUptoSaid : Prop := flightTextsUptoRow.holds Try.pinned (OpenSpec.upto flightTextsSpec)

/-- 'baggagelaw02.FlightNear', WHERE WHAT IT READS IS OF BULK AT MOST 1048576: true; the input reads as it did. -/
def flightNearUptoRow : OpenClaim := { program := "ytaimmohfcjoclaa", sum := "5792bf42ac5ce192be96bd1ba2ab97de496f102f486448a8a6bac5181c80f204", func := "baggage/baggagelaw02.FlightNear", spec := "flightNear", inPlace := ["internal/bytealg.IndexByteString", "internal/bytealg.IndexString"], named := ["internal/bytealg.MaxLen"], apart := false, narrowed := true }
def FlightNearUptoSaid : Prop := flightNearUptoRow.holds Try.pinned (OpenSpec.upto flightNearSpec)

/-- 'baggagelaw02.FlightBack', WHERE WHAT IT READS IS OF BULK AT MOST 1048576: true; the input reads as it did. -/
def flightBackUptoRow : OpenClaim := { program := "ytaimmohfcjoclaa", sum := "5792bf42ac5ce192be96bd1ba2ab97de496f102f486448a8a6bac5181c80f204", func := "baggage/baggagelaw02.FlightBack", spec := "flightBack", inPlace := ["internal/bytealg.IndexByteString", "internal/bytealg.IndexString"], named := ["internal/bytealg.MaxLen"], apart := false, narrowed := true }
def FlightBackUptoSaid : Prop := flightBackUptoRow.holds Try.pinned (OpenSpec.upto flightBackSpec)

/-- 'baggagelaw02.FlightOrder', WHERE WHAT IT READS IS OF BULK AT MOST 1048576: true; the input reads as it did. -/
def flightOrderUptoRow : OpenClaim := { program := "ytaimmohfcjoclaa", sum := "5792bf42ac5ce192be96bd1ba2ab97de496f102f486448a8a6bac5181c80f204", func := "baggage/baggagelaw02.FlightOrder", spec := "flightOrder", inPlace := ["internal/bytealg.IndexByteString", "internal/bytealg.IndexString"], named := ["internal/bytealg.MaxLen"], apart := false, narrowed := true }
def FlightOrderUptoSaid : Prop := flightOrderUptoRow.holds Try.pinned (OpenSpec.upto flightOrderSpec)

/-- 'baggagelaw02.FlightLegs', WHERE WHAT IT READS IS OF BULK AT MOST 1048576: true; the input reads as it did. -/
def flightLegsUptoRow : OpenClaim := { program := "ytaimmohfcjoclaa", sum := "5792bf42ac5ce192be96bd1ba2ab97de496f102f486448a8a6bac5181c80f204", func := "baggage/baggagelaw02.FlightLegs", spec := "flightLegs", inPlace := ["internal/bytealg.IndexByteString", "internal/bytealg.IndexString"], named := ["internal/bytealg.MaxLen"], apart := false, narrowed := true }
def FlightLegsUptoSaid : Prop := flightLegsUptoRow.holds Try.pinned (OpenSpec.upto flightLegsSpec)

/-- 'baggagelaw02.FlightDays', WHERE WHAT IT READS IS OF BULK AT MOST 1048576: true; the input reads as it did. -/
def flightDaysUptoRow : OpenClaim := { program := "ytaimmohfcjoclaa", sum := "5792bf42ac5ce192be96bd1ba2ab97de496f102f486448a8a6bac5181c80f204", func := "baggage/baggagelaw02.FlightDays", spec := "flightDays", inPlace := ["internal/bytealg.IndexByteString", "internal/bytealg.IndexString"], named := ["internal/bytealg.MaxLen"], apart := false, narrowed := true }
def FlightDaysUptoSaid : Prop := flightDaysUptoRow.holds Try.pinned (OpenSpec.upto flightDaysSpec)

end Rows
end Go.Proofs.Ytaimmohfcjoclaa
