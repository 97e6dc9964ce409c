/-
  No cell of these rows narrows 'for every input' (looked for: loops, veiled, ifaces, maps, wideKeys, modest, calm, conditions, laid).
  DERIVED. THE GIVEN ROWS OF THIS SEAT. 3 by the template 'for every input the law returns true; each argument reads behind the call as it read before'; 0 by the template 'total and deterministic' (their statements: YtbajmbegkacbbaaTotals.lean).
  GIVEN WITH THE SEED: the statements are not yours to turn. If you find one false, say at which input.
  Laid BY PROGRAM, IN A SANDBOX (cutbox-rows.mjs): the forced cells as the released guide's own fill.sh prints them over the translation e24259214ca51d49… (all of the seat's roots in one cut). By AI agents, Wed Nov 11 2026. No macro, syntax, notation, axiom, sorry.
-/
import Derived.Test.YtbajmbegkacbbaaChecked
import GoSem.Claim
import GoSem.ClaimJoined
import GoSem.ClaimMapViews
import Derived.JoinedTies
import Derived.KernelRfl
namespace Go.Proofs.Ytbajmbegkacbbaa
/- THE CELL 'sum', in the pinned program and in every row, IS THE sha256 OF THE DUMP (.gsa) THAT YtbajmbegkacbbaaProg.lean LOADS. Nothing in Lean hashes anything: it is a label: what it is worth is what the hold of that sum in a sandbox is worth. -/
noncomputable def Try.pinned : Pinned := { name := "ytbajmbegkacbbaa", sum := "e24259214ca51d491bd91aaf53641cf45ae5346d4de79478756d6bef4b21fcaa", checked := Try.checked }
namespace Rows
def none {H : Type} : Left H := { results := [], args := [] }

/-- 'baggagelaw19.EarlyDecides': WHATEVER THE INPUT: true; the input reads as it did. -/
def earlyDecidesSpec : ChangeSpec := { name := "earlyDecides", fn := fun _ => fun
  | [d1, d2, d3, d4, d5, d6] => { results := [.lit (.bool true)], args := [d1, d2, d3, d4, d5, d6] }
  | _ => none }
def earlyDecidesRow : OpenClaim := { program := "ytbajmbegkacbbaa", sum := "e24259214ca51d491bd91aaf53641cf45ae5346d4de79478756d6bef4b21fcaa", func := "baggage/baggagelaw19.EarlyDecides", spec := "earlyDecides", unfollowed := true, recurses := true, apart := false }
def EarlyDecidesSaid : Prop := earlyDecidesRow.holds Try.pinned (OpenSpec.ofChange earlyDecidesSpec)

/-- ITS FALSE NEIGHBOUR: 'it returns false'. Refute it at one input. -/
def earlyDecidesWrong : ChangeSpec := { name := "earlyDecides", fn := fun _ => fun
  | [d1, d2, d3, d4, d5, d6] => { results := [.lit (.bool false)], args := [d1, d2, d3, d4, d5, d6] }
  | _ => none }
def EarlyDecidesWrongFalsely : Prop := earlyDecidesRow.holds Try.pinned (OpenSpec.ofChange earlyDecidesWrong)

/-- 'baggagelaw19.EarlyReleases': WHATEVER THE INPUT: true; the input reads as it did. -/
def earlyReleasesSpec : ChangeSpec := { name := "earlyReleases", fn := fun _ => fun
  | [d] => { results := [.lit (.bool true)], args := [d] }
  | _ => none }
def earlyReleasesRow : OpenClaim := { program := "ytbajmbegkacbbaa", sum := "e24259214ca51d491bd91aaf53641cf45ae5346d4de79478756d6bef4b21fcaa", func := "baggage/baggagelaw19.EarlyReleases", spec := "earlyReleases", unfollowed := true, recurses := true, apart := false }
def EarlyReleasesSaid : Prop := earlyReleasesRow.holds Try.pinned (OpenSpec.ofChange earlyReleasesSpec)

/-- ITS FALSE NEIGHBOUR: 'it returns false'. Refute it at one input. -/
def earlyReleasesWrong : ChangeSpec := { name := "earlyReleases", fn := fun _ => fun
  | [d] => { results := [.lit (.bool false)], args := [d] }
  | _ => none }
def EarlyReleasesWrongFalsely : Prop := earlyReleasesRow.holds Try.pinned (OpenSpec.ofChange earlyReleasesWrong)

/-- 'baggagelaw19.EarlyMargin': WHATEVER THE INPUT: true; the input reads as it did. -/
def earlyMarginSpec : ChangeSpec := { name := "earlyMargin", fn := fun _ => fun
  | [d1, d2, d3, d4] => { results := [.lit (.bool true)], args := [d1, d2, d3, d4] }
  | _ => none }
def earlyMarginRow : OpenClaim := { program := "ytbajmbegkacbbaa", sum := "e24259214ca51d491bd91aaf53641cf45ae5346d4de79478756d6bef4b21fcaa", func := "baggage/baggagelaw19.EarlyMargin", spec := "earlyMargin", unfollowed := true, recurses := true, apart := false }
def EarlyMarginSaid : Prop := earlyMarginRow.holds Try.pinned (OpenSpec.ofChange earlyMarginSpec)

/-- ITS FALSE NEIGHBOUR: 'it returns false'. Refute it at one input. -/
def earlyMarginWrong : ChangeSpec := { name := "earlyMargin", fn := fun _ => fun
  | [d1, d2, d3, d4] => { results := [.lit (.bool false)], args := [d1, d2, d3, d4] }
  | _ => none }
def EarlyMarginWrongFalsely : Prop := earlyMarginRow.holds Try.pinned (OpenSpec.ofChange earlyMarginWrong)

/- THE SECOND FORM. 'bulk': how many values and letters a reading holds, each counted each time it is reached (what is shared counts as often as it is met; a slice's spare places count too). A statement '..UptoSaid' is the law's where the arguments, and the package variables that the reading takes, are together of bulk at most 1048576: NARROWER than '..Said'. Prove '..Said' where nothing that the law and all that it calls make is longer than what came in: it says more and counts as full. Else prove '..UptoSaid'. A law counts once. -/
mutual
def uptoBulk {H : Type} : DataW H → Nat
  | .lit (.string bytes) => bytes.length + 1
  | .lit _ => 1
  | .nil => 1
  | .ptr d => uptoBulk d + 1
  | .slice elems spare => uptoBulkAll elems + uptoBulkAll spare + 1
  | .agg parts => uptoBulkAll parts + 1
  | .iface _ d => uptoBulk d + 1
  | .map entries => uptoBulkEntries entries + 1
  | .held _ => 1
def uptoBulkAll {H : Type} : List (DataW H) → Nat
  | [] => 0
  | d :: r => uptoBulk d + uptoBulkAll r
def uptoBulkEntries {H : Type} : List (Lit × DataW H) → Nat
  | [] => 0
  | x :: r => uptoBulkEntry x + uptoBulkEntries r
def uptoBulkEntry {H : Type} : Lit × DataW H → Nat
  | (.string bytes, d) => bytes.length + uptoBulk d + 1
  | (_, d) => uptoBulk d + 1
 end
def uptoSmall : (H : Type) → List (DataW H) → Bool := fun _ ds => decide (uptoBulkAll ds ≤ 1048576)
def OpenSpec.upto (s : _root_.Go.ChangeSpec) : _root_.Go.OpenSpec := { _root_.Go.OpenSpec.ofChange s with cond := some uptoSmall }

/-- 'baggagelaw19.EarlyDecides', WHERE WHAT IT READS IS OF BULK AT MOST 1048576: true; the input reads as it did. -/
def earlyDecidesUptoRow : OpenClaim := { program := "ytbajmbegkacbbaa", sum := "e24259214ca51d491bd91aaf53641cf45ae5346d4de79478756d6bef4b21fcaa", func := "baggage/baggagelaw19.EarlyDecides", spec := "earlyDecides", unfollowed := true, recurses := true, apart := false, narrowed := true }
def EarlyDecidesUptoSaid : Prop := earlyDecidesUptoRow.holds Try.pinned (OpenSpec.upto earlyDecidesSpec)

/-- 'baggagelaw19.EarlyReleases', WHERE WHAT IT READS IS OF BULK AT MOST 1048576: true; the input reads as it did. -/
def earlyReleasesUptoRow : OpenClaim := { program := "ytbajmbegkacbbaa", sum := "e24259214ca51d491bd91aaf53641cf45ae5346d4de79478756d6bef4b21fcaa", func := "baggage/baggagelaw19.EarlyReleases", spec := "earlyReleases", unfollowed := true, recurses := true, apart := false, narrowed := true }
def EarlyReleasesUptoSaid : Prop := earlyReleasesUptoRow.holds Try.pinned (OpenSpec.upto earlyReleasesSpec)

/-- 'baggagelaw19.EarlyMargin', WHERE WHAT IT READS IS OF BULK AT MOST 1048576: true; the input reads as it did. -/
def earlyMarginUptoRow : OpenClaim := { program := "ytbajmbegkacbbaa", sum := "e24259214ca51d491bd91aaf53641cf45ae5346d4de79478756d6bef4b21fcaa", func := "baggage/baggagelaw19.EarlyMargin", spec := "earlyMargin", unfollowed := true, recurses := true, apart := false, narrowed := true }
def EarlyMarginUptoSaid : Prop := earlyMarginUptoRow.holds Try.pinned (OpenSpec.upto earlyMarginSpec)

end Rows
end Go.Proofs.Ytbajmbegkacbbaa
