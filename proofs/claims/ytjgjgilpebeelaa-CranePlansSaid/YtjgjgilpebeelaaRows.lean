/-
  No cell of these rows narrows 'for every input' (looked for: loops, veiled, ifaces, maps, wideKeys, modest, calm, conditions, laid).
  DERIVED. THE GIVEN ROWS OF THIS SEAT. 5 by the template 'for every input the law returns true; each argument reads behind the call as it read before'; 0 by the template 'total and deterministic' (their statements: YtjgjgilpebeelaaTotals.lean).
  GIVEN WITH THE SEED: the statements are not yours to turn. If you find one false, say at which input.
  Laid BY PROGRAM, IN A SANDBOX (cutbox-rows.mjs): the forced cells as the released guide's own fill.sh prints them over the translation d5001a843db971db… (all of the seat's roots in one cut). By AI agents, Wed Nov 11 2026. No macro, syntax, notation, axiom, sorry.
-/
import Derived.Test.YtjgjgilpebeelaaChecked
import GoSem.Claim
import GoSem.ClaimJoined
import GoSem.ClaimMapViews
import Derived.JoinedTies
import Derived.KernelRfl
namespace Go.Proofs.Ytjgjgilpebeelaa
/- THE CELL 'sum', in the pinned program and in every row, IS THE sha256 OF THE DUMP (.gsa) THAT YtjgjgilpebeelaaProg.lean LOADS. Nothing in Lean hashes anything: it is a label: what it is worth is what the hold of that sum in a sandbox is worth. -/
noncomputable def Try.pinned : Pinned := { name := "ytjgjgilpebeelaa", sum := "d5001a843db971dbf09d60f91a9d13edc60b354850fe3a85ffde927c0019e741", checked := Try.checked }
namespace Rows
def none {H : Type} : Left H := { results := [], args := [] }

/-- 'baggagelaw18.CranePlans': WHATEVER THE INPUT: true; the input reads as it did. -/
def cranePlansSpec : ChangeSpec := { name := "cranePlans", fn := fun _ => fun
  | [d1, d2, d3, d4, d5, d6] => { results := [.lit (.bool true)], args := [d1, d2, d3, d4, d5, d6] }
  | _ => none }
def cranePlansRow : OpenClaim := { program := "ytjgjgilpebeelaa", sum := "d5001a843db971dbf09d60f91a9d13edc60b354850fe3a85ffde927c0019e741", func := "baggage/baggagelaw18.CranePlans", spec := "cranePlans", unfollowed := true, recurses := true, apart := false }
def CranePlansSaid : Prop := cranePlansRow.holds Try.pinned (OpenSpec.ofChange cranePlansSpec)

/-- ITS FALSE NEIGHBOUR: 'it returns false'. Refute it at one input. -/
def cranePlansWrong : ChangeSpec := { name := "cranePlans", fn := fun _ => fun
  | [d1, d2, d3, d4, d5, d6] => { results := [.lit (.bool false)], args := [d1, d2, d3, d4, d5, d6] }
  | _ => none }
def CranePlansWrongFalsely : Prop := cranePlansRow.holds Try.pinned (OpenSpec.ofChange cranePlansWrong)

/-- 'baggagelaw18.CraneCertificate': WHATEVER THE INPUT: true; the input reads as it did. -/
def craneCertificateSpec : ChangeSpec := { name := "craneCertificate", fn := fun _ => fun
  | [d] => { results := [.lit (.bool true)], args := [d] }
  | _ => none }
def craneCertificateRow : OpenClaim := { program := "ytjgjgilpebeelaa", sum := "d5001a843db971dbf09d60f91a9d13edc60b354850fe3a85ffde927c0019e741", func := "baggage/baggagelaw18.CraneCertificate", spec := "craneCertificate", unfollowed := true, recurses := true, apart := false }
def CraneCertificateSaid : Prop := craneCertificateRow.holds Try.pinned (OpenSpec.ofChange craneCertificateSpec)

/-- ITS FALSE NEIGHBOUR: 'it returns false'. Refute it at one input. -/
def craneCertificateWrong : ChangeSpec := { name := "craneCertificate", fn := fun _ => fun
  | [d] => { results := [.lit (.bool false)], args := [d] }
  | _ => none }
def CraneCertificateWrongFalsely : Prop := craneCertificateRow.holds Try.pinned (OpenSpec.ofChange craneCertificateWrong)

/-- 'baggagelaw18.CraneBest': WHATEVER THE INPUT: true; the input reads as it did. -/
def craneBestSpec : ChangeSpec := { name := "craneBest", fn := fun _ => fun
  | [d1, d2] => { results := [.lit (.bool true)], args := [d1, d2] }
  | _ => none }
def craneBestRow : OpenClaim := { program := "ytjgjgilpebeelaa", sum := "d5001a843db971dbf09d60f91a9d13edc60b354850fe3a85ffde927c0019e741", func := "baggage/baggagelaw18.CraneBest", spec := "craneBest", unfollowed := true, recurses := true, apart := false }
def CraneBestSaid : Prop := craneBestRow.holds Try.pinned (OpenSpec.ofChange craneBestSpec)

/-- ITS FALSE NEIGHBOUR: 'it returns false'. Refute it at one input. -/
def craneBestWrong : ChangeSpec := { name := "craneBest", fn := fun _ => fun
  | [d1, d2] => { results := [.lit (.bool false)], args := [d1, d2] }
  | _ => none }
def CraneBestWrongFalsely : Prop := craneBestRow.holds Try.pinned (OpenSpec.ofChange craneBestWrong)

/-- 'baggagelaw18.CraneRelaxed': WHATEVER THE INPUT: true; the input reads as it did. -/
def craneRelaxedSpec : ChangeSpec := { name := "craneRelaxed", fn := fun _ => fun
  | [d1, d2, d3] => { results := [.lit (.bool true)], args := [d1, d2, d3] }
  | _ => none }
def craneRelaxedRow : OpenClaim := { program := "ytjgjgilpebeelaa", sum := "d5001a843db971dbf09d60f91a9d13edc60b354850fe3a85ffde927c0019e741", func := "baggage/baggagelaw18.CraneRelaxed", spec := "craneRelaxed", unfollowed := true, recurses := true, apart := false }
def CraneRelaxedSaid : Prop := craneRelaxedRow.holds Try.pinned (OpenSpec.ofChange craneRelaxedSpec)

/-- ITS FALSE NEIGHBOUR: 'it returns false'. Refute it at one input. -/
def craneRelaxedWrong : ChangeSpec := { name := "craneRelaxed", fn := fun _ => fun
  | [d1, d2, d3] => { results := [.lit (.bool false)], args := [d1, d2, d3] }
  | _ => none }
def CraneRelaxedWrongFalsely : Prop := craneRelaxedRow.holds Try.pinned (OpenSpec.ofChange craneRelaxedWrong)

/-- 'baggagelaw18.CraneFinish': WHATEVER THE INPUT: true; the input reads as it did. -/
def craneFinishSpec : ChangeSpec := { name := "craneFinish", fn := fun _ => fun
  | [d1, d2] => { results := [.lit (.bool true)], args := [d1, d2] }
  | _ => none }
def craneFinishRow : OpenClaim := { program := "ytjgjgilpebeelaa", sum := "d5001a843db971dbf09d60f91a9d13edc60b354850fe3a85ffde927c0019e741", func := "baggage/baggagelaw18.CraneFinish", spec := "craneFinish", unfollowed := true, recurses := true, apart := false }
def CraneFinishSaid : Prop := craneFinishRow.holds Try.pinned (OpenSpec.ofChange craneFinishSpec)

/-- ITS FALSE NEIGHBOUR: 'it returns false'. Refute it at one input. -/
def craneFinishWrong : ChangeSpec := { name := "craneFinish", fn := fun _ => fun
  | [d1, d2] => { results := [.lit (.bool false)], args := [d1, d2] }
  | _ => none }
def CraneFinishWrongFalsely : Prop := craneFinishRow.holds Try.pinned (OpenSpec.ofChange craneFinishWrong)

/- THE SECOND FORM. 'bulk': how many values and letters a reading holds, each counted each time it is reached (what is shared counts as often as it is met; a slice's spare places count too). A statement '..UptoSaid' is the law's where the arguments, and the package variables that the reading takes, are together of bulk at most 1048576: NARROWER than '..Said'. Prove '..Said' where nothing that the law and all that it calls make is longer than what came in: it says more and counts as full. Else prove '..UptoSaid'. A law counts once. -/
mutual
def uptoBulk {H : Type} : DataW H → Nat
  | .lit (.string bytes) => bytes.length + 1
  | .lit _ => 1
  | .nil => 1
  | .ptr d => uptoBulk d + 1
  | .slice elems spare => uptoBulkAll elems + uptoBulkAll spare + 1
  | .agg parts => uptoBulkAll parts + 1
  | .iface _ d => uptoBulk d + 1
  | .map entries => uptoBulkEntries entries + 1
  | .held _ => 1
def uptoBulkAll {H : Type} : List (DataW H) → Nat
  | [] => 0
  | d :: r => uptoBulk d + uptoBulkAll r
def uptoBulkEntries {H : Type} : List (Lit × DataW H) → Nat
  | [] => 0
  | x :: r => uptoBulkEntry x + uptoBulkEntries r
def uptoBulkEntry {H : Type} : Lit × DataW H → Nat
  | (.string bytes, d) => bytes.length + uptoBulk d + 1
  | (_, d) => uptoBulk d + 1
 end
def uptoSmall : (H : Type) → List (DataW H) → Bool := fun _ ds => decide (uptoBulkAll ds ≤ 1048576)
def OpenSpec.upto (s : _root_.Go.ChangeSpec) : _root_.Go.OpenSpec := { _root_.Go.OpenSpec.ofChange s with cond := some uptoSmall }

/-- 'baggagelaw18.CranePlans', WHERE WHAT IT READS IS OF BULK AT MOST 1048576: true; the input reads as it did. -/
def cranePlansUptoRow : OpenClaim := { program := "ytjgjgilpebeelaa", sum := "d5001a843db971dbf09d60f91a9d13edc60b354850fe3a85ffde927c0019e741", func := "baggage/baggagelaw18.CranePlans", spec := "cranePlans", unfollowed := true, recurses := true, apart := false, narrowed := true }
def CranePlansUptoSaid : Prop := cranePlansUptoRow.holds Try.pinned (OpenSpec.upto cranePlansSpec)

/-- 'baggagelaw18.CraneCertificate', WHERE WHAT IT READS IS OF BULK AT MOST 1048576: true; the input reads as it did. -/
def craneCertificateUptoRow : OpenClaim := { program := "ytjgjgilpebeelaa", sum := "d5001a843db971dbf09d60f91a9d13edc60b354850fe3a85ffde927c0019e741", func := "baggage/baggagelaw18.CraneCertificate", spec := "craneCertificate", unfollowed := true, recurses := true, apart := false, narrowed := true }
def CraneCertificateUptoSaid : Prop := craneCertificateUptoRow.holds Try.pinned (OpenSpec.upto craneCertificateSpec)

/-- 'baggagelaw18.CraneBest', WHERE WHAT IT READS IS OF BULK AT MOST 1048576: true; the input reads as it did. -/
def craneBestUptoRow : OpenClaim := { program := "ytjgjgilpebeelaa", sum := "d5001a843db971dbf09d60f91a9d13edc60b354850fe3a85ffde927c0019e741", func := "baggage/baggagelaw18.CraneBest", spec := "craneBest", unfollowed := true, recurses := true, apart := false, narrowed := true }
def CraneBestUptoSaid : Prop := craneBestUptoRow.holds Try.pinned (OpenSpec.upto craneBestSpec)

/-- 'baggagelaw18.CraneRelaxed', WHERE WHAT IT READS IS OF BULK AT MOST 1048576: true; the input reads as it did. -/
def craneRelaxedUptoRow : OpenClaim := { program := "ytjgjgilpebeelaa", sum := "d5001a843db971dbf09d60f91a9d13edc60b354850fe3a85ffde927c0019e741", func := "baggage/baggagelaw18.CraneRelaxed", spec := "craneRelaxed", unfollowed := true, recurses := true, apart := false, narrowed := true }
def CraneRelaxedUptoSaid : Prop := craneRelaxedUptoRow.holds Try.pinned (OpenSpec.upto craneRelaxedSpec)

/-- 'baggagelaw18.CraneFinish', WHERE WHAT IT READS IS OF BULK AT MOST 1048576: true; the input reads as it did. -/
def craneFinishUptoRow : OpenClaim := { program := "ytjgjgilpebeelaa", sum := "d5001a843db971dbf09d60f91a9d13edc60b354850fe3a85ffde927c0019e741", func := "baggage/baggagelaw18.CraneFinish", spec := "craneFinish", unfollowed := true, recurses := true, apart := false, narrowed := true }
def CraneFinishUptoSaid : Prop := craneFinishUptoRow.holds Try.pinned (OpenSpec.upto craneFinishSpec)

end Rows
end Go.Proofs.Ytjgjgilpebeelaa
