/-
  No cell of these rows narrows 'for every input' (looked for: loops, veiled, ifaces, maps, wideKeys, modest, calm, conditions, laid).
  DERIVED. THE GIVEN ROWS OF THIS SEAT. 6 by the template 'for every input the law returns true; each argument reads behind the call as it read before'; 0 by the template 'total and deterministic' (their statements: YtmmhchhekmcihaaTotals.lean).
  GIVEN WITH THE SEED: the statements are not yours to turn. If you find one false, say at which input.
  Laid BY PROGRAM, IN A SANDBOX (cutbox-rows.mjs): the forced cells as the released guide's own fill.sh prints them over the translation 7e576e4d227a5065… (all of the seat's roots in one cut). By AI agents, Wed Nov 11 2026. No macro, syntax, notation, axiom, sorry.
-/
import Derived.Test.YtmmhchhekmcihaaChecked
import GoSem.Claim
import GoSem.ClaimJoined
import GoSem.ClaimMapViews
import Derived.JoinedTies
import Derived.KernelRfl
namespace Go.Proofs.Ytmmhchhekmcihaa
/- THE CELL 'sum', in the pinned program and in every row, IS THE sha256 OF THE DUMP (.gsa) THAT YtmmhchhekmcihaaProg.lean LOADS. Nothing in Lean hashes anything: it is a label: what it is worth is what the hold of that sum in a sandbox is worth. -/
noncomputable def Try.pinned : Pinned := { name := "ytmmhchhekmcihaa", sum := "7e576e4d227a50650c6cc76dba0e997a946c4607d104a1eff27e8fed5b077ed1", checked := Try.checked }
namespace Rows
def none {H : Type} : Left H := { results := [], args := [] }

/-- 'baggagelaw17.LanesAssigns': WHATEVER THE INPUT: true; the input reads as it did. -/
def lanesAssignsSpec : ChangeSpec := { name := "lanesAssigns", fn := fun _ => fun
  | [d1, d2, d3] => { results := [.lit (.bool true)], args := [d1, d2, d3] }
  | _ => none }
def lanesAssignsRow : OpenClaim := { program := "ytmmhchhekmcihaa", sum := "7e576e4d227a50650c6cc76dba0e997a946c4607d104a1eff27e8fed5b077ed1", func := "baggage/baggagelaw17.LanesAssigns", spec := "lanesAssigns", unfollowed := true, recurses := true, apart := false }
def LanesAssignsSaid : Prop := lanesAssignsRow.holds Try.pinned (OpenSpec.ofChange lanesAssignsSpec)

/-- ITS FALSE NEIGHBOUR: 'it returns false'. Refute it at one input. -/
def lanesAssignsWrong : ChangeSpec := { name := "lanesAssigns", fn := fun _ => fun
  | [d1, d2, d3] => { results := [.lit (.bool false)], args := [d1, d2, d3] }
  | _ => none }
def LanesAssignsWrongFalsely : Prop := lanesAssignsRow.holds Try.pinned (OpenSpec.ofChange lanesAssignsWrong)

/-- 'baggagelaw17.LanesCertificate': WHATEVER THE INPUT: true; the input reads as it did. -/
def lanesCertificateSpec : ChangeSpec := { name := "lanesCertificate", fn := fun _ => fun
  | [d] => { results := [.lit (.bool true)], args := [d] }
  | _ => none }
def lanesCertificateRow : OpenClaim := { program := "ytmmhchhekmcihaa", sum := "7e576e4d227a50650c6cc76dba0e997a946c4607d104a1eff27e8fed5b077ed1", func := "baggage/baggagelaw17.LanesCertificate", spec := "lanesCertificate", unfollowed := true, recurses := true, apart := false }
def LanesCertificateSaid : Prop := lanesCertificateRow.holds Try.pinned (OpenSpec.ofChange lanesCertificateSpec)

/-- ITS FALSE NEIGHBOUR: 'it returns false'. Refute it at one input. -/
def lanesCertificateWrong : ChangeSpec := { name := "lanesCertificate", fn := fun _ => fun
  | [d] => { results := [.lit (.bool false)], args := [d] }
  | _ => none }
def LanesCertificateWrongFalsely : Prop := lanesCertificateRow.holds Try.pinned (OpenSpec.ofChange lanesCertificateWrong)

/-- 'baggagelaw17.LanesLeast': WHATEVER THE INPUT: true; the input reads as it did. -/
def lanesLeastSpec : ChangeSpec := { name := "lanesLeast", fn := fun _ => fun
  | [d1, d2] => { results := [.lit (.bool true)], args := [d1, d2] }
  | _ => none }
def lanesLeastRow : OpenClaim := { program := "ytmmhchhekmcihaa", sum := "7e576e4d227a50650c6cc76dba0e997a946c4607d104a1eff27e8fed5b077ed1", func := "baggage/baggagelaw17.LanesLeast", spec := "lanesLeast", unfollowed := true, recurses := true, apart := false }
def LanesLeastSaid : Prop := lanesLeastRow.holds Try.pinned (OpenSpec.ofChange lanesLeastSpec)

/-- ITS FALSE NEIGHBOUR: 'it returns false'. Refute it at one input. -/
def lanesLeastWrong : ChangeSpec := { name := "lanesLeast", fn := fun _ => fun
  | [d1, d2] => { results := [.lit (.bool false)], args := [d1, d2] }
  | _ => none }
def LanesLeastWrongFalsely : Prop := lanesLeastRow.holds Try.pinned (OpenSpec.ofChange lanesLeastWrong)

/-- 'baggagelaw17.LanesStore': WHATEVER THE INPUT: true; the input reads as it did. -/
def lanesStoreSpec : ChangeSpec := { name := "lanesStore", fn := fun _ => fun
  | [d1, d2, d3, d4] => { results := [.lit (.bool true)], args := [d1, d2, d3, d4] }
  | _ => none }
def lanesStoreRow : OpenClaim := { program := "ytmmhchhekmcihaa", sum := "7e576e4d227a50650c6cc76dba0e997a946c4607d104a1eff27e8fed5b077ed1", func := "baggage/baggagelaw17.LanesStore", spec := "lanesStore", unfollowed := true, recurses := true, apart := false }
def LanesStoreSaid : Prop := lanesStoreRow.holds Try.pinned (OpenSpec.ofChange lanesStoreSpec)

/-- ITS FALSE NEIGHBOUR: 'it returns false'. Refute it at one input. -/
def lanesStoreWrong : ChangeSpec := { name := "lanesStore", fn := fun _ => fun
  | [d1, d2, d3, d4] => { results := [.lit (.bool false)], args := [d1, d2, d3, d4] }
  | _ => none }
def LanesStoreWrongFalsely : Prop := lanesStoreRow.holds Try.pinned (OpenSpec.ofChange lanesStoreWrong)

/-- 'baggagelaw17.LanesFree': WHATEVER THE INPUT: true; the input reads as it did. -/
def lanesFreeSpec : ChangeSpec := { name := "lanesFree", fn := fun _ => fun
  | [d] => { results := [.lit (.bool true)], args := [d] }
  | _ => none }
def lanesFreeRow : OpenClaim := { program := "ytmmhchhekmcihaa", sum := "7e576e4d227a50650c6cc76dba0e997a946c4607d104a1eff27e8fed5b077ed1", func := "baggage/baggagelaw17.LanesFree", spec := "lanesFree", unfollowed := true, recurses := true, apart := false }
def LanesFreeSaid : Prop := lanesFreeRow.holds Try.pinned (OpenSpec.ofChange lanesFreeSpec)

/-- ITS FALSE NEIGHBOUR: 'it returns false'. Refute it at one input. -/
def lanesFreeWrong : ChangeSpec := { name := "lanesFree", fn := fun _ => fun
  | [d] => { results := [.lit (.bool false)], args := [d] }
  | _ => none }
def LanesFreeWrongFalsely : Prop := lanesFreeRow.holds Try.pinned (OpenSpec.ofChange lanesFreeWrong)

/-- 'baggagelaw17.LanesKeeps': WHATEVER THE INPUT: true; the input reads as it did. -/
def lanesKeepsSpec : ChangeSpec := { name := "lanesKeeps", fn := fun _ => fun
  | [d1, d2] => { results := [.lit (.bool true)], args := [d1, d2] }
  | _ => none }
def lanesKeepsRow : OpenClaim := { program := "ytmmhchhekmcihaa", sum := "7e576e4d227a50650c6cc76dba0e997a946c4607d104a1eff27e8fed5b077ed1", func := "baggage/baggagelaw17.LanesKeeps", spec := "lanesKeeps", unfollowed := true, recurses := true, apart := false }
def LanesKeepsSaid : Prop := lanesKeepsRow.holds Try.pinned (OpenSpec.ofChange lanesKeepsSpec)

/-- ITS FALSE NEIGHBOUR: 'it returns false'. Refute it at one input. -/
def lanesKeepsWrong : ChangeSpec := { name := "lanesKeeps", fn := fun _ => fun
  | [d1, d2] => { results := [.lit (.bool false)], args := [d1, d2] }
  | _ => none }
def LanesKeepsWrongFalsely : Prop := lanesKeepsRow.holds Try.pinned (OpenSpec.ofChange lanesKeepsWrong)

/- THE SECOND FORM. 'bulk': how many values and letters a reading holds, each counted each time it is reached (what is shared counts as often as it is met; a slice's spare places count too). A statement '..UptoSaid' is the law's where the arguments, and the package variables that the reading takes, are together of bulk at most 1048576: NARROWER than '..Said'. Prove '..Said' where nothing that the law and all that it calls make is longer than what came in: it says more and counts as full. Else prove '..UptoSaid'. A law counts once. -/
mutual
def uptoBulk {H : Type} : DataW H → Nat
  | .lit (.string bytes) => bytes.length + 1
  | .lit _ => 1
  | .nil => 1
  | .ptr d => uptoBulk d + 1
  | .slice elems spare => uptoBulkAll elems + uptoBulkAll spare + 1
  | .agg parts => uptoBulkAll parts + 1
  | .iface _ d => uptoBulk d + 1
  | .map entries => uptoBulkEntries entries + 1
  | .held _ => 1
def uptoBulkAll {H : Type} : List (DataW H) → Nat
  | [] => 0
  | d :: r => uptoBulk d + uptoBulkAll r
def uptoBulkEntries {H : Type} : List (Lit × DataW H) → Nat
  | [] => 0
  | x :: r => uptoBulkEntry x + uptoBulkEntries r
def uptoBulkEntry {H : Type} : Lit × DataW H → Nat
  | (.string bytes, d) => bytes.length + uptoBulk d + 1
  | (_, d) => uptoBulk d + 1
 end
def uptoSmall : (H : Type) → List (DataW H) → Bool := fun _ ds => decide (uptoBulkAll ds ≤ 1048576)
def OpenSpec.upto (s : _root_.Go.ChangeSpec) : _root_.Go.OpenSpec := { _root_.Go.OpenSpec.ofChange s with cond := some uptoSmall }

/-- 'baggagelaw17.LanesAssigns', WHERE WHAT IT READS IS OF BULK AT MOST 1048576: true; the input reads as it did. -/
def lanesAssignsUptoRow : OpenClaim := { program := "ytmmhchhekmcihaa", sum := "7e576e4d227a50650c6cc76dba0e997a946c4607d104a1eff27e8fed5b077ed1", func := "baggage/baggagelaw17.LanesAssigns", spec := "lanesAssigns", unfollowed := true, recurses := true, apart := false, narrowed := true }
def LanesAssignsUptoSaid : Prop := lanesAssignsUptoRow.holds Try.pinned (OpenSpec.upto lanesAssignsSpec)

/-- 'baggagelaw17.LanesCertificate', WHERE WHAT IT READS IS OF BULK AT MOST 1048576: true; the input reads as it did. -/
def lanesCertificateUptoRow : OpenClaim := { program := "ytmmhchhekmcihaa", sum := "7e576e4d227a50650c6cc76dba0e997a946c4607d104a1eff27e8fed5b077ed1", func := "baggage/baggagelaw17.LanesCertificate", spec := "lanesCertificate", unfollowed := true, recurses := true, apart := false, narrowed := true }
def LanesCertificateUptoSaid : Prop := lanesCertificateUptoRow.holds Try.pinned (OpenSpec.upto lanesCertificateSpec)

/-- 'baggagelaw17.LanesLeast', WHERE WHAT IT READS IS OF BULK AT MOST 1048576: true; the input reads as it did. -/
def lanesLeastUptoRow : OpenClaim := { program := "ytmmhchhekmcihaa", sum := "7e576e4d227a50650c6cc76dba0e997a946c4607d104a1eff27e8fed5b077ed1", func := "baggage/baggagelaw17.LanesLeast", spec := "lanesLeast", unfollowed := true, recurses := true, apart := false, narrowed := true }
def LanesLeastUptoSaid : Prop := lanesLeastUptoRow.holds Try.pinned (OpenSpec.upto lanesLeastSpec)

/-- 'baggagelaw17.LanesStore', WHERE WHAT IT READS IS OF BULK AT MOST 1048576: true; the input reads as it did. -/
def lanesStoreUptoRow : OpenClaim := { program := "ytmmhchhekmcihaa", sum := "7e576e4d227a50650c6cc76dba0e997a946c4607d104a1eff27e8fed5b077ed1", func := "baggage/baggagelaw17.LanesStore", spec := "lanesStore", unfollowed := true, recurses := true, apart := false, narrowed := true }
def LanesStoreUptoSaid : Prop := lanesStoreUptoRow.holds Try.pinned (OpenSpec.upto lanesStoreSpec)

/-- 'baggagelaw17.LanesFree', WHERE WHAT IT READS IS OF BULK AT MOST 1048576: true; the input reads as it did. -/
def lanesFreeUptoRow : OpenClaim := { program := "ytmmhchhekmcihaa", sum := "7e576e4d227a50650c6cc76dba0e997a946c4607d104a1eff27e8fed5b077ed1", func := "baggage/baggagelaw17.LanesFree", spec := "lanesFree", unfollowed := true, recurses := true, apart := false, narrowed := true }
def LanesFreeUptoSaid : Prop := lanesFreeUptoRow.holds Try.pinned (OpenSpec.upto lanesFreeSpec)

/-- 'baggagelaw17.LanesKeeps', WHERE WHAT IT READS IS OF BULK AT MOST 1048576: true; the input reads as it did. -/
def lanesKeepsUptoRow : OpenClaim := { program := "ytmmhchhekmcihaa", sum := "7e576e4d227a50650c6cc76dba0e997a946c4607d104a1eff27e8fed5b077ed1", func := "baggage/baggagelaw17.LanesKeeps", spec := "lanesKeeps", unfollowed := true, recurses := true, apart := false, narrowed := true }
def LanesKeepsUptoSaid : Prop := lanesKeepsUptoRow.holds Try.pinned (OpenSpec.upto lanesKeepsSpec)

end Rows
end Go.Proofs.Ytmmhchhekmcihaa
