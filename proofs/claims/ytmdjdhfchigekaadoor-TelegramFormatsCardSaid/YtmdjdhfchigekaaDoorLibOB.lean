/-
  Opening the arguments of the laws: an integer, a string, a byte, a slice of integers.
-/
import Derived.Test.YtmdjdhfchigekaaDoorRows
import Derived.WalkKit
import Derived.ProofKit
import Derived.OpenShut
import Derived.ShutString
import Derived.Lib.SmallJoins
import Derived.Test.YtmdjdhfchigekaaDoorLibB
import Derived.Deep.Strs

/- OpenB -/
namespace Go.Proofs.YtmdjdhfchigekaaDoor
open Go.ChangeShapes Go.WideShapes Go.ChangeAt Go.RowKit Go.Joins
open Go.ChangeMaps (open_string shut_string)

section
variable {H : Type} {enc : TypeId × Value → H} {W : World} {base : Nat} {v : Value} {d : DataW H} {p : List MemPlace}
theorem lawOwn : ownKnob Tryd.prog.godebug = none := by kernel_rfl
theorem lawLaidOut : laidOutB Tryd.prog = true := by kernel_rfl
theorem law_int (hv : Value.okWide Tryd.prog W .any base 3 v) (h : DataW.Trod enc Tryd.prog W 0 (fun _ => true) true 3 v d p) : ∃ x : Int, (Lit.int .i64 x).wf = true ∧ v = .int .i64 x := by
  obtain ⟨x, rfl, rfl, rfl, wx⟩ := open_int Tryd.underlying3 hv h
  exact ⟨x, wx, rfl⟩
theorem law_str (hv : Value.okWide Tryd.prog W .any base 9 v) (h : DataW.Trod enc Tryd.prog W 0 (fun _ => true) true 9 v d p) : ∃ x : ByteArray, x.size ≤ maxLen ∧ v = .string x := by
  obtain ⟨x, rfl, rfl, rfl, wx⟩ := open_string Tryd.underlying9 hv h
  exact ⟨x, wx, rfl⟩
end
end Go.Proofs.YtmdjdhfchigekaaDoor

/- OpenI: Opening an argument that is a slice of integers. -/
namespace Go.Proofs.YtmdjdhfchigekaaDoor
open Go.ChangeShapes Go.WideShapes Go.ChangeAt Go.RowKit Go.Joins

theorem law_ints {H : Type} {enc : TypeId × Value → H} {W : World} {base : Nat} {v : Value} {d : DataW H} {p : List MemPlace} (hv : Value.okWide Tryd.prog W .any base 25 v) (h : DataW.Trod enc Tryd.prog W 0 (fun _ => true) true 25 v d p) :
    ∃ (A : Option Addr) (len cap : Nat), len ≤ cap ∧ IntsIn W.heap.size W A len ∧ v = .slice A len cap := by
  obtain ⟨a0, len, cap, rfl⟩ := okWide_slice Tryd.underlying25 hv
  obtain ⟨fuel, hf⟩ := h
  rcases open_ints Tryd.underlying25 Tryd.underlying3 (by kernel_rfl) hf with ⟨hcs, _⟩ | ⟨a, l, c, zs, hcs, _, hl, _, hz, _, hcell, _⟩
  · simp [Value.cells] at hcs
    obtain ⟨rfl, rfl, rfl⟩ := hcs
    exact ⟨none, 0, 0, Nat.le_refl _, fun h => absurd h (by omega), rfl⟩
  · simp [Value.cells] at hcs
    obtain ⟨rfl, rfl, rfl⟩ := hcs
    have hz' : zs.length = cap := by simpa using hz
    refine ⟨some a, len, cap, hl, fun hpos => ?_, rfl⟩
    obtain ⟨b, off, spot⟩ := a
    have h0 := hcell 0 (by omega)
    have hs : spot = none := by simpa [Addr.add] using World.cell?_spot h0
    subst hs
    have ad : ∀ (o j : Nat), (⟨b, o, none⟩ : Addr).add j = ⟨b, o + j, none⟩ := fun o j => by unfold Addr.add; split <;> simp_all
    refine ⟨b, off, rfl, ?_, fun i hi => ⟨_, by rw [← ad]; exact hcell i (by omega)⟩⟩
    rw [ad] at h0
    exact World.block_lt_of_cell? W _ h0
end Go.Proofs.YtmdjdhfchigekaaDoor
