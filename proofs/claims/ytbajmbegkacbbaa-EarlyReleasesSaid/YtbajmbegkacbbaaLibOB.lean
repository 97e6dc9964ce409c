/-
  Openers: numbers, strings; the reader's parts of a telegram.
-/
import Derived.Test.YtbajmbegkacbbaaRows
import Derived.WalkKit
import Derived.ProofKit
import Derived.OpenShut
import Derived.ShutString
import Derived.Lib.SmallJoins
import Derived.Test.YtbajmbegkacbbaaLibB
import Derived.Deep.Strs

/- LibOB: Opening the arguments of the laws: an integer, a string, a byte, a slice of integers. -/
/- OpenB -/
namespace Go.Proofs.Ytbajmbegkacbbaa
open Go.ChangeShapes Go.WideShapes Go.ChangeAt Go.RowKit Go.Joins
open Go.ChangeMaps (open_string shut_string)

section
variable {H : Type} {enc : TypeId × Value → H} {W : World} {base : Nat} {v : Value} {d : DataW H} {p : List MemPlace}
theorem lawOwn : ownKnob Try.prog.godebug = none := by kernel_rfl
theorem lawLaidOut : laidOutB Try.prog = true := by kernel_rfl
set_option maxRecDepth 100000 in
theorem law_int (hv : Value.okWide Try.prog W .any base 3 v) (h : DataW.Trod enc Try.prog W 0 (fun _ => true) true 3 v d p) : ∃ x : Int, (Lit.int .i64 x).wf = true ∧ v = .int .i64 x := by
  obtain ⟨x, rfl, rfl, rfl, wx⟩ := open_int Try.underlying3 hv h
  exact ⟨x, wx, rfl⟩
set_option maxRecDepth 100000 in
theorem law_str (hv : Value.okWide Try.prog W .any base 9 v) (h : DataW.Trod enc Try.prog W 0 (fun _ => true) true 9 v d p) : ∃ x : ByteArray, x.size ≤ maxLen ∧ v = .string x := by
  obtain ⟨x, rfl, rfl, rfl, wx⟩ := open_string Try.underlying9 hv h
  exact ⟨x, wx, rfl⟩
end
end Go.Proofs.Ytbajmbegkacbbaa

/- OpenI: Opening an argument that is a slice of integers. -/
namespace Go.Proofs.Ytbajmbegkacbbaa
open Go.ChangeShapes Go.WideShapes Go.ChangeAt Go.RowKit Go.Joins

set_option maxRecDepth 100000 in
theorem law_ints {H : Type} {enc : TypeId × Value → H} {W : World} {base : Nat} {v : Value} {d : DataW H} {p : List MemPlace} (hv : Value.okWide Try.prog W .any base 23 v) (h : DataW.Trod enc Try.prog W 0 (fun _ => true) true 23 v d p) :
    ∃ (A : Option Addr) (len cap : Nat), len ≤ cap ∧ IntsIn W.heap.size W A len ∧ v = .slice A len cap := by
  obtain ⟨a0, len, cap, rfl⟩ := okWide_slice Try.underlying23 hv
  obtain ⟨fuel, hf⟩ := h
  rcases open_ints Try.underlying23 Try.underlying3 (by kernel_rfl) hf with ⟨hcs, _⟩ | ⟨a, l, c, zs, hcs, _, hl, _, hz, _, hcell, _⟩
  · simp [Value.cells] at hcs
    obtain ⟨rfl, rfl, rfl⟩ := hcs
    exact ⟨none, 0, 0, Nat.le_refl _, fun h => absurd h (by omega), rfl⟩
  · simp [Value.cells] at hcs
    obtain ⟨rfl, rfl, rfl⟩ := hcs
    have hz' : zs.length = cap := by simpa using hz
    refine ⟨some a, len, cap, hl, fun hpos => ?_, rfl⟩
    obtain ⟨b, off, spot⟩ := a
    have h0 := hcell 0 (by omega)
    have hs : spot = none := by simpa [Addr.add] using World.cell?_spot h0
    subst hs
    have ad : ∀ (o j : Nat), (⟨b, o, none⟩ : Addr).add j = ⟨b, o + j, none⟩ := fun o j => by unfold Addr.add; split <;> simp_all
    refine ⟨b, off, rfl, ?_, fun i hi => ⟨_, by rw [← ad]; exact hcell i (by omega)⟩⟩
    rw [ad] at h0
    exact World.block_lt_of_cell? W _ h0
end Go.Proofs.Ytbajmbegkacbbaa

/- TelL: Contract of the reader's Letters: some capital letters. -/
namespace Go.Proofs.Ytbajmbegkacbbaa
open Go.RowKit

theorem info_u8b : (Try.prog.info? 5).map (fun i => (i.zero, i.size, i.bytes)) = some (some (.int .u8 0), 1, 1) := by kernel_rfl
def lettersOf (g : Nat → Int) (K : Nat) : ByteArray := strOfNums ((List.range K).map g)
theorem lettersOf_size (g : Nat → Int) (K : Nat) : (lettersOf g K).size = K := by unfold lettersOf; rw [strOfNums_size]; simp
theorem lettersOf_let {g : Nat → Int} {K : Nat} (h : ∀ j, j < K → 65 ≤ g j ∧ g j ≤ 90) : allLet (lettersOf g K).data.toList = true := by
  unfold lettersOf
  rw [strOfNums_data]
  unfold allLet
  rw [List.all_map, List.all_map, List.all_eq_true]
  intro j hj
  have := h j (List.mem_range.1 hj)
  simp [isLet, isLe]
  omega
theorem row_reads {w w' : World} {bb b : Nat} {t : TypeId} {n : Nat} {f : Nat → Value} (h : w.rowIs bb t n f) (hg : w.grownBy w' (some b)) (hne : bb ≠ b) : w'.rowIs bb t n f :=
  h.of_block (hg.block bb h.lt (by simpa using hne))

end Go.Proofs.Ytbajmbegkacbbaa
