/-
  Opening an argument that is a slice of numbers: the list that it reads as.
-/
import Derived.Test.YtbajmbegkacbbaaNumR
import Derived.Test.YtbajmbegkacbbaaLibOB
import Derived.Lib.SmallJoins
namespace Go.Proofs.Ytbajmbegkacbbaa
open Go.ChangeShapes Go.WideShapes Go.ChangeAt Go.RowKit Go.Joins

theorem getD_take {l : List Int} {n i : Nat} (h : i < n) : (l.take n).getD i 0 = l.getD i 0 := by
  rw [List.getD_eq_getElem?_getD, List.getD_eq_getElem?_getD, List.getElem?_take, if_pos h]
section
variable {H : Type} {enc : TypeId × Value → H} {W : World}
theorem nums_trod {fuel : Nat} {cs : List Value} {y : DataW H × List MemPlace} (hf : DataW.trod enc Try.prog W 0 (fun _ => true) true fuel 23 cs = some y) :
    ∃ (A : Option Addr) (X : List Int) (cap : Nat), cs = [.slice A X.length cap] ∧ X.length ≤ cap ∧ NumsIn W.heap.size W A X ∧ (∀ x ∈ X, (Lit.int .i64 x).wf = true) := by
  rcases open_ints Try.underlying23 Try.underlying3 (by kernel_rfl) hf with ⟨hcs, _⟩ | ⟨a, l, c, zs, hcs, _, hl, _, hz, _, hcell, hwf⟩
  · exact ⟨none, [], 0, hcs, Nat.le_refl _, NumsIn.nil _ _ _, fun x hx => by cases hx⟩
  · have hz' : zs.length = c := by simpa using hz
    have hl' : (zs.take l).length = l := by rw [List.length_take]; omega
    refine ⟨some a, zs.take l, c, by rw [hl']; exact hcs, by omega, fun hpos => ?_, fun x hx => hwf x (List.mem_of_mem_take hx)⟩
    obtain ⟨b, off, spot⟩ := a
    have h0 := hcell 0 (by omega)
    have hs : spot = none := by simpa [Addr.add] using World.cell?_spot h0
    subst hs
    have ad : ∀ (o j : Nat), (⟨b, o, none⟩ : Addr).add j = ⟨b, o + j, none⟩ := fun o j => by unfold Addr.add; split <;> simp_all
    refine ⟨b, off, rfl, ?_, fun i hi => ?_⟩
    · rw [ad] at h0
      have := World.block_lt_of_cell? W _ h0
      simp only [] at this; omega
    · rw [getD_take (by omega), ← ad]; exact hcell i (by omega)
end
set_option maxRecDepth 100000 in
theorem law_nums {H : Type} {enc : TypeId × Value → H} {W : World} {base : Nat} {v : Value} {d : DataW H} {p : List MemPlace} (hv : Value.okWide Try.prog W .any base 23 v) (h : DataW.Trod enc Try.prog W 0 (fun _ => true) true 23 v d p) :
    ∃ (A : Option Addr) (X : List Int) (cap : Nat), X.length ≤ cap ∧ NumsIn W.heap.size W A X ∧ (∀ x ∈ X, (Lit.int .i64 x).wf = true) ∧ v = .slice A X.length cap := by
  obtain ⟨a0, len, cap, rfl⟩ := okWide_slice Try.underlying23 hv
  obtain ⟨fuel, hf⟩ := h
  obtain ⟨A, X, c, hcs, h1, h2, h3⟩ := nums_trod hf
  simp [Value.cells] at hcs
  obtain ⟨rfl, rfl, rfl⟩ := hcs
  exact ⟨_, _, _, h1, h2, h3, rfl⟩
end Go.Proofs.Ytbajmbegkacbbaa
