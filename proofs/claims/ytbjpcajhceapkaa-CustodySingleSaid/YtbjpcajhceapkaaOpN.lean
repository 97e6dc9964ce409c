/-
  Opening an argument that is a slice of numbers: the list that it reads as.
-/
import Derived.Test.YtbjpcajhceapkaaNumR
import Derived.Test.YtbjpcajhceapkaaLibOB
namespace Go.Proofs.Ytbjpcajhceapkaa
open Go.ChangeShapes Go.WideShapes Go.ChangeAt Go.RowKit Go.Joins

theorem getD_take {l : List Int} {n i : Nat} (h : i < n) : (l.take n).getD i 0 = l.getD i 0 := by
  rw [List.getD_eq_getElem?_getD, List.getD_eq_getElem?_getD, List.getElem?_take, if_pos h]
set_option maxRecDepth 100000 in
theorem law_nums {H : Type} {enc : TypeId × Value → H} {W : World} {base : Nat} {v : Value} {d : DataW H} {p : List MemPlace} (hv : Value.okWide Try.prog W .any base 22 v) (h : DataW.Trod enc Try.prog W 0 (fun _ => true) true 22 v d p) :
    ∃ (A : Option Addr) (X : List Int) (cap : Nat), X.length ≤ cap ∧ NumsIn W.heap.size W A X ∧ (∀ x ∈ X, (Lit.int .i64 x).wf = true) ∧ v = .slice A X.length cap := by
  obtain ⟨a0, len, cap, rfl⟩ := okWide_slice Try.underlying22 hv
  obtain ⟨fuel, hf⟩ := h
  rcases open_ints Try.underlying22 Try.underlying3 (by kernel_rfl) hf with ⟨hcs, _⟩ | ⟨a, l, c, zs, hcs, _, hl, _, hz, _, hcell, hwf⟩
  · simp [Value.cells] at hcs
    obtain ⟨rfl, rfl, rfl⟩ := hcs
    exact ⟨none, [], 0, Nat.le_refl _, NumsIn.nil _ _ _, (fun x hx => by cases hx), rfl⟩
  · simp [Value.cells] at hcs
    obtain ⟨rfl, rfl, rfl⟩ := hcs
    have hz' : zs.length = cap := by simpa using hz
    have hl' : (zs.take len).length = len := by rw [List.length_take]; omega
    refine ⟨some a, zs.take len, cap, by omega, fun hpos => ?_, fun x hx => hwf x (List.mem_of_mem_take hx), by rw [hl']⟩
    obtain ⟨b, off, spot⟩ := a
    have h0 := hcell 0 (by omega)
    have hs : spot = none := by simpa [Addr.add] using World.cell?_spot h0
    subst hs
    have ad : ∀ (o j : Nat), (⟨b, o, none⟩ : Addr).add j = ⟨b, o + j, none⟩ := fun o j => by unfold Addr.add; split <;> simp_all
    refine ⟨b, off, rfl, ?_, fun i hi => ?_⟩
    · rw [ad] at h0
      have := World.block_lt_of_cell? W _ h0
      simp only [] at this; omega
    · rw [getD_take (by omega), ← ad]; exact hcell i (by omega)
end Go.Proofs.Ytbjpcajhceapkaa
