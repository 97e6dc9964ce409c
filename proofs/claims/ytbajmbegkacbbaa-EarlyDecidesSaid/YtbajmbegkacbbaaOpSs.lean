/-
  Opening an argument that is a slice of stored bags: the list that it reads as.
-/
import Derived.Test.YtbajmbegkacbbaaEarA
import Derived.Test.YtbajmbegkacbbaaOpN
import Derived.Deep.SlicePairs
namespace Go.Proofs.Ytbajmbegkacbbaa
open Go.ChangeShapes Go.WideShapes Go.ChangeAt Go.RowKit Go.Joins

theorem cellsSb : Try.prog.cellsOf 33 = 2 := by kernel_rfl
theorem cellsInt1 : Try.prog.cellsOf 3 = 1 := by kernel_rfl
set_option maxRecDepth 100000 in
theorem law_storeds {H : Type} {enc : TypeId × Value → H} {W : World} {base : Nat} {v : Value} {d : DataW H} {p : List MemPlace} (hv : Value.okWide Try.prog W .any base 22 v) (h : DataW.Trod enc Try.prog W 0 (fun _ => true) true 22 v d p) :
    ∃ (A : Option Addr) (X : List Sb) (cap : Nat), X.length ≤ cap ∧ SbIn W.heap.size W A X ∧ v = .slice A X.length cap := by
  obtain ⟨a0, len, cap, rfl⟩ := okWide_slice Try.underlying22 hv
  obtain ⟨fuel, hf⟩ := h
  rcases Deep.open_slice_pairs Try.underlying22 Try.underlying33 cellsSb rfl rfl cellsInt1 cellsInt1 hf with ⟨hcs, _⟩ | ⟨a, l, c, m, n, V0, V1, D0, D1, P0, P1, hcs, _, hl, _, hm, _, hx⟩
  · simp [Value.cells] at hcs
    obtain ⟨rfl, rfl, rfl⟩ := hcs
    exact ⟨none, [], 0, Nat.le_refl _, RowIn.nil, rfl⟩
  · simp [Value.cells] at hcs
    obtain ⟨rfl, rfl, rfl⟩ := hcs
    have hm' : m = cap := by simpa using hm
    have hall : ∀ i, i < len → ∃ q : Sb, W.cell? (a.add (i * 2)) = some (.int .i64 q.1) ∧ W.cell? (a.add (i * 2 + 1)) = some (.int .i64 q.2) := fun i hi => by
      obtain ⟨e0, e1, t0, t1⟩ := hx i (by omega)
      obtain ⟨x0, y0, _, _⟩ := DataW.trod_int Try.underlying3 t0
      obtain ⟨x1, y1, _, _⟩ := DataW.trod_int Try.underlying3 t1
      simp at y0 y1
      rw [y0] at e0
      rw [y1] at e1
      exact ⟨(x0, x1), e0, e1⟩
    obtain ⟨f, hF⟩ := Deep.choose_lt (α := Sb) (p := fun i q => W.cell? (a.add (i * 2)) = some (.int .i64 q.1) ∧ W.cell? (a.add (i * 2 + 1)) = some (.int .i64 q.2)) (n := len) hall
    have hXl : ((List.range len).map f).length = len := by rw [List.length_map, List.length_range]
    refine ⟨some a, (List.range len).map f, cap, by rw [hXl]; exact hl, fun hpos => ?_, by rw [hXl]⟩
    rw [hXl] at hpos
    obtain ⟨b, off, spot⟩ := a
    have h0 := (hF 0 hpos).1
    have hs : spot = none := by simpa [Addr.add] using World.cell?_spot h0
    subst hs
    have ad : ∀ (o j : Nat), (⟨b, o, none⟩ : Addr).add j = ⟨b, o + j, none⟩ := fun o j => by unfold Addr.add; split <;> simp_all
    refine ⟨b, off, rfl, ?_, fun j u hu => ?_⟩
    · rw [ad] at h0
      have := World.block_lt_of_cell? W _ h0
      simp only [] at this; omega
    · have hj : j < len * 2 := by have := (List.getElem?_eq_some_iff.1 hu).1; rwa [flatK_len sbC 2 sbC_len, hXl] at this
      obtain ⟨i, k, hk, rfl⟩ : ∃ i k, k < 2 ∧ j = i * 2 + k := ⟨j / 2, j % 2, by omega, by omega⟩
      have hi : i < ((List.range len).map f).length := by rw [hXl]; omega
      rw [flatK_at sbC 2 sbC_len _ i hi k hk, List.getElem_map, List.getElem_range] at hu
      obtain ⟨g0, g1⟩ := hF i (by omega)
      rw [ad] at g0 g1
      match k, hk with
      | 0, _ => rw [Nat.add_zero, g0]; exact hu
      | 1, _ => rw [g1]; exact hu
end Go.Proofs.Ytbajmbegkacbbaa
