/-
  Rows of structs: cells written into a row that a call owns, a row cut short, zeroed ends (slices.Delete at any struct wants them).
-/
import Derived.Test.YtbajmbegkacbbaaInsK
import Derived.Deep.RegionLaw
import Derived.Lib.SliceRun
namespace Go.Proofs.Ytbajmbegkacbbaa
open Go.RowKit

theorem own_setCells {B m n c g size : Nat} {t : TypeId} : ∀ (vs : List Value) (o : Nat) (w : World) (xs : List Value), w.ownsRow B t size (.slice (some ⟨g, 0, none⟩) n c) m xs → o + vs.length ≤ xs.length →
    (w.setCells g o vs).ownsRow B t size (.slice (some ⟨g, 0, none⟩) n c) m (xs.take o ++ vs ++ xs.drop (o + vs.length))
  | [], o, w, xs, h, _ => by
    rw [List.append_nil, List.length_nil, Nat.add_zero, List.take_append_drop]; exact h
  | v :: r, o, w, xs, h, hl => by
    rw [List.length_cons] at hl
    have h1 := own_setCells r (o + 1) (w.setCell ⟨g, o, none⟩ v) (xs.set o v) (own_put h v) (by rw [List.length_set]; omega)
    have e : (xs.set o v).take (o + 1) ++ r ++ (xs.set o v).drop (o + 1 + r.length) = xs.take o ++ v :: r ++ xs.drop (o + (v :: r).length) := by
      rw [List.drop_set_of_lt (by omega), List.take_succ_eq_append_getElem (by rw [List.length_set]; omega), List.getElem_set_self, List.take_set, List.set_eq_of_length_le (by rw [List.length_take]; omega), List.length_cons,
        show o + 1 + r.length = o + (r.length + 1) by omega]
      simp
    rw [e] at h1
    exact h1
theorem grown_setCells {g : Nat} : ∀ (vs : List Value) (o : Nat) (w a : World), a.grownBy w (some g) → a.grownBy (w.setCells g o vs) (some g)
  | [], _, _, _, h => h
  | v :: r, o, w, a, h => grown_setCells r (o + 1) (w.setCell ⟨g, o, none⟩ v) a (h.trans (grown_set w g o v))
/-- The first elements of a row. -/
theorem own_cut {B m n c g size : Nat} {t : TypeId} {w : World} {xs : List Value} (h : w.ownsRow B t size (.slice (some ⟨g, 0, none⟩) n c) n xs) (hm : m ≤ n) : w.ownsRow B t size (.slice (some ⟨g, 0, none⟩) m c) m (xs.take (m * size)) := by
  have hle : m * size ≤ n * size := Nat.mul_le_mul_right _ hm
  refine ⟨by rw [List.length_take, h.1]; omega, ?_⟩
  rcases h.2 with ⟨h1, _⟩ | ⟨g', cap', cur, hv, hb, hg, h3, h4, h5, ht⟩
  · cases h1
  · injection hv with hA h6 h7
    refine .inr ⟨g', cap', cur, by rw [hA, h7], hb, hg, by omega, h4, h5, ?_⟩
    rw [← ht, List.take_take, Nat.min_eq_left hle]
/-- Cells of a row are there, and not frozen. -/
theorem own_there {B n c g size : Nat} {t : TypeId} {w : World} {xs : List Value} (h : w.ownsRow B t size (.slice (some ⟨g, 0, none⟩) n c) n xs) : ∀ j, j < xs.length → (w.cell? ⟨g, j, none⟩).isSome = true ∧ w.frozen? ⟨g, j, none⟩ = false := fun j hj => by
  rcases h.2 with ⟨h1, _⟩ | ⟨g', cap', cur, hv, hb, hg, h3, h4, h5, ht⟩
  · cases h1
  · injection hv with hA h6 h7
    obtain rfl : g = g' := by injection hA with hA; injection hA
    have hl := h.1
    have hle : n * size ≤ cap' * size := Nat.mul_le_mul_right _ h3
    constructor
    · rw [Lib.cell_of_heap hg, Array.getElem?_eq_getElem (by omega)]; rfl
    · simp [World.frozen?, hg]
section
variable {P : Program}
theorem run_clear_cells (w : World) (t e ty : TypeId) (z : Value) (ht : P.underlying t = some (.slice e)) (hv : (zeroValue e).run P w = .ok z w) (b o n c : Nat) (hn : 0 < n) (zs : List Value) (hz : (Builtin.zeroCells z.cells n).toList = zs) (h1 : ∀ v ∈ zs, v.oneCell' = true)
    (hc : ∀ j, j < zs.length → (w.cell? ⟨b, o + j, none⟩).isSome = true) (hf : ∀ j, j < zs.length → w.frozen? ⟨b, o + j, none⟩ = false) :
    (Builtin.clear_ #[t] ty #[.slice (some ⟨b, o, none⟩) n c]).run P w = .ok (.tuple #[]) (w.setCells b o zs) := by
  have hst := run_storeCells_cells (P := P) b o zs 0 w (by simpa using hc) (by simpa using hf) h1
  simp only [Nat.add_zero] at hst
  obtain ⟨m, rfl⟩ : ∃ m, n = m + 1 := ⟨n - 1, by omega⟩
  simp [Builtin.clear_, run_underlying ht, hv, hz, hst]
end
end Go.Proofs.Ytbajmbegkacbbaa
