/-
  The tables of the rows of the layout's statements.
-/
import Derived.Test.YtfddpdognelhmaaGreatDoorLayK
import Derived.Test.YtfddpdognelhmaaGreatDoorTabM
import Derived.Test.YtfddpdognelhmaaGreatDoorLibOB
namespace Go.Proofs.YtfddpdognelhmaaGreatDoor
open Go.ChangeShapes Go.WideShapes Go.ChangeAt Go.RowKit Go.Joins

theorem kws_at : ∀ i : Nat, i < 12 → (wordsL.map (·.data.toList))[i]? = some (kwS i).data.toList := by decide +kernel
theorem kfs_at : ∀ i : Nat, i < 12 → (formsL.map (·.data.toList))[i]? = some (kfS i).data.toList := by decide +kernel
theorem lwords_laid {W : World} {rest : List (String × DataW Unit)} {q : List MemPlace} (h : DataW.LaidVars Tryz.prog W (("baggage/layout.words", .agg ((wordsL.map (·.data.toList)).map fun s => .lit (.string s))) :: rest) q) : ∀ i, i < 12 → W.cell? ⟨1, i, none⟩ = some (.string (kwS i)) := by
  obtain ⟨g, t, cs, fuel, p, _, hg, hty, hv, hd, _, _⟩ := h
  have hgn : Tryz.prog.globalNamed "baggage/layout.words" = some 1 := by kernel_rfl
  obtain rfl := Option.some.inj (hgn.symm.trans hg)
  have htn : (Tryz.prog.globals[1]?).map (·.type) = some 89 := by kernel_rfl
  obtain rfl := Option.some.inj (htn.symm.trans hty)
  intro i hi
  rw [World.var?_cell hgn hv i, ← Array.getElem?_toList]
  exact strs_cells Tryz.underlying89 Tryz.underlying9 mcellsStr hd i _ (kws_at i hi)
theorem lforms_laid {W : World} {rest : List (String × DataW Unit)} {q : List MemPlace} (h : DataW.LaidVars Tryz.prog W (("baggage/layout.forms", .agg ((formsL.map (·.data.toList)).map fun s => .lit (.string s))) :: rest) q) : ∀ i, i < 12 → W.cell? ⟨2, i, none⟩ = some (.string (kfS i)) := by
  obtain ⟨g, t, cs, fuel, p, _, hg, hty, hv, hd, _, _⟩ := h
  have hgn : Tryz.prog.globalNamed "baggage/layout.forms" = some 2 := by kernel_rfl
  obtain rfl := Option.some.inj (hgn.symm.trans hg)
  have htn : (Tryz.prog.globals[2]?).map (·.type) = some 89 := by kernel_rfl
  obtain rfl := Option.some.inj (htn.symm.trans hty)
  intro i hi
  rw [World.var?_cell hgn hv i, ← Array.getElem?_toList]
  exact strs_cells Tryz.underlying89 Tryz.underlying9 mcellsStr hd i _ (kfs_at i hi)
abbrev layLaid : List (String × DataW Unit) := [("math/bits.deBruijn32tab", Rows.laid_math_bits_deBruijn32tab), ("math/bits.deBruijn64tab", Rows.laid_math_bits_deBruijn64tab), ("internal/strconv.uint64pow10", Rows.laid_internal_strconv_uint64pow10), ("unicode/utf8.acceptRanges", Rows.laid_unicode_utf8_acceptRanges), ("baggage/layout.words", Rows.laid_baggage_layout_words), ("baggage/layout.forms", Rows.laid_baggage_layout_forms), ("unicode/utf8.first", Rows.laid_unicode_utf8_first)]
set_option maxRecDepth 100000 in
theorem lay_tab {W : World} (h : laidMetH Tryz.prog layLaid W) : LTab W := by
  obtain ⟨ps, hL, _, _⟩ := (show laidMet Tryz.prog layLaid W from h)
  obtain ⟨_, _, _, _, _, q1, _, _, _, _, hL, _⟩ := hL
  obtain ⟨_, _, _, _, _, q2, _, _, _, _, hL, _⟩ := hL
  have hp := pow_laid hL
  obtain ⟨_, _, _, _, _, q3, _, _, v3, _, hL, _⟩ := hL
  obtain ⟨_, _, _, _, _, q4, _, _, _, _, hL, _⟩ := hL
  have hw := lwords_laid hL
  obtain ⟨_, _, _, _, _, q5, _, _, _, _, hL, _⟩ := hL
  have hf := lforms_laid hL
  exact ⟨hw, hf, hp, var_lt (show Tryz.prog.globalNamed "internal/strconv.uint64pow10" = some 4 by kernel_rfl) v3⟩
end Go.Proofs.YtfddpdognelhmaaGreatDoor
