/-
  The tables of the row of LayoutValidates and LayoutParses: the program's, and the document's own words.
-/
import Derived.Test.YtfddpdognelhmaaGreatDoorLayTab
import Derived.Test.YtfddpdognelhmaaGreatDoorLayRg
namespace Go.Proofs.YtfddpdognelhmaaGreatDoor
open Go.ChangeShapes Go.WideShapes Go.ChangeAt Go.RowKit Go.Joins

abbrev valLaid : List (String × DataW Unit) := ("baggage/baggageref07.words", Rows.laid_baggage_baggageref07_words) :: layLaid
set_option maxRecDepth 100000 in
theorem val_tab {W : World} (h : laidMetH Tryz.prog valLaid W) : LTab W ∧ WTab W := by
  obtain ⟨ps, hL, _, _⟩ := (show laidMet Tryz.prog valLaid W from h)
  have hW := rwords_laid hL
  obtain ⟨_, _, _, _, _, q0, _, _, _, _, hL, _⟩ := hL
  obtain ⟨_, _, _, _, _, q1, _, _, _, _, hL, _⟩ := hL
  obtain ⟨_, _, _, _, _, q2, _, _, _, _, hL, _⟩ := hL
  have hp := pow_laid hL
  obtain ⟨_, _, _, _, _, q3, _, _, v3, _, hL, _⟩ := hL
  obtain ⟨_, _, _, _, _, q4, _, _, _, _, hL, _⟩ := hL
  have hw := lwords_laid hL
  obtain ⟨_, _, _, _, _, q5, _, _, _, _, hL, _⟩ := hL
  have hf := lforms_laid hL
  exact ⟨⟨hw, hf, hp, var_lt (show Tryz.prog.globalNamed "internal/strconv.uint64pow10" = some 4 by kernel_rfl) v3⟩, hW⟩
end Go.Proofs.YtfddpdognelhmaaGreatDoor
