/-
  The table of the rows of the inbox's statements.
-/
import Derived.Test.YtcjdjdganaokfaaDoorMsgAH
import Derived.Test.YtcjdjdganaokfaaDoorRows
namespace Go.Proofs.YtcjdjdganaokfaaDoor
open Go.ChangeShapes Go.WideShapes Go.ChangeAt Go.RowKit Go.Joins

set_option maxRecDepth 100000 in
theorem keys_only {W : World} (h : laidMetH Tryd.prog Rows.inboxGapsRow.laid W) : Keys W := by
  obtain ⟨ps, hL, _, _⟩ := (show laidMet Tryd.prog Rows.inboxGapsRow.laid W from h)
  exact keys_laid hL
end Go.Proofs.YtcjdjdganaokfaaDoor
