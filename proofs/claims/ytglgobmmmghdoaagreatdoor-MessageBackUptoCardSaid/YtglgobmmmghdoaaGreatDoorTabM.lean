/-
  Tables that a row lists: what their data say of the cells.
-/
import Derived.Test.YtglgobmmmghdoaaGreatDoorItoa
import Derived.Test.YtglgobmmmghdoaaGreatDoorRows
import Derived.WalkKit
import Derived.ProofKit
import Derived.OpenShut
import Derived.ShutString
import Derived.Deep.Slices
import Derived.Lib.LaidTab
import Derived.Lib.SmallJoins
import Derived.LaidMore
namespace Go.Proofs.YtglgobmmmghdoaaGreatDoor
open Go.ChangeShapes Go.WideShapes Go.ChangeAt Go.RowKit Go.Joins

theorem mcellsStr : Tryz.prog.cellsOf 9 = 1 := by kernel_rfl
theorem strs_cells {H : Type} {enc : TypeId × Value → H} {P : Program} {w : World} {b : Nat} {sp : Nat → Bool} {hd : Bool} {fuel : Nat} {t e : TypeId} {n : Nat} {cs : List Value} {ss : List (List UInt8)} {p : List MemPlace}
    (ht : P.underlying t = some (.array n e)) (he : P.underlying e = some .string) (hce : P.cellsOf e = 1)
    (h : DataW.trod enc P w b sp hd fuel t cs = some (.agg (ss.map fun s => .lit (.string s)), p)) (i : Nat) (s : List UInt8) (hi : ss[i]? = some s) : cs[i]? = some (.string ⟨s.toArray⟩) := by
  obtain ⟨xs, m, _, hx, _, hl, hf⟩ := DataW.trod_array ht h
  have h1 : ss.map (fun s => (DataW.lit (.string s) : DataW H)) = xs.map (·.1) := by
    have := congrArg Prod.fst hx
    simpa using this
  have hn : ss.length = n := by have := congrArg List.length h1; simp at this; omega
  have hin : i < n := by have := (List.getElem?_eq_some_iff.1 hi).1; omega
  have hxi : xs[i]? = some xs[i] := List.getElem?_eq_getElem (by omega)
  have h2 := hf i hin
  rw [hxi, hce] at h2
  obtain ⟨s', e1, e2, _⟩ := DataW.trod_string he h2
  have h3 : (ss.map (fun s => (DataW.lit (.string s) : DataW H)))[i]? = (xs.map (·.1))[i]? := by rw [h1]
  rw [List.getElem?_map, List.getElem?_map, hi, hxi, e2] at h3
  simp at h3
  have h4 : cs[i]? = some (.string s') := by
    have := congrArg (·[0]?) e1
    simpa [List.getElem?_take, List.getElem?_drop] using this
  rw [h4, h3]

theorem pow_laid {W : World} {rest : List (String × DataW Unit)} {q : List MemPlace} (h : DataW.LaidVars Tryz.prog W (("internal/strconv.uint64pow10", Lib.tabData .u64 Lib.pow10Tab) :: rest) q) : Pow10 W := by
  obtain ⟨g, t, cs, fuel, p, _, hg, hty, hv, hd, _, _⟩ := h
  have hgn : Tryz.prog.globalNamed "internal/strconv.uint64pow10" = some 3 := by kernel_rfl
  obtain rfl := Option.some.inj (hgn.symm.trans hg)
  have htn : (Tryz.prog.globals[3]?).map (·.type) = some 157 := by kernel_rfl
  obtain rfl := Option.some.inj (htn.symm.trans hty)
  have hc := Lib.cells_of_tab Tryz.underlying157 Tryz.underlying146 (by kernel_rfl) (by kernel_rfl) hd
  unfold Pow10 Lib.TabIs
  rw [hv, ← hc]

theorem var_lt {P : Program} {W : World} {name : String} {g : Nat} {cs : Array Value} (hg : P.globalNamed name = some g) (hv : W.var? P name = some cs) : g < W.heap.size := by
  simp only [World.var?, hg, Option.bind_some] at hv
  split at hv
  · rename_i hh
    exact (Array.getElem?_eq_some_iff.1 hh).1
  · cases hv
end Go.Proofs.YtglgobmmmghdoaaGreatDoor
