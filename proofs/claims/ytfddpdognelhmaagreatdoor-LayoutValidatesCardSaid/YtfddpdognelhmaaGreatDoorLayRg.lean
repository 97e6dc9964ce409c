/-
  The table of words of the document's own chapter 7; the text of a node and of a device as the document writes it.
-/
import Derived.Test.YtfddpdognelhmaaGreatDoorLayRf
import Derived.Test.YtfddpdognelhmaaGreatDoorLayP
import Derived.Test.YtfddpdognelhmaaGreatDoorTabM
import Derived.Test.YtfddpdognelhmaaGreatDoorLayOp
import Derived.Test.YtfddpdognelhmaaGreatDoorSplM
import Derived.Deep.Slices
namespace Go.Proofs.YtfddpdognelhmaaGreatDoor
open Go.ChangeShapes Go.WideShapes Go.ChangeAt Go.RowKit Go.Joins

/-- The document's own words of the kinds. -/
structure WTab (w : World) : Prop where
  has : ∃ g off c, w.cell? ⟨0, 0, none⟩ = some (.slice (some ⟨g, off, none⟩) 10 c) ∧ ∀ i, i < 10 → w.cell? ⟨g, off + i, none⟩ = some (.string (kwS i))
theorem WTab.keep {w w1 : World} (h : WTab w) (hb : Below w.heap.size w w1) : WTab w1 := by
  obtain ⟨g, off, c, h1, h2⟩ := h.has
  exact ⟨g, off, c, kept hb h1, fun i hi => kept hb (h2 i hi)⟩
theorem kws_ten : ∀ i : Nat, i < 10 → ((wordsL.take 10).map (·.data.toList))[i]? = some (kwS i).data.toList := by decide +kernel
theorem rwords_laid {W : World} {rest : List (String × DataW Unit)} {q : List MemPlace} (h : DataW.LaidVars Tryz.prog W (("baggage/baggageref07.words", .slice (((wordsL.take 10).map (·.data.toList)).map fun s => .lit (.string s)) []) :: rest) q) : WTab W := by
  obtain ⟨g, t, cs, fuel, p, _, hg, hty, hv, hd, _, _⟩ := h
  have hgn : Tryz.prog.globalNamed "baggage/baggageref07.words" = some 0 := by kernel_rfl
  obtain rfl := Option.some.inj (hgn.symm.trans hg)
  have htn : (Tryz.prog.globals[0]?).map (·.type) = some 66 := by kernel_rfl
  obtain rfl := Option.some.inj (htn.symm.trans hty)
  rcases Deep.open_slice1 Tryz.underlying66 mcellsStr hd with ⟨_, hx⟩ | ⟨a, len, cap, m, n', V, D, Pl, hcs, _, hl, _, hm, hx, hall⟩
  · cases congrArg Prod.fst hx
  · have h1 : (DataW.slice (((wordsL.take 10).map (·.data.toList)).map fun s => (DataW.lit (.string s) : DataW Unit)) []) = _ := congrArg Prod.fst hx
    injection h1 with h1 _
    have hlen : len = 10 := by
      have := congrArg List.length h1
      simp [wordsL] at this
      omega
    subst hlen
    obtain ⟨gb, off, spot⟩ := a
    have hcell : ∀ i, i < 10 → W.cell? ((⟨gb, off, spot⟩ : Addr).add i) = some (.string (kwS i)) := fun i hi => by
      obtain ⟨e1, e2⟩ := hall i (by rw [hm]; split <;> omega)
      obtain ⟨s, es, ed, _⟩ := DataW.trod_string Tryz.underlying9 e2
      have h2 : (((wordsL.take 10).map (·.data.toList)).map fun s => (DataW.lit (.string s) : DataW Unit))[i]? = ((List.range 10).map D)[i]? := by rw [h1]
      have ed1 : D i = _ := congrArg Prod.fst ed
      rw [List.getElem?_map, kws_ten i hi, List.getElem?_map, List.getElem?_range hi, Option.map_some, Option.map_some, ed1] at h2
      simp at h2
      rw [e1]
      injection es with es
      have e3 : s = kwS i := by
        first | exact h2.symm | exact (ba_ext h2).symm | exact ba_ext h2.symm | (apply ba_ext; simp [h2])
      rw [es, e3]
    have hs : spot = none := by simpa [Addr.add] using World.cell?_spot (hcell 0 (by omega))
    subst hs
    refine ⟨gb, off, cap, ?_, fun i hi => ?_⟩
    · rw [World.var?_cell hgn hv 0, ← Array.getElem?_toList, hcs]; rfl
    · have := hcell i hi
      rwa [laddr_add] at this

def stripB (x : Nd) : Bool := wIn x.kind 1 6
/-- The text of a node, as the document writes it. -/
def nodeH (x : Nd) : List UInt8 := (kwS x.kind.toNat).data.toList ++ ([32] ++ x.name.data.toList)
def nodeL (x : Nd) : List UInt8 := if stripB x then [32] ++ (decS x.len).data.toList else []
def nodeZ (x : Nd) : List UInt8 := [32] ++ (decS x.zone).data.toList
def nodeG (x : Nd) : List UInt8 := if 0 < x.exits.length then [32, 62] else []
def nodeT (l : List Nd) (x : Nd) : List UInt8 := nodeH x ++ nodeL x ++ nodeZ x ++ nodeG x ++ jnT (nmF l x.exits) ++ [10]
theorem frm_at : frmI 1 = [78, 76, 90, 62, 48] ∧ frmI 2 = [78, 76, 90, 62, 48] ∧ frmI 3 = [78, 76, 90, 62, 48] ∧ frmI 4 = [78, 76, 90, 62, 48, 49] ∧ frmI 5 = [78, 76, 90, 62, 48, 49] ∧ frmI 6 = [78, 76, 90, 62, 48, 49] ∧ frmI 7 = [78, 90, 62, 48] ∧ frmI 8 = [78, 90] ∧ frmI 9 = [78, 90] ∧ frmI 10 = [48, 87] ∧ frmI 11 = [48, 87] := by decide +kernel
theorem node_text {l : List Nd} {x : Nd} (hk : wIn x.kind 1 9 = true) (he : x.exits.length = exN x.kind) : ndX l x = nodeT l x := by
  obtain ⟨f1, f2, f3, f4, f5, f6, f7, f8, f9, -, -⟩ := frm_at
  obtain ⟨nm, kd, ln, zo, ex⟩ := x
  rw [wIn_iff] at hk
  have hk' : kd = 1 ∨ kd = 2 ∨ kd = 3 ∨ kd = 4 ∨ kd = 5 ∨ kd = 6 ∨ kd = 7 ∨ kd = 8 ∨ kd = 9 := by simp only [] at hk; omega
  unfold ndX linX lnNd
  rcases hk' with rfl | rfl | rfl | rfl | rfl | rfl | rfl | rfl | rfl
  all_goals
    have he' : ex.length = _ := he
    simp [exN] at he'
    first
      | (subst he'
         simp [f8, f9, nodeT, nodeH, nodeL, nodeZ, nodeG, stripB, wIn, jn, jnT, wrdC, nmF, ByteArray.data_append])
      | (obtain ⟨a, rfl⟩ := List.length_eq_one_iff.1 he'
         simp [f1, f2, f3, f7, nodeT, nodeH, nodeL, nodeZ, nodeG, stripB, wIn, jn, jnT, wrdC, nmF, ByteArray.data_append])
      | (obtain ⟨a, b, rfl⟩ : ∃ a b, ex = [a, b] := by
           match ex, he' with
           | [a, b], _ => exact ⟨a, b, rfl⟩
         simp [f4, f5, f6, nodeT, nodeH, nodeL, nodeZ, nodeG, stripB, wIn, jn, jnT, wrdC, nmF, ByteArray.data_append])
/-- The text of a device. -/
def devT (l : List Nd) (d : Dv) : List UInt8 := (kwS (9 + d.kind).toNat).data.toList ++ [32] ++ (l.getD d.node.toNat nd0).name.data.toList ++ [32] ++ (decS d.win).data.toList ++ [10]
theorem dev_text {l : List Nd} {d : Dv} (hk : wIn d.kind 1 2 = true) : dvX l d = devT l d := by
  obtain ⟨-, -, -, -, -, -, -, -, -, f10, f11⟩ := frm_at
  obtain ⟨kd, n, wn⟩ := d
  rw [wIn_iff] at hk
  have hk' : kd = 1 ∨ kd = 2 := by simp only [] at hk; omega
  unfold dvX linX lnDv
  rcases hk' with rfl | rfl <;> simp [f10, f11, devT, jn, jnT, wrdC, nmF, ByteArray.data_append]
end Go.Proofs.YtfddpdognelhmaaGreatDoor
