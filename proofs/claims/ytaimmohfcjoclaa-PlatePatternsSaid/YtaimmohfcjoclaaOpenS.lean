/-
  Opening an argument that is a slice of plates.
-/
import Derived.Test.YtaimmohfcjoclaaOpen
import Derived.Test.YtaimmohfcjoclaaCand
import Derived.Deep.Slices
namespace Go.Proofs.Ytaimmohfcjoclaa
open Go.ChangeShapes Go.WideShapes Go.ChangeAt Go.RowKit Go.Joins

theorem three_of (cs : List Value) (h : cs.length = 3) : ∃ x y z, cs = [x, y, z] := by
  match cs, h with
  | [x, y, z], _ => exact ⟨x, y, z, rfl⟩

section
variable {H : Type} {enc : TypeId × Value → H} {W : World} {base : Nat} {v : Value} {d : DataW H} {p : List MemPlace}

/-- One plate of a slice. -/
theorem plate_at {b : Nat} {sp : Nat → Bool} {hd : Bool} {n : Nat} {a : Addr} {cs : List Value} {x : DataW H × List MemPlace} (hc : W.cells? b a (Try.prog.cellsOf 23) = some cs) (h : DataW.trod enc Try.prog W b sp hd n 23 cs = some x) :
    ∃ l c s : Int, W.cell? (a.add 0) = some (.int .i64 l) ∧ W.cell? (a.add 1) = some (.int .i64 c) ∧ W.cell? (a.add 2) = some (.int .i64 s) := by
  rw [cellsPlate] at hc
  obtain ⟨_, hl, hat⟩ := World.cells?_some hc
  obtain ⟨y0, y1, y2, m, _, _, h0, h1, h2⟩ := Deep.trod_struct3 Try.underlying23 h
  obtain ⟨c0, c1, c2, rfl⟩ := three_of cs hl
  have k : Try.prog.cellsOf 3 = 1 := by kernel_rfl
  simp only [k] at h0 h1 h2
  obtain ⟨x0, e0, rfl, w0⟩ := DataW.trod_int Try.underlying3 h0
  obtain ⟨x1, e1, rfl, w1⟩ := DataW.trod_int Try.underlying3 h1
  obtain ⟨x2, e2, rfl, w2⟩ := DataW.trod_int Try.underlying3 h2
  simp at e0 e1 e2
  subst e0 e1 e2
  exact ⟨x0, x1, x2, hat 0 (by omega), hat 1 (by omega), hat 2 (by omega)⟩

theorem law_plates (hv : Value.okWide Try.prog W .any base 37 v) (h : DataW.Trod enc Try.prog W 0 (fun _ => true) true 37 v d p) :
    ∃ (A : Option Addr) (len cap : Nat) (f : Nat → Int × Int × Int), Plates W A len f ∧ v = .slice A len cap := by
  obtain ⟨a0, len, cap, rfl⟩ := okWide_slice Try.underlying37 hv
  obtain ⟨fuel, hf⟩ := h
  rcases Deep.open_slice Try.underlying37 hf with ⟨hcs, _⟩ | ⟨a, len', cap', m, n, D, Pl, hcs, _, hl, hm, hmm, _, hx⟩
  · simp [Value.cells] at hcs
    obtain ⟨rfl, rfl, rfl⟩ := hcs
    exact ⟨none, 0, 0, fun _ => (0, 0, 0), fun h => absurd h (by omega), rfl⟩
  · simp [Value.cells] at hcs
    obtain ⟨rfl, rfl, rfl⟩ := hcs
    have hall : ∀ i, i < len → ∃ q : Int × Int × Int, W.cell? ((a.add (i * 3)).add 0) = some (.int .i64 q.1) ∧ W.cell? ((a.add (i * 3)).add 1) = some (.int .i64 q.2.1) ∧ W.cell? ((a.add (i * 3)).add 2) = some (.int .i64 q.2.2) := fun i hi => by
      obtain ⟨cs, hc, ht⟩ := hx i (by rw [hmm]; simp; omega)
      obtain ⟨l, c, s, e0, e1, e2⟩ := plate_at hc ht
      rw [cellsPlate] at e0 e1 e2
      exact ⟨(l, c, s), e0, e1, e2⟩
    obtain ⟨f, hF⟩ := Deep.choose_lt (α := Int × Int × Int) (p := fun i q => W.cell? ((a.add (i * 3)).add 0) = some (.int .i64 q.1) ∧ W.cell? ((a.add (i * 3)).add 1) = some (.int .i64 q.2.1) ∧ W.cell? ((a.add (i * 3)).add 2) = some (.int .i64 q.2.2)) hall
    refine ⟨some a, len, cap, f, fun hpos => ?_, rfl⟩
    obtain ⟨b, off, spot⟩ := a
    have h0 := (hF 0 hpos).1
    have hs : spot = none := by simpa [Addr.add] using World.cell?_spot h0
    subst hs
    refine ⟨b, off, rfl, fun i hi => ?_⟩
    obtain ⟨s0, s1, s2⟩ := hF i hi
    have ad1 : ∀ (o j : Nat), (⟨b, o, none⟩ : Addr).add j = ⟨b, o + j, none⟩ := fun o j => by unfold Addr.add; split <;> simp_all
    rw [ad1, ad1] at s0 s1 s2
    exact ⟨s0, s1, s2⟩
end
end Go.Proofs.Ytaimmohfcjoclaa
