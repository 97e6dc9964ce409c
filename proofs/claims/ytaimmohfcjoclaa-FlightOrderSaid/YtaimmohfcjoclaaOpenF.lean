/-
  Opening an argument that is a flight or a leg by value, or a byte.
-/
import Derived.Test.YtaimmohfcjoclaaOpenI
import Derived.Deep.Strs
namespace Go.Proofs.Ytaimmohfcjoclaa
open Go.ChangeShapes Go.WideShapes Go.ChangeAt Go.RowKit Go.Joins

theorem cellsFlight : Try.prog.cellsOf 53 = 4 := by kernel_rfl
theorem cellsLeg : Try.prog.cellsOf 66 = 6 := by kernel_rfl
theorem six_of {α : Type} {cs : Array α} (h : cs.size = 6) : ∃ c0 c1 c2 c3 c4 c5, cs = #[c0, c1, c2, c3, c4, c5] := by
  obtain ⟨l⟩ := cs
  match l, h with
  | [c0, c1, c2, c3, c4, c5], _ => exact ⟨c0, c1, c2, c3, c4, c5, rfl⟩

section
variable {H : Type} {enc : TypeId × Value → H} {W : World} {base : Nat} {v : Value} {d : DataW H} {p : List MemPlace}

theorem law_byte (hv : Value.okWide Try.prog W .any base 5 v) (h : DataW.Trod enc Try.prog W 0 (fun _ => true) true 5 v d p) : ∃ x : Int, (Lit.int .u8 x).wf = true ∧ v = .int .u8 x := by
  obtain ⟨x, rfl, rfl, rfl, wx⟩ := open_int Try.underlying5 hv h
  exact ⟨x, wx, rfl⟩
theorem law_flight (hv : Value.okWide Try.prog W .any base 53 v) (h : DataW.Trod enc Try.prog W 0 (fun _ => true) true 53 v d p) :
    ∃ (c : ByteArray) (n : Int) (s : ByteArray) (d : Int), c.size ≤ maxLen ∧ (Lit.int .i64 n).wf = true ∧ s.size ≤ maxLen ∧ (Lit.int .i64 d).wf = true ∧ v = .agg #[.string c, .int .i64 n, .string s, .int .i64 d] := by
  obtain ⟨c0, c1, c2, c3, y0, y1, y2, y3, m, rfl, rfl, rfl, hy0, hy1, hy2, hy3⟩ := open_agg4 Try.underlying53 (by kernel_rfl) cellsFlight hv h
  obtain ⟨x0, e0, rfl, w0⟩ := DataW.trod_string Try.underlying9 hy0
  obtain ⟨x1, e1, rfl, w1⟩ := DataW.trod_int Try.underlying3 hy1
  obtain ⟨x2, e2, rfl, w2⟩ := DataW.trod_string Try.underlying9 hy2
  obtain ⟨x3, e3, rfl, w3⟩ := DataW.trod_int Try.underlying3 hy3
  simp at e0 e1 e2 e3
  subst e0 e1 e2 e3
  exact ⟨x0, x1, x2, x3, w0, w1, w2, w3, rfl⟩
theorem law_leg (hv : Value.okWide Try.prog W .any base 66 v) (h : DataW.Trod enc Try.prog W 0 (fun _ => true) true 66 v d p) :
    ∃ (c : ByteArray) (n : Int) (s : ByteArray) (d : Int) (q k : ByteArray), c.size ≤ maxLen ∧ (Lit.int .i64 n).wf = true ∧ s.size ≤ maxLen ∧ (Lit.int .i64 d).wf = true ∧ q.size ≤ maxLen ∧ k.size ≤ maxLen ∧ v = .agg #[.string c, .int .i64 n, .string s, .int .i64 d, .string q, .string k] := by
  obtain ⟨cs, rfl, hsz⟩ := okWide_struct Try.underlying66 hv
  obtain ⟨c0, c1, c2, c3, c4, c5, rfl⟩ := six_of (hsz.trans cellsLeg)
  obtain ⟨fuel, hf⟩ := h
  obtain ⟨y0, y1, y2, m, _, _, h0, h1, h2⟩ := Deep.trod_struct3 Try.underlying66 hf
  have ks : Try.prog.cellsOf 9 = 1 := by kernel_rfl
  have ki : Try.prog.cellsOf 3 = 1 := by kernel_rfl
  simp [Value.cells, cellsFlight, ks] at h0 h1 h2
  obtain ⟨z0, z1, z2, z3, m', _, _, g0, g1, g2, g3⟩ := trod_struct4 Try.underlying53 h0
  simp [ks, ki] at g0 g1 g2 g3
  obtain ⟨x0, e0, rfl, w0⟩ := DataW.trod_string Try.underlying9 g0
  obtain ⟨x1, e1, rfl, w1⟩ := DataW.trod_int Try.underlying3 g1
  obtain ⟨x2, e2, rfl, w2⟩ := DataW.trod_string Try.underlying9 g2
  obtain ⟨x3, e3, rfl, w3⟩ := DataW.trod_int Try.underlying3 g3
  obtain ⟨x4, e4, rfl, w4⟩ := DataW.trod_string Try.underlying9 h1
  obtain ⟨x5, e5, rfl, w5⟩ := DataW.trod_string Try.underlying9 h2
  simp at e0 e1 e2 e3 e4 e5
  subst e0 e1 e2 e3 e4 e5
  exact ⟨x0, x1, x2, x3, x4, x5, w0, w1, w2, w3, w4, w5, rfl⟩
end
end Go.Proofs.Ytaimmohfcjoclaa
