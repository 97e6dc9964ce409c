/-
  Opening an argument that is a telegram by value.
-/
import Derived.Test.YtglgobmmmghdoaaGreatDoorLibOB
import Derived.Test.YtglgobmmmghdoaaGreatDoorTelA
import Derived.Deep.Slices
namespace Go.Proofs.YtglgobmmmghdoaaGreatDoor
open Go.ChangeShapes Go.WideShapes Go.ChangeAt Go.RowKit Go.Joins

theorem cellsTel : Tryz.prog.cellsOf 25 = 3 := by kernel_rfl
theorem cellsEl : Tryz.prog.cellsOf 55 = 2 := by kernel_rfl
theorem cellsStr : Tryz.prog.cellsOf 9 = 1 := by kernel_rfl
theorem cellsSl : Tryz.prog.cellsOf 53 = 1 := by kernel_rfl
theorem two_of (cs : List Value) (h : cs.length = 2) : ∃ x y, cs = [x, y] := by
  match cs, h with
  | [x, y], _ => exact ⟨x, y, rfl⟩
theorem addr_add (g off i : Nat) : (⟨g, off, none⟩ : Addr).add i = ⟨g, off + i, none⟩ := by unfold Addr.add; split <;> simp_all

section
variable {H : Type} {enc : TypeId × Value → H} {W : World} {base : Nat} {v : Value} {d : DataW H} {p : List MemPlace} {b : Nat} {sp : Nat → Bool} {hd : Bool} {n : Nat}

theorem strs_at {x : DataW H × List MemPlace} (h : DataW.trod enc Tryz.prog W b sp hd n 53 [v] = some x) : ∃ (A : Option Addr) (c : Nat) (ps : List ByteArray), v = .slice A ps.length c ∧ ∀ b', W.heap.size ≤ b' → StrsIn b' W A ps := by
  rcases Deep.open_slice1 Tryz.underlying53 cellsStr h with ⟨hcs, _⟩ | ⟨a, len, cap, m, n', V, D, Pl, hcs, _, hl, _, hm, _, hx⟩
  · injection hcs with hcs
    exact ⟨none, 0, [], hcs, fun _ _ h => absurd h (Nat.lt_irrefl 0)⟩
  · injection hcs with hcs
    have hall : ∀ i, i < len → ∃ s : ByteArray, W.cell? (a.add i) = some (.string s) := fun i hi => by
      obtain ⟨h1, h2⟩ := hx i (by rw [hm]; split <;> omega)
      obtain ⟨s, e, _, _⟩ := DataW.trod_string Tryz.underlying9 h2
      injection e with e
      rw [e] at h1
      exact ⟨s, h1⟩
    obtain ⟨f, hF⟩ := Deep.choose_lt (α := ByteArray) (p := fun i s => W.cell? (a.add i) = some (.string s)) hall
    refine ⟨some a, cap, (List.range len).map f, by rw [hcs]; simp, fun b' hb' hpos => ?_⟩
    have hpos' : 0 < len := by simpa using hpos
    obtain ⟨g, off, spot⟩ := a
    have h0 := hF 0 hpos'
    have hs : spot = none := by simpa [Addr.add] using World.cell?_spot h0
    subst hs
    rw [addr_add] at h0
    have hg := World.block_lt_of_cell? W _ h0
    refine ⟨g, off, rfl, by simp only [] at hg; omega, fun i hi => ?_⟩
    have hi' : i < len := by simpa using hi
    have := hF i hi'
    rw [addr_add] at this
    rw [this, List.getD_eq_getElem?_getD, List.getElem?_map, List.getElem?_range hi']
    rfl

theorem el_at {a : Addr} {cs : List Value} {x : DataW H × List MemPlace} (hc : W.cells? b a 2 = some cs) (h : DataW.trod enc Tryz.prog W b sp hd n 55 cs = some x) :
    ∃ (e : El) (A : Option Addr) (c : Nat), W.cell? (a.add 0) = some (.string e.1) ∧ W.cell? (a.add 1) = some (.slice A e.2.length c) ∧ ∀ b', W.heap.size ≤ b' → StrsIn b' W A e.2 := by
  obtain ⟨_, hl, hat⟩ := World.cells?_some hc
  obtain ⟨y0, y1, m, _, _, h0, h1⟩ := trod_struct2 Tryz.underlying55 h
  obtain ⟨c0, c1, rfl⟩ := two_of cs hl
  simp only [cellsStr, cellsSl] at h0 h1
  obtain ⟨key, e0, _, _⟩ := DataW.trod_string Tryz.underlying9 h0
  obtain ⟨A, c, ps, e1, hst⟩ := strs_at h1
  injection e0 with e0
  subst e0 e1
  exact ⟨(key, ps), A, c, hat 0 (by omega), hat 1 (by omega), hst⟩

theorem els_at {x : DataW H × List MemPlace} (h : DataW.trod enc Tryz.prog W b sp hd n 23 [v] = some x) : ∃ (A : Option Addr) (c : Nat) (es : List El), v = .slice A es.length c ∧ ∀ b', W.heap.size ≤ b' → ElsIn b' W A es := by
  rcases Deep.open_slice Tryz.underlying23 h with ⟨hcs, _⟩ | ⟨a, len, cap, m, n', D, Pl, hcs, _, hl, _, hm, _, hx⟩
  · injection hcs with hcs
    exact ⟨none, 0, [], hcs, fun _ _ h => absurd h (Nat.lt_irrefl 0)⟩
  · injection hcs with hcs
    rw [cellsEl] at hx
    have hall : ∀ i, i < len → ∃ e : El, ∃ (A : Option Addr) (c : Nat), W.cell? ((a.add (i * 2)).add 0) = some (.string e.1) ∧ W.cell? ((a.add (i * 2)).add 1) = some (.slice A e.2.length c) ∧ ∀ b', W.heap.size ≤ b' → StrsIn b' W A e.2 := fun i hi => by
      obtain ⟨cs', h1, h2⟩ := hx i (by rw [hm]; split <;> omega)
      exact el_at h1 h2
    obtain ⟨f, hF⟩ := Deep.choose_lt (α := El) (p := fun i e => ∃ (A : Option Addr) (c : Nat), W.cell? ((a.add (i * 2)).add 0) = some (.string e.1) ∧ W.cell? ((a.add (i * 2)).add 1) = some (.slice A e.2.length c) ∧ ∀ b', W.heap.size ≤ b' → StrsIn b' W A e.2) hall
    refine ⟨some a, cap, (List.range len).map f, by rw [hcs]; simp, fun b' hb' hpos => ?_⟩
    have hpos' : 0 < len := by simpa using hpos
    obtain ⟨g, off, spot⟩ := a
    obtain ⟨_, _, h0, _⟩ := hF 0 hpos'
    have hs : spot = none := by simpa [Addr.add] using World.cell?_spot h0
    subst hs
    rw [addr_add, addr_add] at h0
    have hg := World.block_lt_of_cell? W _ h0
    refine ⟨g, off, rfl, by simp only [] at hg; omega, fun i hi => ?_⟩
    have hi' : i < len := by simpa using hi
    obtain ⟨A, c, k0, k1, k2⟩ := hF i hi'
    rw [addr_add, addr_add] at k0 k1
    have e1 : ((List.range len).map f).getD i el0 = f i := by rw [List.getD_eq_getElem?_getD, List.getElem?_map, List.getElem?_range hi']; rfl
    rw [e1]
    exact ⟨k0, A, c, k1, k2 b' hb'⟩

set_option maxRecDepth 100000 in
theorem law_tel (hv : Value.okWide Tryz.prog W .any base 25 v) (h : DataW.Trod enc Tryz.prog W 0 (fun _ => true) true 25 v d p) :
    ∃ (t : Tel) (A : Option Addr) (c : Nat), v = .agg #[.string t.kind, .string t.change, .slice A t.els.length c] ∧ ∀ b', W.heap.size ≤ b' → ElsIn b' W A t.els := by
  obtain ⟨c0, c1, c2, y0, y1, y2, m, rfl, rfl, rfl, hy0, hy1, hy2⟩ := open_agg3 Tryz.underlying25 (by kernel_rfl) cellsTel hv h
  obtain ⟨K, e0, _, _⟩ := DataW.trod_string Tryz.underlying9 hy0
  obtain ⟨C, e1, _, _⟩ := DataW.trod_string Tryz.underlying9 hy1
  obtain ⟨A, c, es, e2, hels⟩ := els_at hy2
  simp at e0 e1
  subst e0 e1 e2
  exact ⟨⟨K, C, es⟩, A, c, rfl, hels⟩
end

theorem StrsIn.other {b b' : Nat} {w : World} {A : Option Addr} {ps : List ByteArray} (h : StrsIn b w A ps) (hb : w.heap.size ≤ b') : StrsIn b' w A ps := fun hn => by
  obtain ⟨g, off, hA, _, hc⟩ := h hn
  have hg := World.block_lt_of_cell? w _ (hc 0 hn)
  exact ⟨g, off, hA, by simp only [] at hg; omega, hc⟩
theorem ElsIn.other {b b' : Nat} {w : World} {A : Option Addr} {es : List El} (h : ElsIn b w A es) (hb : w.heap.size ≤ b') : ElsIn b' w A es := fun hn => by
  obtain ⟨g, off, hA, _, hc⟩ := h hn
  have hg := World.block_lt_of_cell? w _ (hc 0 hn).1
  refine ⟨g, off, hA, by simp only [] at hg; omega, fun i hi => ?_⟩
  obtain ⟨h1, A', c', h2, h3⟩ := hc i hi
  exact ⟨h1, A', c', h2, h3.other hb⟩
end Go.Proofs.YtglgobmmmghdoaaGreatDoor
