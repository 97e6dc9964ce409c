/-
  Openers of the messages' statements, and the tables that their rows list.
-/
import Derived.Test.YtglgobmmmghdoaaGreatDoorLibOB
import Derived.Test.YtglgobmmmghdoaaGreatDoorTabM
import Derived.Test.YtglgobmmmghdoaaGreatDoorMsgA
import Derived.Deep.Slices
import Derived.Test.YtglgobmmmghdoaaGreatDoorMsgG
import Derived.Test.YtglgobmmmghdoaaGreatDoorMsgJ
import Derived.Lib.LaidTab
import Derived.Test.YtglgobmmmghdoaaGreatDoorMsgK
import Derived.LaidMore

/- MsgAH: Opening an argument that is a message by value: its legs, its numbers. -/
namespace Go.Proofs.YtglgobmmmghdoaaGreatDoor
open Go.ChangeShapes Go.WideShapes Go.ChangeAt Go.RowKit Go.Joins

instance : Inhabited Lg := ⟨lg0⟩
theorem mcellsLeg : Tryz.prog.cellsOf 30 = 6 := by kernel_rfl
theorem mcellsFlight : Tryz.prog.cellsOf 28 = 4 := by kernel_rfl
theorem mcellsInt : Tryz.prog.cellsOf 3 = 1 := by kernel_rfl
theorem msix_of (cs : List Value) (h : cs.length = 6) : ∃ a b c d e f, cs = [a, b, c, d, e, f] := by
  match cs, h with
  | [a, b, c, d, e, f], _ => exact ⟨a, b, c, d, e, f, rfl⟩
theorem maddr_add (g off i : Nat) : (⟨g, off, none⟩ : Addr).add i = ⟨g, off + i, none⟩ := by unfold Addr.add; split <;> simp_all

section
variable {H : Type} {enc : TypeId × Value → H} {W : World} {base : Nat} {v : Value} {d : DataW H} {p : List MemPlace} {b : Nat} {sp : Nat → Bool} {hd : Bool} {n : Nat}

set_option maxRecDepth 100000 in
/-- The six cells of a leg. -/
theorem leg_opened {cs : List Value} {x : DataW H × List MemPlace} (hl : cs.length = 6) (h : DataW.trod enc Tryz.prog W b sp hd n 30 cs = some x) : ∃ g : Lg, cs = lgC g := by
  obtain ⟨c0, c1, c2, c3, c4, c5, rfl⟩ := msix_of cs hl
  obtain ⟨y0, y1, y2, m, _, _, h0, h1, h2⟩ := Deep.trod_struct3 Tryz.underlying30 h
  simp [mcellsFlight, mcellsStr] at h0 h1 h2
  obtain ⟨z0, z1, z2, z3, m', _, _, g0, g1, g2, g3⟩ := trod_struct4 Tryz.underlying28 h0
  simp [mcellsStr, mcellsInt] at g0 g1 g2 g3
  obtain ⟨x0, e0, rfl, w0⟩ := DataW.trod_string Tryz.underlying9 g0
  obtain ⟨x1, e1, rfl, w1⟩ := DataW.trod_int Tryz.underlying3 g1
  obtain ⟨x2, e2, rfl, w2⟩ := DataW.trod_string Tryz.underlying9 g2
  obtain ⟨x3, e3, rfl, w3⟩ := DataW.trod_int Tryz.underlying3 g3
  obtain ⟨x4, e4, rfl, w4⟩ := DataW.trod_string Tryz.underlying9 h1
  obtain ⟨x5, e5, rfl, w5⟩ := DataW.trod_string Tryz.underlying9 h2
  simp at e0 e1 e2 e3 e4 e5
  subst e0 e1 e2 e3 e4 e5
  exact ⟨⟨x0, x1, x2, x3, x4, x5⟩, rfl⟩

set_option maxRecDepth 100000 in
theorem nums_at {x : DataW H × List MemPlace} (h : DataW.trod enc Tryz.prog W b sp hd n 22 [v] = some x) : ∃ (A : Option Addr) (c : Nat) (l : List Int), v = .slice A l.length c ∧ ∀ b', W.heap.size ≤ b' → NumsIn b' W A l := by
  rcases Deep.open_slice1 Tryz.underlying22 mcellsInt h with ⟨hcs, _⟩ | ⟨a, len, cap, m, n', V, D, Pl, hcs, _, hl, _, hm, _, hx⟩
  · injection hcs with hcs
    exact ⟨none, 0, [], hcs, fun _ _ h => absurd h (Nat.lt_irrefl 0)⟩
  · injection hcs with hcs
    have hall : ∀ i, i < len → ∃ z : Int, W.cell? (a.add i) = some (.int .i64 z) := fun i hi => by
      obtain ⟨h1, h2⟩ := hx i (by rw [hm]; split <;> omega)
      obtain ⟨s, e, _, _⟩ := DataW.trod_int Tryz.underlying3 h2
      injection e with e
      rw [e] at h1
      exact ⟨s, h1⟩
    obtain ⟨f, hF⟩ := Deep.choose_lt (α := Int) (p := fun i s => W.cell? (a.add i) = some (.int .i64 s)) hall
    refine ⟨some a, cap, (List.range len).map f, by rw [hcs]; simp, fun b' hb' hpos => ?_⟩
    have hpos' : 0 < len := by simpa using hpos
    obtain ⟨g, off, spot⟩ := a
    have h0 := hF 0 hpos'
    have hs : spot = none := by simpa [Addr.add] using World.cell?_spot h0
    subst hs
    rw [maddr_add] at h0
    have hg := World.block_lt_of_cell? W _ h0
    refine ⟨g, off, rfl, by simp only [] at hg; omega, fun i hi => ?_⟩
    have hi' : i < len := by simpa using hi
    have := hF i hi'
    rw [maddr_add] at this
    rw [this, List.getD_eq_getElem?_getD, List.getElem?_map, List.getElem?_range hi']
    rfl

set_option maxRecDepth 100000 in
theorem legs_at {x : DataW H × List MemPlace} (h : DataW.trod enc Tryz.prog W b sp hd n 31 [v] = some x) : ∃ (A : Option Addr) (c : Nat) (l : List Lg), v = .slice A l.length c ∧ ∀ b', W.heap.size ≤ b' → LegsIn b' W A l := by
  rcases Deep.open_slice Tryz.underlying31 h with ⟨hcs, _⟩ | ⟨a, len, cap, m, n', D, Pl, hcs, _, hl, _, hm, _, hx⟩
  · injection hcs with hcs
    exact ⟨none, 0, [], hcs, fun _ _ h => absurd h (Nat.lt_irrefl 0)⟩
  · injection hcs with hcs
    rw [mcellsLeg] at hx
    have hall : ∀ i, i < len → ∃ e : Lg, ∀ k, k < 6 → W.cell? ((a.add (i * 6)).add k) = (lgC e)[k]? := fun i hi => by
      obtain ⟨cs', h1, h2⟩ := hx i (by rw [hm]; split <;> omega)
      obtain ⟨_, hl, hat⟩ := World.cells?_some h1
      obtain ⟨g, rfl⟩ := leg_opened hl h2
      refine ⟨g, fun k hk => ?_⟩
      have := hat k hk
      rw [this]
    obtain ⟨f, hF⟩ := Deep.choose_lt (α := Lg) (p := fun i e => ∀ k, k < 6 → W.cell? ((a.add (i * 6)).add k) = (lgC e)[k]?) hall
    refine ⟨some a, cap, (List.range len).map f, by rw [hcs]; simp, fun b' hb' hpos => ?_⟩
    have hpos' : 0 < len := by simpa using hpos
    obtain ⟨g, off, spot⟩ := a
    have h0 := hF 0 hpos' 0 (by omega)
    have hs : spot = none := by simpa [Addr.add] using World.cell?_spot h0
    subst hs
    rw [maddr_add, maddr_add] at h0
    have hg := World.block_lt_of_cell? W _ h0
    refine ⟨g, off, rfl, by simp only [] at hg; omega, fun i hi => ?_⟩
    have hi' : i < len := by simpa using hi
    have hk := hF i hi'
    simp only [maddr_add] at hk
    have e1 : ((List.range len).map f).getD i lg0 = f i := by rw [List.getD_eq_getElem?_getD, List.getElem?_map, List.getElem?_range hi']; rfl
    rw [e1]
    exact ⟨hk 0 (by omega), hk 1 (by omega), hk 2 (by omega), hk 3 (by omega), hk 4 (by omega), hk 5 (by omega)⟩
end
end Go.Proofs.YtglgobmmmghdoaaGreatDoor

/- MsgAI: Opening an argument that is a message by value. -/
namespace Go.Proofs.YtglgobmmmghdoaaGreatDoor
open Go.ChangeShapes Go.WideShapes Go.ChangeAt Go.RowKit Go.Joins

theorem mcellsMsg : Tryz.prog.cellsOf 35 = 30 := by kernel_rfl
theorem mcellsPlate : Tryz.prog.cellsOf 33 = 3 := by kernel_rfl
theorem mcellsBool : Tryz.prog.cellsOf 4 = 1 := by kernel_rfl
theorem mcellsLegs : Tryz.prog.cellsOf 31 = 1 := by kernel_rfl
theorem mcellsInts : Tryz.prog.cellsOf 22 = 1 := by kernel_rfl
theorem some_of {α : Type} {r : Option α} {l : List α} {i : Nat} (h : r = l[i]?) (hi : i < l.length) : ∃ x, r = some x := ⟨l[i], h.trans (List.getElem?_eq_getElem hi)⟩

theorem thirty_of {α : Type} {cs : Array α} (h : cs.size = 30) : ∃ c0 c1 c2 c3 c4 c5 c6 c7 c8 c9 c10 c11 c12 c13 c14 c15 c16 c17 c18 c19 c20 c21 c22 c23 c24 c25 c26 c27 c28 c29, cs = #[c0, c1, c2, c3, c4, c5, c6, c7, c8, c9, c10, c11, c12, c13, c14, c15, c16, c17, c18, c19, c20, c21, c22, c23, c24, c25, c26, c27, c28, c29] := by
  obtain ⟨l⟩ := cs
  match l, h with
  | [c0, c1, c2, c3, c4, c5, c6, c7, c8, c9, c10, c11, c12, c13, c14, c15, c16, c17, c18, c19, c20, c21, c22, c23, c24, c25, c26, c27, c28, c29], _ => exact ⟨c0, c1, c2, c3, c4, c5, c6, c7, c8, c9, c10, c11, c12, c13, c14, c15, c16, c17, c18, c19, c20, c21, c22, c23, c24, c25, c26, c27, c28, c29, rfl⟩

theorem list_six {a b c d e f a' b' c' d' e' f' : Value} (h : [a, b, c, d, e, f] = [a', b', c', d', e', f']) : a = a' ∧ b = b' ∧ c = c' ∧ d = d' ∧ e = e' ∧ f = f' := by simpa using h
section
variable {H : Type} {enc : TypeId × Value → H} {W : World} {base : Nat} {v : Value} {d : DataW H} {p : List MemPlace}
set_option maxRecDepth 100000 in
set_option maxHeartbeats 4000000 in
theorem law_msg (hv : Value.okWide Tryz.prog W .any base 35 v) (h : DataW.Trod enc Tryz.prog W 0 (fun _ => true) true 35 v d p) :
    ∃ (m : Msg) (A : Option Addr) (c : Nat) (L : Option Addr) (e : Nat), v = msgV m A c L e ∧ (∀ b', W.heap.size ≤ b' → LegsIn b' W A m.onw) ∧ (∀ b', W.heap.size ≤ b' → NumsIn b' W L m.lst) := by
  obtain ⟨cs, rfl, hsz⟩ := okWide_struct Tryz.underlying35 hv
  obtain ⟨c0, c1, c2, c3, c4, c5, c6, c7, c8, c9, c10, c11, c12, c13, c14, c15, c16, c17, c18, c19, c20, c21, c22, c23, c24, c25, c26, c27, c28, c29, rfl⟩ := thirty_of (hsz.trans mcellsMsg)
  obtain ⟨fuel, hf⟩ := h
  obtain ⟨xs, n, _, _, _, hlen, hx⟩ := DataW.trod_struct Tryz.underlying35 hf
  have hlen' : xs.length = 18 := hlen
  clear hf hv hsz
  obtain ⟨y0, h0⟩ := some_of (show DataW.trod enc Tryz.prog W 0 (fun _ => true) true n 3 [c0] = xs[0]? from hx 0 _ rfl) (by omega)
  obtain ⟨y1, h1⟩ := some_of (show DataW.trod enc Tryz.prog W 0 (fun _ => true) true n 3 [c1] = xs[1]? from hx 1 _ rfl) (by omega)
  obtain ⟨y2, h2⟩ := some_of (show DataW.trod enc Tryz.prog W 0 (fun _ => true) true n 9 [c2] = xs[2]? from hx 2 _ rfl) (by omega)
  obtain ⟨y3, h3⟩ := some_of (show DataW.trod enc Tryz.prog W 0 (fun _ => true) true n 3 [c3] = xs[3]? from hx 3 _ rfl) (by omega)
  obtain ⟨y4, h4⟩ := some_of (show DataW.trod enc Tryz.prog W 0 (fun _ => true) true n 30 [c4, c5, c6, c7, c8, c9] = xs[4]? from hx 4 _ rfl) (by omega)
  obtain ⟨y5, h5⟩ := some_of (show DataW.trod enc Tryz.prog W 0 (fun _ => true) true n 30 [c10, c11, c12, c13, c14, c15] = xs[5]? from hx 5 _ rfl) (by omega)
  obtain ⟨y6, h6⟩ := some_of (show DataW.trod enc Tryz.prog W 0 (fun _ => true) true n 31 [c16] = xs[6]? from hx 6 _ rfl) (by omega)
  obtain ⟨y7, h7⟩ := some_of (show DataW.trod enc Tryz.prog W 0 (fun _ => true) true n 33 [c17, c18, c19] = xs[7]? from hx 7 _ rfl) (by omega)
  obtain ⟨y8, h8⟩ := some_of (show DataW.trod enc Tryz.prog W 0 (fun _ => true) true n 3 [c20] = xs[8]? from hx 8 _ rfl) (by omega)
  obtain ⟨y9, h9⟩ := some_of (show DataW.trod enc Tryz.prog W 0 (fun _ => true) true n 4 [c21] = xs[9]? from hx 9 _ rfl) (by omega)
  obtain ⟨y10, h10⟩ := some_of (show DataW.trod enc Tryz.prog W 0 (fun _ => true) true n 3 [c22] = xs[10]? from hx 10 _ rfl) (by omega)
  obtain ⟨y11, h11⟩ := some_of (show DataW.trod enc Tryz.prog W 0 (fun _ => true) true n 3 [c23] = xs[11]? from hx 11 _ rfl) (by omega)
  obtain ⟨y12, h12⟩ := some_of (show DataW.trod enc Tryz.prog W 0 (fun _ => true) true n 3 [c24] = xs[12]? from hx 12 _ rfl) (by omega)
  obtain ⟨y13, h13⟩ := some_of (show DataW.trod enc Tryz.prog W 0 (fun _ => true) true n 9 [c25] = xs[13]? from hx 13 _ rfl) (by omega)
  obtain ⟨y14, h14⟩ := some_of (show DataW.trod enc Tryz.prog W 0 (fun _ => true) true n 9 [c26] = xs[14]? from hx 14 _ rfl) (by omega)
  obtain ⟨y15, h15⟩ := some_of (show DataW.trod enc Tryz.prog W 0 (fun _ => true) true n 3 [c27] = xs[15]? from hx 15 _ rfl) (by omega)
  obtain ⟨y16, h16⟩ := some_of (show DataW.trod enc Tryz.prog W 0 (fun _ => true) true n 9 [c28] = xs[16]? from hx 16 _ rfl) (by omega)
  obtain ⟨y17, h17⟩ := some_of (show DataW.trod enc Tryz.prog W 0 (fun _ => true) true n 22 [c29] = xs[17]? from hx 17 _ rfl) (by omega)
  clear hx hlen
  obtain ⟨x0, e0, -, -⟩ := DataW.trod_int Tryz.underlying3 h0
  obtain rfl : c0 = _ := by injection e0
  obtain ⟨x1, e1, -, -⟩ := DataW.trod_int Tryz.underlying3 h1
  obtain rfl : c1 = _ := by injection e1
  obtain ⟨x2, e2, -, -⟩ := DataW.trod_string Tryz.underlying9 h2
  obtain rfl : c2 = _ := by injection e2
  obtain ⟨x3, e3, -, -⟩ := DataW.trod_int Tryz.underlying3 h3
  obtain rfl : c3 = _ := by injection e3
  obtain ⟨x4, e4⟩ := leg_opened rfl h4
  obtain ⟨rfl, rfl, rfl, rfl, rfl, rfl⟩ := list_six e4
  obtain ⟨x5, e5⟩ := leg_opened rfl h5
  obtain ⟨rfl, rfl, rfl, rfl, rfl, rfl⟩ := list_six e5
  obtain ⟨A6, q6, x6, rfl, k6⟩ := legs_at h6
  obtain ⟨z0, z1, z2, n7, _, _, g0, g1, g2⟩ := Deep.trod_struct3 Tryz.underlying33 h7
  obtain ⟨w0, u0, -, -⟩ := DataW.trod_int Tryz.underlying3 (show DataW.trod enc Tryz.prog W 0 (fun _ => true) true n7 3 [c17] = some z0 from g0)
  obtain rfl : c17 = _ := by injection u0
  obtain ⟨w1, u1, -, -⟩ := DataW.trod_int Tryz.underlying3 (show DataW.trod enc Tryz.prog W 0 (fun _ => true) true n7 3 [c18] = some z1 from g1)
  obtain rfl : c18 = _ := by injection u1
  obtain ⟨w2, u2, -, -⟩ := DataW.trod_int Tryz.underlying3 (show DataW.trod enc Tryz.prog W 0 (fun _ => true) true n7 3 [c19] = some z2 from g2)
  obtain rfl : c19 = _ := by injection u2
  obtain ⟨x8, e8, -, -⟩ := DataW.trod_int Tryz.underlying3 h8
  obtain rfl : c20 = _ := by injection e8
  obtain ⟨x9, e9, -⟩ := DataW.trod_bool Tryz.underlying4 h9
  obtain rfl : c21 = _ := by injection e9
  obtain ⟨x10, e10, -, -⟩ := DataW.trod_int Tryz.underlying3 h10
  obtain rfl : c22 = _ := by injection e10
  obtain ⟨x11, e11, -, -⟩ := DataW.trod_int Tryz.underlying3 h11
  obtain rfl : c23 = _ := by injection e11
  obtain ⟨x12, e12, -, -⟩ := DataW.trod_int Tryz.underlying3 h12
  obtain rfl : c24 = _ := by injection e12
  obtain ⟨x13, e13, -, -⟩ := DataW.trod_string Tryz.underlying9 h13
  obtain rfl : c25 = _ := by injection e13
  obtain ⟨x14, e14, -, -⟩ := DataW.trod_string Tryz.underlying9 h14
  obtain rfl : c26 = _ := by injection e14
  obtain ⟨x15, e15, -, -⟩ := DataW.trod_int Tryz.underlying3 h15
  obtain rfl : c27 = _ := by injection e15
  obtain ⟨x16, e16, -, -⟩ := DataW.trod_string Tryz.underlying9 h16
  obtain rfl : c28 = _ := by injection e16
  obtain ⟨A17, q17, x17, rfl, k17⟩ := nums_at h17
  exact ⟨⟨x0, x1, x2, x3, x4, x5, x6, w0, w1, w2, x8, x9, x10, x11, x12, x13, x14, x15, x16, x17⟩, A6, q6, A17, q17, rfl, k6, k17⟩
end
end Go.Proofs.YtglgobmmmghdoaaGreatDoor

/- MsgAJ: Tables of strings: what the row's list says of their cells. -/
namespace Go.Proofs.YtglgobmmmghdoaaGreatDoor
open Go.ChangeShapes Go.WideShapes Go.ChangeAt Go.RowKit Go.Joins

/-- The bytes of the program's keys. -/
def keysB : List (List UInt8) := [[], [86, 70, 79, 78, 83, 87, 80, 88], [86, 73, 70, 79, 78, 83, 87, 80, 88], [86, 78, 74], [86, 70, 78], [86, 70, 66]]
theorem keys_laid {W : World} {rest : List (String × DataW Unit)} {q : List MemPlace} (h : DataW.LaidVars Tryz.prog W (("baggage/message.keys", .agg (keysB.map fun s => .lit (.string s))) :: rest) q) : Keys W := by
  obtain ⟨g, t, cs, fuel, p, _, hg, hty, hv, hd, _, _⟩ := h
  have hgn : Tryz.prog.globalNamed "baggage/message.keys" = some 1 := by kernel_rfl
  obtain rfl := Option.some.inj (hgn.symm.trans hg)
  have htn : (Tryz.prog.globals[1]?).map (·.type) = some 65 := by kernel_rfl
  obtain rfl := Option.some.inj (htn.symm.trans hty)
  intro i hi
  rw [World.var?_cell hgn hv i, ← Array.getElem?_toList]
  have hc := strs_cells Tryz.underlying65 Tryz.underlying9 mcellsStr hd i
  match i, hi with
  | 0, _ => exact hc _ rfl
  | 1, _ => exact hc _ rfl
  | 2, _ => exact hc _ rfl
  | 3, _ => exact hc _ rfl
  | 4, _ => exact hc _ rfl
  | 5, _ => exact hc _ rfl

/-- The bytes of the program's words. -/
def wordsB : List (List (List UInt8)) := [[[], [66, 83, 77], [66, 84, 77], [66, 80, 77], [66, 85, 77], [66, 66, 77]], [[], [67, 72, 71], [68, 69, 76], [], [], []], [[], [67], [83], [78], [66], []], [[], [82, 85, 83, 72], [67, 82, 69, 87], [67, 65, 82, 71, 79], [], []]]
theorem wordsB_at : ∀ r : Nat, r < 4 → ∀ i : Nat, i < 6 → (wordsB[r]?).bind (fun row => row[i]?) = some (wordS r (i : Int)).data.toList := by decide +kernel
theorem mcells6 : Tryz.prog.cellsOf 65 = 6 := by kernel_rfl
theorem words_laid {W : World} {rest : List (String × DataW Unit)} {q : List MemPlace} (h : DataW.LaidVars Tryz.prog W (("baggage/message.words", .agg (wordsB.map fun r => .agg (r.map fun s => .lit (.string s)))) :: rest) q) : Words W := by
  obtain ⟨g, t, cs, fuel, p, _, hg, hty, hv, hd, _, _⟩ := h
  have hgn : Tryz.prog.globalNamed "baggage/message.words" = some 0 := by kernel_rfl
  obtain rfl := Option.some.inj (hgn.symm.trans hg)
  have htn : (Tryz.prog.globals[0]?).map (·.type) = some 66 := by kernel_rfl
  obtain rfl := Option.some.inj (htn.symm.trans hty)
  obtain ⟨xs, m, _, hx, _, hl, hf⟩ := DataW.trod_array Tryz.underlying66 hd
  have h1 : wordsB.map (fun r => (DataW.agg (r.map fun s => .lit (.string s)) : DataW Unit)) = xs.map (·.1) := by
    have := congrArg Prod.fst hx
    simpa using this
  intro r i hr hi
  have hxr : xs[r]? = some xs[r] := List.getElem?_eq_getElem (by omega)
  have h2 := hf r hr
  rw [hxr, mcells6] at h2
  have h3 : (wordsB.map (fun r => (DataW.agg (r.map fun s => .lit (.string s)) : DataW Unit)))[r]? = (xs.map (·.1))[r]? := by rw [h1]
  have hw := wordsB_at r hr i hi
  obtain ⟨row, hrow, hri⟩ := Option.bind_eq_some_iff.1 hw
  rw [List.getElem?_map, List.getElem?_map, hxr, hrow] at h3
  have h4 : DataW.agg (row.map fun s => .lit (.string s)) = xs[r].1 := Option.some.inj h3
  have hc := strs_cells (p := xs[r].2) Tryz.underlying65 Tryz.underlying9 mcellsStr (by rw [h2, h4]) i _ hri
  rw [World.var?_cell hgn hv, ← Array.getElem?_toList]
  rw [List.getElem?_take, if_pos hi, List.getElem?_drop] at hc
  exact hc
end Go.Proofs.YtglgobmmmghdoaaGreatDoor

/- MsgAK: The tables of the laws over messages, from the row's list. -/
namespace Go.Proofs.YtglgobmmmghdoaaGreatDoor
open Go.ChangeShapes Go.WideShapes Go.ChangeAt Go.RowKit Go.Joins

end Go.Proofs.YtglgobmmmghdoaaGreatDoor
