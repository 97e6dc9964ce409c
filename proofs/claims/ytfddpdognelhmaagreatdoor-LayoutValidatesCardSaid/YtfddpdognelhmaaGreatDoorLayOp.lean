/-
  Opening an argument that is a layout by value.
-/
import Derived.Test.YtfddpdognelhmaaGreatDoorLayH
import Derived.Test.YtfddpdognelhmaaGreatDoorLibOB
import Derived.Deep.Slices
namespace Go.Proofs.YtfddpdognelhmaaGreatDoor
open Go.ChangeShapes Go.WideShapes Go.ChangeAt Go.RowKit Go.Joins

instance : Inhabited Nd := ⟨nd0⟩
instance : Inhabited Dv := ⟨dv0⟩
theorem lcellsNode : Tryz.prog.cellsOf 45 = 5 := by kernel_rfl
theorem lcellsDev : Tryz.prog.cellsOf 57 = 3 := by kernel_rfl
theorem lcellsLay : Tryz.prog.cellsOf 25 = 2 := by kernel_rfl
theorem lcellsInt : Tryz.prog.cellsOf 3 = 1 := by kernel_rfl
theorem laddr_add (g off i : Nat) : (⟨g, off, none⟩ : Addr).add i = ⟨g, off + i, none⟩ := by unfold Addr.add; split <;> simp_all
theorem lsome_of {α : Type} {r : Option α} {l : List α} {i : Nat} (h : r = l[i]?) (hi : i < l.length) : ∃ x, r = some x := ⟨l[i], h.trans (List.getElem?_eq_getElem hi)⟩

section
variable {H : Type} {enc : TypeId × Value → H} {W : World} {base : Nat} {v : Value} {d : DataW H} {p : List MemPlace} {b : Nat} {sp : Nat → Bool} {hd : Bool} {n : Nat}

set_option maxRecDepth 100000 in
theorem lnums_at {x : DataW H × List MemPlace} (h : DataW.trod enc Tryz.prog W b sp hd n 26 [v] = some x) : ∃ (A : Option Addr) (c : Nat) (l : List Int), v = .slice A l.length c ∧ l.length ≤ c ∧ ∀ b', W.heap.size ≤ b' → NumsIn b' W A l := by
  rcases Deep.open_slice1 Tryz.underlying26 lcellsInt h with ⟨hcs, _⟩ | ⟨a, len, cap, m, n', V, D, Pl, hcs, _, hl, _, hm, _, hx⟩
  · injection hcs with hcs
    exact ⟨none, 0, [], hcs, Nat.le_refl 0, fun _ _ h => absurd h (Nat.lt_irrefl 0)⟩
  · injection hcs with hcs
    have hall : ∀ i, i < len → ∃ z : Int, W.cell? (a.add i) = some (.int .i64 z) := fun i hi => by
      obtain ⟨h1, h2⟩ := hx i (by rw [hm]; split <;> omega)
      obtain ⟨s, e, _, _⟩ := DataW.trod_int Tryz.underlying3 h2
      injection e with e
      rw [e] at h1
      exact ⟨s, h1⟩
    obtain ⟨f, hF⟩ := Deep.choose_lt (α := Int) (p := fun i s => W.cell? (a.add i) = some (.int .i64 s)) hall
    refine ⟨some a, cap, (List.range len).map f, by rw [hcs]; simp, by simpa using hl, fun b' hb' hpos => ?_⟩
    have hpos' : 0 < len := by simpa using hpos
    obtain ⟨g, off, spot⟩ := a
    have h0 := hF 0 hpos'
    have hs : spot = none := by simpa [Addr.add] using World.cell?_spot h0
    subst hs
    rw [laddr_add] at h0
    have hg := World.block_lt_of_cell? W _ h0
    refine ⟨g, off, rfl, by simp only [] at hg; omega, fun i hi => ?_⟩
    have hi' : i < len := by simpa using hi
    have := hF i hi'
    rw [laddr_add] at this
    rw [this, List.getD_eq_getElem?_getD, List.getElem?_map, List.getElem?_range hi']
    rfl
/-- The five cells of a node. -/
def NdC (W : World) (cs : List Value) (y : Nd) : Prop := ∃ (A : Option Addr) (c : Nat), cs = [.string y.name, .int .i64 y.kind, .int .i64 y.len, .int .i64 y.zone, .slice A y.exits.length c] ∧ y.exits.length ≤ c ∧ ∀ b', W.heap.size ≤ b' → NumsIn b' W A y.exits
set_option maxRecDepth 100000 in
theorem nd_opened {cs : List Value} {x : DataW H × List MemPlace} (hl : cs.length = 5) (h : DataW.trod enc Tryz.prog W b sp hd n 45 cs = some x) : ∃ y : Nd, NdC W cs y := by
  obtain ⟨c0, c1, c2, c3, c4, rfl⟩ : ∃ a b c d e, cs = [a, b, c, d, e] := by
    match cs, hl with
    | [a, b, c, d, e], _ => exact ⟨a, b, c, d, e, rfl⟩
  obtain ⟨xs, n', _, _, _, hlen, hx⟩ := DataW.trod_struct Tryz.underlying45 h
  have hlen' : xs.length = 5 := hlen
  obtain ⟨y0, h0⟩ := lsome_of (show DataW.trod enc Tryz.prog W b sp hd n' 9 [c0] = xs[0]? from hx 0 _ rfl) (by omega)
  obtain ⟨y1, h1⟩ := lsome_of (show DataW.trod enc Tryz.prog W b sp hd n' 3 [c1] = xs[1]? from hx 1 _ rfl) (by omega)
  obtain ⟨y2, h2⟩ := lsome_of (show DataW.trod enc Tryz.prog W b sp hd n' 3 [c2] = xs[2]? from hx 2 _ rfl) (by omega)
  obtain ⟨y3, h3⟩ := lsome_of (show DataW.trod enc Tryz.prog W b sp hd n' 3 [c3] = xs[3]? from hx 3 _ rfl) (by omega)
  obtain ⟨y4, h4⟩ := lsome_of (show DataW.trod enc Tryz.prog W b sp hd n' 26 [c4] = xs[4]? from hx 4 _ rfl) (by omega)
  obtain ⟨x0, e0, -, -⟩ := DataW.trod_string Tryz.underlying9 h0
  obtain rfl : c0 = _ := by injection e0
  obtain ⟨x1, e1, -, -⟩ := DataW.trod_int Tryz.underlying3 h1
  obtain rfl : c1 = _ := by injection e1
  obtain ⟨x2, e2, -, -⟩ := DataW.trod_int Tryz.underlying3 h2
  obtain rfl : c2 = _ := by injection e2
  obtain ⟨x3, e3, -, -⟩ := DataW.trod_int Tryz.underlying3 h3
  obtain rfl : c3 = _ := by injection e3
  obtain ⟨A, c, l, rfl, hlc, hn⟩ := lnums_at h4
  exact ⟨⟨x0, x1, x2, x3, l⟩, A, c, rfl, hlc, hn⟩
set_option maxRecDepth 100000 in
theorem lnodes_at {x : DataW H × List MemPlace} (h : DataW.trod enc Tryz.prog W b sp hd n 22 [v] = some x) : ∃ (A : Option Addr) (c : Nat) (l : List Nd), v = .slice A l.length c ∧ l.length ≤ maxLen ∧ ∀ b', W.heap.size ≤ b' → NdsIn b' W A l := by
  rcases Deep.open_slice Tryz.underlying22 h with ⟨hcs, _⟩ | ⟨a, len, cap, m, n', D, Pl, hcs, _, hlc, hcm, hm, _, hx⟩
  · injection hcs with hcs
    exact ⟨none, 0, [], hcs, Nat.zero_le _, fun _ _ h => absurd h (Nat.lt_irrefl 0)⟩
  · injection hcs with hcs
    rw [lcellsNode] at hx
    have hall : ∀ i, i < len → ∃ e : Nd, ∃ cs, NdC W cs e ∧ ∀ k, k < 5 → W.cell? ((a.add (i * 5)).add k) = cs[k]? := fun i hi => by
      obtain ⟨cs', h1, h2⟩ := hx i (by rw [hm]; split <;> omega)
      obtain ⟨_, hl, hat⟩ := World.cells?_some h1
      obtain ⟨y, hy⟩ := nd_opened hl h2
      exact ⟨y, cs', hy, fun k hk => (hat k hk).symm ▸ rfl⟩
    obtain ⟨f, hF⟩ := Deep.choose_lt (α := Nd) (p := fun i e => ∃ cs, NdC W cs e ∧ ∀ k, k < 5 → W.cell? ((a.add (i * 5)).add k) = cs[k]?) hall
    refine ⟨some a, cap, (List.range len).map f, by rw [hcs]; simp, by rw [List.length_map, List.length_range]; omega, fun b' hb' hpos => ?_⟩
    have hpos' : 0 < len := by simpa using hpos
    obtain ⟨g, off, spot⟩ := a
    have hs : spot = none := by
      obtain ⟨cs, ⟨A, c, rfl, _⟩, hk⟩ := hF 0 hpos'
      simpa [Addr.add] using World.cell?_spot (hk 0 (by omega))
    subst hs
    have hg : g < W.heap.size := by
      obtain ⟨cs, ⟨A, c, rfl, _⟩, hk⟩ := hF 0 hpos'
      have h0 := hk 0 (by omega)
      rw [laddr_add, laddr_add] at h0
      have := World.block_lt_of_cell? W _ h0
      simpa using this
    refine ⟨g, off, rfl, by omega, fun i hi => ?_⟩
    have hi' : i < len := by simpa using hi
    obtain ⟨cs, ⟨A, c, rfl, hlx, hn⟩, hk⟩ := hF i hi'
    simp only [laddr_add] at hk
    have e1 : ((List.range len).map f).getD i nd0 = f i := by rw [List.getD_eq_getElem?_getD, List.getElem?_map, List.getElem?_range hi']; rfl
    rw [e1]
    exact ⟨hk 0 (by omega), hk 1 (by omega), hk 2 (by omega), hk 3 (by omega), A, c, hk 4 (by omega), hlx, hn b' hb'⟩
set_option maxRecDepth 100000 in
theorem dv_opened {cs : List Value} {x : DataW H × List MemPlace} (hl : cs.length = 3) (h : DataW.trod enc Tryz.prog W b sp hd n 57 cs = some x) : ∃ y : Dv, cs = [.int .i64 y.kind, .int .i64 y.node, .int .i64 y.win] := by
  obtain ⟨c0, c1, c2, rfl⟩ : ∃ a b c, cs = [a, b, c] := by
    match cs, hl with
    | [a, b, c], _ => exact ⟨a, b, c, rfl⟩
  obtain ⟨xs, n', _, _, _, hlen, hx⟩ := DataW.trod_struct Tryz.underlying57 h
  have hlen' : xs.length = 3 := hlen
  obtain ⟨y0, h0⟩ := lsome_of (show DataW.trod enc Tryz.prog W b sp hd n' 3 [c0] = xs[0]? from hx 0 _ rfl) (by omega)
  obtain ⟨y1, h1⟩ := lsome_of (show DataW.trod enc Tryz.prog W b sp hd n' 3 [c1] = xs[1]? from hx 1 _ rfl) (by omega)
  obtain ⟨y2, h2⟩ := lsome_of (show DataW.trod enc Tryz.prog W b sp hd n' 3 [c2] = xs[2]? from hx 2 _ rfl) (by omega)
  obtain ⟨x0, e0, -, -⟩ := DataW.trod_int Tryz.underlying3 h0
  obtain rfl : c0 = _ := by injection e0
  obtain ⟨x1, e1, -, -⟩ := DataW.trod_int Tryz.underlying3 h1
  obtain rfl : c1 = _ := by injection e1
  obtain ⟨x2, e2, -, -⟩ := DataW.trod_int Tryz.underlying3 h2
  obtain rfl : c2 = _ := by injection e2
  exact ⟨⟨x0, x1, x2⟩, rfl⟩
set_option maxRecDepth 100000 in
theorem ldevs_at {x : DataW H × List MemPlace} (h : DataW.trod enc Tryz.prog W b sp hd n 23 [v] = some x) : ∃ (A : Option Addr) (c : Nat) (l : List Dv), v = .slice A l.length c ∧ l.length ≤ maxLen ∧ ∀ b', W.heap.size ≤ b' → DvsIn b' W A l := by
  rcases Deep.open_slice Tryz.underlying23 h with ⟨hcs, _⟩ | ⟨a, len, cap, m, n', D, Pl, hcs, _, hlc, hcm, hm, _, hx⟩
  · injection hcs with hcs
    exact ⟨none, 0, [], hcs, Nat.zero_le _, fun _ _ h => absurd h (Nat.lt_irrefl 0)⟩
  · injection hcs with hcs
    rw [lcellsDev] at hx
    have hall : ∀ i, i < len → ∃ e : Dv, ∀ k, k < 3 → W.cell? ((a.add (i * 3)).add k) = ([.int .i64 e.kind, .int .i64 e.node, .int .i64 e.win] : List Value)[k]? := fun i hi => by
      obtain ⟨cs', h1, h2⟩ := hx i (by rw [hm]; split <;> omega)
      obtain ⟨_, hl, hat⟩ := World.cells?_some h1
      obtain ⟨y, rfl⟩ := dv_opened hl h2
      exact ⟨y, fun k hk => (hat k hk).symm ▸ rfl⟩
    obtain ⟨f, hF⟩ := Deep.choose_lt (α := Dv) (p := fun i e => ∀ k, k < 3 → W.cell? ((a.add (i * 3)).add k) = ([.int .i64 e.kind, .int .i64 e.node, .int .i64 e.win] : List Value)[k]?) hall
    refine ⟨some a, cap, (List.range len).map f, by rw [hcs]; simp, by rw [List.length_map, List.length_range]; omega, fun b' hb' hpos => ?_⟩
    have hpos' : 0 < len := by simpa using hpos
    obtain ⟨g, off, spot⟩ := a
    have h0 := hF 0 hpos' 0 (by omega)
    have hs : spot = none := by simpa [Addr.add] using World.cell?_spot h0
    subst hs
    rw [laddr_add, laddr_add] at h0
    have hg := World.block_lt_of_cell? W _ h0
    refine ⟨g, off, rfl, by simp only [] at hg; omega, fun i hi => ?_⟩
    have hi' : i < len := by simpa using hi
    have hk := hF i hi'
    simp only [laddr_add] at hk
    have e1 : ((List.range len).map f).getD i dv0 = f i := by rw [List.getD_eq_getElem?_getD, List.getElem?_map, List.getElem?_range hi']; rfl
    rw [e1]
    exact ⟨hk 0 (by omega), hk 1 (by omega), hk 2 (by omega)⟩
end
section
variable {H : Type} {enc : TypeId × Value → H} {W : World} {base : Nat} {v : Value} {d : DataW H} {p : List MemPlace}
set_option maxRecDepth 100000 in
theorem law_lay (hv : Value.okWide Tryz.prog W .any base 25 v) (h : DataW.Trod enc Tryz.prog W 0 (fun _ => true) true 25 v d p) :
    ∃ (x : Lay) (A : Option Addr) (c : Nat) (D : Option Addr) (e : Nat), v = lV x A c D e ∧ x.nodes.length ≤ maxLen ∧ x.devs.length ≤ maxLen ∧ (∀ b', W.heap.size ≤ b' → NdsIn b' W A x.nodes) ∧ (∀ b', W.heap.size ≤ b' → DvsIn b' W D x.devs) := by
  obtain ⟨cs, rfl, hsz⟩ := okWide_struct Tryz.underlying25 hv
  obtain ⟨c0, c1, rfl⟩ : ∃ c0 c1, cs = #[c0, c1] := by
    obtain ⟨l⟩ := cs
    match l, hsz.trans lcellsLay with
    | [a, b], _ => exact ⟨a, b, rfl⟩
  obtain ⟨fuel, hf⟩ := h
  obtain ⟨xs, n, _, _, _, hlen, hx⟩ := DataW.trod_struct Tryz.underlying25 hf
  have hlen' : xs.length = 2 := hlen
  clear hf hv hsz
  obtain ⟨y0, h0⟩ := lsome_of (show DataW.trod enc Tryz.prog W 0 (fun _ => true) true n 22 [c0] = xs[0]? from hx 0 _ rfl) (by omega)
  obtain ⟨y1, h1⟩ := lsome_of (show DataW.trod enc Tryz.prog W 0 (fun _ => true) true n 23 [c1] = xs[1]? from hx 1 _ rfl) (by omega)
  obtain ⟨A, c, l, rfl, z0, k0⟩ := lnodes_at h0
  obtain ⟨D, e, ds, rfl, z1, k1⟩ := ldevs_at h1
  exact ⟨⟨l, ds⟩, A, c, D, e, rfl, z0, z1, k0, k1⟩
end

/-- A layout that is small. -/
structure LightL (x : Lay) : Prop where
  nn : x.nodes.length ≤ 40
  nd : x.devs.length ≤ 60
  ex : ∀ i, i < x.nodes.length → (x.nodes.getD i nd0).exits.length ≤ 20
theorem LightL.lay {x : Lay} (h : LightL x) {b : Nat} {w : World} {A D : Option Addr} (hN : NdsIn b w A x.nodes) (hD : DvsIn b w D x.devs) : LayIn b w x A D :=
  ⟨hN, hD, fun y hy => by
    obtain ⟨i, hi, rfl⟩ := List.getElem_of_mem hy
    have := h.ex i hi
    rw [at_k hi] at this
    omega, by have := h.nn; omega, by have := h.nd; omega⟩
/-- What light comes to. -/
def LightTo (x : Lay) (w : World) (e : Ending) (w' : World) : Prop := ∃ r : Bool, e = .returned (.bool r) ∧ (r = true → LightL x) ∧ Below w.heap.size w w'
set_option maxHeartbeats 2000000 in
theorem llight_any (b : Nat) (x : Lay) (A D : Option Addr) (c d : Nat) (w : World) (hz : x.nodes.length ≤ maxLen) (h : NdsIn b w A x.nodes) :
    Calls Tryz.prog 4 #[lV x A c D d] w (LightTo x w) := by
  have b1 := (Below.refl w.heap.size w).alloc (Nat.le_refl _) (lO x A c D d)
  have B1 := hide b1
  have HX := hide (heap_alloc_new w (lO x A c D d))
  have HI := hide (h.keep b1)
  have hz2 : (x.nodes.length : Int) ≤ 9223372036854775807 := by unfold maxLen at hz; omega
  clear b1 h
  go_enter Tryz.func4, Tryz.ntmps4
  go_wp2
  generalize w.alloc (lO x A c D d) = W1 at *
  go_loopw [3] (fun iv wr => ∃ i : Nat, i ≤ x.nodes.length ∧ iv = .int .i64 i ∧ Hid (∀ j, j < i → (x.nodes.getD j nd0).exits.length ≤ 20) ∧ W1 = wr) (fun iv _ => x.nodes.length - (intOf iv).toNat)
  case atStart => exact ⟨0, Nat.zero_le _, rfl, Lib.hid fun j hj => absurd hj (Nat.not_lt_zero _), rfl⟩
  case round =>
    obtain ⟨i, hi, rfl, hex, rfl⟩ := hrel
    have l0 : W1.cell? ⟨w.heap.size, 0, none⟩ = some (.slice A x.nodes.length c) := by rw [Lib.cell_of_heap (unhide HX)]; rfl
    have l1 : W1.cell? ⟨w.heap.size, 1, none⟩ = some (.slice D x.devs.length d) := by rw [Lib.cell_of_heap (unhide HX)]; rfl
    by_cases hlt : i < x.nodes.length
    · have il : (i : Int) < (x.nodes.length : Int) := by omega
      have i0 : (0 : Int) ≤ (i : Int) := by omega
      obtain ⟨g, off, hA, _, hcl⟩ := (unhide HI) (by omega)
      subst hA
      obtain ⟨q0, q1, q2, q3, P, cp, q4, _, _⟩ := hcl i hlt
      have HS := hide (fun h => upto_step (p := fun j => (x.nodes.getD j nd0).exits.length ≤ 20) (k := i) hex.out h)
      generalize x.nodes.getD i nd0 = nd at *
      clear hcl hex
      by_cases h20 : (20 : Int) < (nd.exits.length : Int)
      · go_wp2
        go_ret
        exact ⟨false, rfl, fun h => Bool.noConfusion h, unhide B1⟩
      · by_cases h60 : (60 : Int) < (nd.name.size : Int)
        · go_wp2
          go_ret
          exact ⟨false, rfl, fun h => Bool.noConfusion h, unhide B1⟩
        · have HE := hide (unhide HS (by omega))
          go_wp2
          go_roundw
          case rel => exact ⟨i + 1, by omega, by go_num, Lib.hid (unhide HE), trivial⟩
          case measure => simp [intOf]; omega
    · obtain rfl : i = x.nodes.length := by omega
      have il : ¬ ((x.nodes.length : Int) < (x.nodes.length : Int)) := by omega
      by_cases h40 : (x.nodes.length : Int) ≤ 40
      · by_cases h60 : (x.devs.length : Int) ≤ 60
        · have HL := hide (show LightL x from ⟨by omega, by omega, fun j hj => hex.out j hj⟩)
          go_wp2
          go_ret
          exact ⟨true, rfl, fun _ => unhide HL, unhide B1⟩
        · go_wp2
          go_ret
          exact ⟨false, rfl, fun h => Bool.noConfusion h, unhide B1⟩
      · go_wp2
        go_ret
        exact ⟨false, rfl, fun h => Bool.noConfusion h, unhide B1⟩
end Go.Proofs.YtfddpdognelhmaaGreatDoor
