/-
  Contract of the reader's AnyPlate; a message that the reader builds, under way.
-/
import Derived.Test.YtglgobmmmghdoaaGreatDoorMsgAA
import Derived.Test.YtglgobmmmghdoaaGreatDoorLibOB
namespace Go.Proofs.YtglgobmmmghdoaaGreatDoor
open Go.RowKit

def fewPl (i : Nat) : Int := if i = 0 then 0 else if i = 1 then 1 else if i = 2 then 2 else if i = 3 then 3 else if i = 4 then 5 else if i = 5 then 999998 else 999999
theorem fewPl_range (i : Nat) : 0 ≤ fewPl i ∧ fewPl i ≤ 999999 := by unfold fewPl; repeat' split
                                                                     all_goals omega
theorem seven_ints {w : World} {t : TypeId} : ∀ i, i < 7 → (w.alloc (.cells #[.int .i64 0, .int .i64 1, .int .i64 2, .int .i64 3, .int .i64 5, .int .i64 999998, .int .i64 999999] t)).cell? ⟨w.heap.size, i, none⟩ = some (.int .i64 (fewPl i)) := by
  intro i hi
  rw [Lib.cell_of_heap (heap_alloc_new w _)]
  match i, hi with
  | 0, _ | 1, _ | 2, _ | 3, _ | 4, _ | 5, _ | 6, _ => rfl
set_option maxHeartbeats 1000000 in
theorem anyplate_any (B b : Nat) (w : World) (hS : Src B b w) :
    Calls Tryz.prog 17 #[.pointer (some ⟨b, 0, none⟩)] w fun e w' => ∃ l a s, e = .returned (plV l a s) ∧ vld l a s = true ∧ Src B b w' ∧ w.grownBy w' (some b) := by
  have R := Rd.start (hS.keep ((Below.refl _ _).alloc (Nat.le_refl _) (.cells #[.int .i64 0, .int .i64 0, .int .i64 0] 33)))
  go_enter Tryz.func17, Tryz.ntmps17
  go_wp2_with fail
  refine (n_any B b 2 _ R.src (by omega) (by omega)).mono ?_
  rintro e w1 ⟨l, rfl, hl1, hl2, hs1, hg1⟩
  have R1 := R.step hs1 hg1
  clear R hs1 hg1
  go_wp2_with fail
  refine (n_any B b 2 _ R1.src (by omega) (by omega)).mono ?_
  rintro e w2 ⟨a, rfl, ha1, ha2, hs1, hg1⟩
  have R2 := R1.step hs1 hg1
  clear R1 hs1 hg1
  go_wp2_with fail
  have R3 := R2.alloc (.cells #[.int .i64 0, .int .i64 1, .int .i64 2, .int .i64 3, .int .i64 5, .int .i64 999998, .int .i64 999999] 3)
  refine (pick_any B b _ 7 fewPl _ R3.src (by omega) (by omega) R2.ne seven_ints).mono ?_
  rintro e w3 ⟨i, _, rfl, hs1, hg1⟩
  have R4 := R3.step hs1 hg1
  have hi := fewPl_range i
  clear R2 R3 hs1 hg1
  have hne : some w.heap.size ≠ some b := by have := hS.lt; simp; omega
  have c0 := R4.gr.cell (a := ⟨w.heap.size, 0, none⟩) (v := .int .i64 0) (by rw [Lib.cell_of_heap (heap_alloc_new w _)]; rfl) hne
  have c1 := R4.gr.cell (a := ⟨w.heap.size, 1, none⟩) (v := .int .i64 0) (by rw [Lib.cell_of_heap (heap_alloc_new w _)]; rfl) hne
  have c2 := R4.gr.cell (a := ⟨w.heap.size, 2, none⟩) (v := .int .i64 0) (by rw [Lib.cell_of_heap (heap_alloc_new w _)]; rfl) hne
  have hf : ∀ j, w3.frozen? ⟨w.heap.size, j, none⟩ = false := fun j => by
    rw [World.frozen?_of_block (R4.gr.block w.heap.size (by rw [World.size_alloc]; omega) hne)]; simp [go_sem]
  have f0 := hf 0
  have f1 := hf 1
  have f2 := hf 2
  clear hf
  go_wp2
  refine bodyPost_ret (v := plV l (117 + a) (fewPl i)) (by simp [results, go_sem, c0, c1, c2]) rfl ?_
  have hg := Lib.grownBy_trans (World.grownBy_alloc w (.cells #[.int .i64 0, .int .i64 0, .int .i64 0] 33) (some b)) R4.gr
  refine ⟨_, _, _, rfl, vld_iff.2 (by omega), R4.src.grown (row := some w.heap.size) (Lib.grownBy_setB (Lib.grownBy_setB (Lib.grownBy_setB (World.grownBy.refl _ _) _ _) _ _) _ _) (fun k hk => by have := hS.lt; injection hk with hk; omega), ?_⟩
  exact ((hg.setNew (Nat.le_refl _) 0 _).setNew (Nat.le_refl _) 1 _).setNew (Nat.le_refl _) 2 _

/-- A message that the reader builds, in its box M. -/
structure Mk (w0 : World) (B b base M : Nat) (m : Msg) (A : Option Addr) (c : Nat) (L : Option Addr) (d : Nat) (W : World) : Prop where
  rd : Rdg w0 (some b) b base M m A c L d W
  src : Src B b W
section
variable {w0 W W' : World} {B b base M : Nat} {m : Msg} {A L : Option Addr} {c d : Nat}
theorem Mk.reads (h : Mk w0 B b base M m A c L d W) (hs : Src B b W') (hg : W.grownBy W' (some b)) : Mk w0 B b base M m A c L d W' := ⟨h.rd.other hg, hs⟩
theorem Mk.below (h : Mk w0 B b base M m A c L d W) (hb : Below W.heap.size W W') : Mk w0 B b base M m A c L d W' := ⟨h.rd.below hb, h.src.keep hb⟩
theorem Mk.alloc (h : Mk w0 B b base M m A c L d W) (o : Obj) : Mk w0 B b base M m A c L d (W.alloc o) := h.below ((Below.refl _ _).alloc (Nat.le_refl _) o)
theorem Mk.lt (h : Mk w0 B b base M m A c L d W) : b + 1 ≤ M := by
  have := h.rd.hr b rfl
  have := h.rd.lM
  omega
theorem Mk.ne (h : Mk w0 B b base M m A c L d W) : some W.heap.size ≠ some b := by have := h.src.lt; simp; omega
theorem Mk.set (h : Mk w0 B b base M m A c L d W) {m' : Msg} (k : Nat) (v : Value) (hm : (msgL m A c L d).setIfInBounds k v = msgL m' A c L d) (h1 : m'.onw = m.onw) (h2 : m'.lst = m.lst) : Mk w0 B b base M m' A c L d (W.setCell ⟨M, k, none⟩ v) :=
  ⟨h.rd.set k v hm h1 h2, h.src.grown (row := some M) (Lib.grownBy_setB (World.grownBy.refl _ _) _ _) (fun k hk => by have := h.lt; injection hk with hk; omega)⟩
/-- A leg's six cells. -/
theorem Mk.inn (h : Mk w0 B b base M m A c L d W) (g : Lg) : Mk w0 B b base M { m with inn := g } A c L d ((((((W.setCell ⟨M, 4, none⟩ (.string g.c)).setCell ⟨M, 5, none⟩ (.int .i64 g.n)).setCell ⟨M, 6, none⟩ (.string g.s)).setCell ⟨M, 7, none⟩ (.int .i64 g.d)).setCell ⟨M, 8, none⟩ (.string g.p)).setCell ⟨M, 9, none⟩ (.string g.k)) :=
  (((((h.set (m' := { m with inn := { m.inn with c := g.c } }) 4 _ rfl rfl rfl).set (m' := { m with inn := { m.inn with c := g.c, n := g.n } }) 5 _ rfl rfl rfl).set (m' := { m with inn := { m.inn with c := g.c, n := g.n, s := g.s } }) 6 _ rfl rfl rfl).set (m' := { m with inn := { m.inn with c := g.c, n := g.n, s := g.s, d := g.d } }) 7 _ rfl rfl rfl).set (m' := { m with inn := { m.inn with c := g.c, n := g.n, s := g.s, d := g.d, p := g.p } }) 8 _ rfl rfl rfl).set (m' := { m with inn := g }) 9 _ rfl rfl rfl
theorem Mk.out (h : Mk w0 B b base M m A c L d W) (g : Lg) : Mk w0 B b base M { m with out := g } A c L d ((((((W.setCell ⟨M, 10, none⟩ (.string g.c)).setCell ⟨M, 11, none⟩ (.int .i64 g.n)).setCell ⟨M, 12, none⟩ (.string g.s)).setCell ⟨M, 13, none⟩ (.int .i64 g.d)).setCell ⟨M, 14, none⟩ (.string g.p)).setCell ⟨M, 15, none⟩ (.string g.k)) :=
  (((((h.set (m' := { m with out := { m.out with c := g.c } }) 10 _ rfl rfl rfl).set (m' := { m with out := { m.out with c := g.c, n := g.n } }) 11 _ rfl rfl rfl).set (m' := { m with out := { m.out with c := g.c, n := g.n, s := g.s } }) 12 _ rfl rfl rfl).set (m' := { m with out := { m.out with c := g.c, n := g.n, s := g.s, d := g.d } }) 13 _ rfl rfl rfl).set (m' := { m with out := { m.out with c := g.c, n := g.n, s := g.s, d := g.d, p := g.p } }) 14 _ rfl rfl rfl).set (m' := { m with out := g }) 15 _ rfl rfl rfl
theorem Mk.plate (h : Mk w0 B b base M m A c L d W) (l a s : Int) : Mk w0 B b base M { m with pl := l, pa := a, ps := s } A c L d (((W.setCell ⟨M, 17, none⟩ (.int .i64 l)).setCell ⟨M, 18, none⟩ (.int .i64 a)).setCell ⟨M, 19, none⟩ (.int .i64 s)) :=
  ((h.set (m' := { m with pl := l }) 17 _ rfl rfl rfl).set (m' := { m with pl := l, pa := a }) 18 _ rfl rfl rfl).set (m' := { m with pl := l, pa := a, ps := s }) 19 _ rfl rfl rfl
theorem Mk.pushNum (h : Mk w0 B b base M m A c L d W) {g cap : Nat} {x : Int}
    (hown : W'.ownsRow base 3 1 (.slice (some ⟨g, 0, none⟩) (m.lst.length + 1) cap) (m.lst.length + 1) (m.lst.map (Value.int .i64) ++ [.int .i64 x])) (hgrow : W.grownBy W' (Value.slice L m.lst.length d).ownBlock) :
    Mk w0 B b base M { m with lst := m.lst ++ [x] } A c (some ⟨g, 0, none⟩) cap (W'.setCell ⟨M, 29, none⟩ (.slice (some ⟨g, 0, none⟩) (m.lst.length + 1) cap)) :=
  ⟨h.rd.pushNum hown hgrow, (h.src.grown hgrow (fun k hk => by have := (h.rd.nums.lt k hk).1; have := h.rd.hb; omega)).grown (row := some M) (Lib.grownBy_setB (World.grownBy.refl _ _) _ _) (fun k hk => by have := h.lt; injection hk with hk; omega)⟩
theorem Mk.pushLeg (h : Mk w0 B b base M m A c L d W) {g cap : Nat} {x : Lg}
    (hown : W'.ownsRow base 30 6 (.slice (some ⟨g, 0, none⟩) (m.onw.length + 1) cap) (m.onw.length + 1) (m.onw.flatMap lgC ++ lgC x)) (hgrow : W.grownBy W' (Value.slice A m.onw.length c).ownBlock) :
    Mk w0 B b base M { m with onw := m.onw ++ [x] } (some ⟨g, 0, none⟩) cap L d (W'.setCell ⟨M, 16, none⟩ (.slice (some ⟨g, 0, none⟩) (m.onw.length + 1) cap)) :=
  ⟨h.rd.pushLeg hown hgrow, (h.src.grown hgrow (fun k hk => by have := (h.rd.legs.lt k hk).1; have := h.rd.hb; omega)).grown (row := some M) (Lib.grownBy_setB (World.grownBy.refl _ _) _ _) (fun k hk => by have := h.lt; injection hk with hk; omega)⟩
theorem Mk.cell (h : Mk w0 B b base M m A c L d W) (k : Nat) : W.cell? ⟨M, k, none⟩ = (msgL m A c L d)[k]? := h.rd.cell k
theorem Mk.frz (h : Mk w0 B b base M m A c L d W) (k : Nat) : W.frozen? ⟨M, k, none⟩ = false := h.rd.frz k
end
end Go.Proofs.YtglgobmmmghdoaaGreatDoor
