/-
  LayoutLimits: the walk.
-/
import Derived.Test.YtmonjjffbmccjaaDoorLayLm
import Derived.Test.YtmonjjffbmccjaaDoorLayU
import Derived.Test.YtmonjjffbmccjaaDoorLayAw
import Derived.OrdersHeld
import Derived.Test.YtmonjjffbmccjaaDoorAnyH
namespace Go.Proofs.YtmonjjffbmccjaaDoor
open Go.RowKit

/-- A layout under construction: its box, its rows of nodes and of devices. -/
structure LmS (W0 : World) (q : Nat) (A : Option Addr) (c : Nat) (us : List NdS) (D : Option Addr) (d : Nat) (ds : List Dv) (wr : World) : Prop where
  bel : Below W0.heap.size W0 wr
  box : wr.heap[q]? = some (.cells #[.slice A us.length c, .slice D ds.length d] 29 (0, 0))
  nrow : wr.ownsRow W0.heap.size 25 5 (.slice A us.length c) us.length (ndsV us)
  drow : wr.ownsRow W0.heap.size 32 3 (.slice D ds.length d) ds.length (dvsV ds)
  lies : ∀ u ∈ us, IntRow 0 wr u.P u.x.exits ∧ u.x.exits.length ≤ u.c
  q0 : W0.heap.size ≤ q
section
variable {W0 : World} {q : Nat} {A A' : Option Addr} {c c' : Nat} {us : List NdS} {D D' : Option Addr} {d d' : Nat} {ds : List Dv} {wr w1 : World}
theorem LmS.lt (h : LmS W0 q A c us D d ds wr) : q < wr.heap.size := (Array.getElem?_eq_some_iff.1 h.box).1
theorem LmS.below (h : LmS W0 q A c us D d ds wr) (hb : Below wr.heap.size wr w1) : LmS W0 q A c us D d ds w1 :=
  ⟨onward h.bel hb, heap_below h.box hb, owns_later h.nrow hb, owns_later h.drow hb, fun u hu => ⟨(h.lies u hu).1.step (KeepTy.below hb), (h.lies u hu).2⟩, h.q0⟩
theorem LmS.pushN {u : NdS} (h : LmS W0 q A c us D d ds wr) (hu : IntRow 0 wr u.P u.x.exits ∧ u.x.exits.length ≤ u.c)
    (hg : wr.grownBy w1 (Value.slice A us.length c).ownBlock) (hr : w1.ownsRow W0.heap.size 25 5 (.slice A' (us.length + 1) c') (us.length + 1) (ndsV us ++ u.cs)) :
    w1.heap[q]? = some (.cells #[.slice A us.length c, .slice D ds.length d] 29 (0, 0)) ∧ LmS W0 q A' c' (us ++ [u]) D d ds (w1.setCell ⟨q, 0, none⟩ (.slice A' (us.length + 1) c')) := by
  have hbox : w1.heap[q]? = some (.cells #[.slice A us.length c, .slice D ds.length d] 29 (0, 0)) := (hg.block _ h.lt (own_ne h.nrow h.box (by decide))).trans h.box
  have hk := KeepTy.grow (t' := 3) h.nrow (by decide) hg
  have hk2 := keepTy_set (i := 0) (t' := 3) hbox (by decide) (.slice A' (us.length + 1) c')
  have hd1 := h.drow.kept hg (own_apart h.drow h.nrow (by decide))
  have hlen : (us ++ [u]).length = us.length + 1 := by rw [List.length_append]; rfl
  refine ⟨hbox, (h.bel.grown hg h.bel.size (fun g e => (h.nrow.lt g e).1)).setCell (p := ⟨q, 0, none⟩) h.q0 _, ?_, ?_, own_setOther hd1 (.inr fun e => own_ne hd1 hbox (by decide) e.symm), fun z hz => ?_, h.q0⟩
  · rw [hlen]; exact heap_set hbox _
  · rw [hlen]
    refine own_setOther ?_ (.inr fun e => own_ne hr hbox (by decide) e.symm)
    unfold ndsV at hr ⊢
    rw [List.flatMap_append]
    simpa using hr
  · rcases List.mem_append.1 hz with hz | hz
    · exact ⟨((h.lies z hz).1.step hk).step hk2, (h.lies z hz).2⟩
    · rw [List.mem_singleton.1 hz]; exact ⟨(hu.1.step hk).step hk2, hu.2⟩
theorem LmS.pushD {u : Dv} (h : LmS W0 q A c us D d ds wr)
    (hg : wr.grownBy w1 (Value.slice D ds.length d).ownBlock) (hr : w1.ownsRow W0.heap.size 32 3 (.slice D' (ds.length + 1) d') (ds.length + 1) (dvsV ds ++ dvC u)) :
    w1.heap[q]? = some (.cells #[.slice A us.length c, .slice D ds.length d] 29 (0, 0)) ∧ LmS W0 q A c us D' d' (ds ++ [u]) (w1.setCell ⟨q, 1, none⟩ (.slice D' (ds.length + 1) d')) := by
  have hbox : w1.heap[q]? = some (.cells #[.slice A us.length c, .slice D ds.length d] 29 (0, 0)) := (hg.block _ h.lt (own_ne h.drow h.box (by decide))).trans h.box
  have hk := KeepTy.grow (t' := 3) h.drow (by decide) hg
  have hk2 := keepTy_set (i := 1) (t' := 3) hbox (by decide) (.slice D' (ds.length + 1) d')
  have hn1 := h.nrow.kept hg (own_apart h.nrow h.drow (by decide))
  have hlen : (ds ++ [u]).length = ds.length + 1 := by rw [List.length_append]; rfl
  refine ⟨hbox, (h.bel.grown hg h.bel.size (fun g e => (h.drow.lt g e).1)).setCell (p := ⟨q, 1, none⟩) h.q0 _, ?_, own_setOther hn1 (.inr fun e => own_ne hn1 hbox (by decide) e.symm), ?_, fun z hz => ⟨((h.lies z hz).1.step hk).step hk2, (h.lies z hz).2⟩, h.q0⟩
  · rw [hlen]; exact heap_set hbox _
  · rw [hlen]
    refine own_setOther ?_ (.inr fun e => own_ne hr hbox (by decide) e.symm)
    unfold dvsV at hr ⊢
    rw [List.flatMap_append]
    simpa using hr
/-- What is built lies in memory as a layout. -/
theorem LmS.lay (h : LmS W0 q A c us D d ds wr) (h0 : 0 < W0.heap.size) {l : List Nd} (hl : us.map (·.x) = l) (hf : ∀ x ∈ l, x.exits.length ≤ 2) (hz : us.length ≤ 1000) (hz2 : ds.length ≤ 1000) : LayIn 0 wr ⟨l, ds⟩ A D := by
  subst hl
  exact ⟨nds_own h.nrow h0 h.lies, dvs_own h.drow h0, fun x hx => by have := hf x hx; omega, by show (us.map (·.x)).length ≤ _; rw [List.length_map]; omega, by show ds.length ≤ _; omega⟩
end
theorem aL_len (m : Nat) : (aL m).length = m + 1 := by unfold aL; simp
theorem aL_succ (m : Nat) : aL (m + 1) = aL m ++ [ndMa (m + 1)] := by unfold aL; rw [List.range_succ]; simp
theorem bL_len (T m : Nat) : (bL T m).length = m + 1 := by unfold bL; simp
theorem bL_succ (T m : Nat) : bL T (m + 1) = bL T m ++ [ndBb (m + 1) (bW T m)] := by unfold bL; rw [List.range_succ]; simp
theorem aL_few (m : Nat) : ∀ x ∈ aL m, x.exits.length ≤ 2 := fun x hx => by
  unfold aL at hx
  rcases List.mem_cons.1 hx with rfl | hx
  · decide
  · obtain ⟨j, _, rfl⟩ := List.mem_map.1 hx
    show (0 : Nat) ≤ 2; omega
theorem bL_few (T m : Nat) : ∀ x ∈ bL T m, x.exits.length ≤ 2 := fun x hx => by
  unfold bL at hx
  rcases List.mem_cons.1 hx with rfl | hx
  · decide
  · obtain ⟨j, _, rfl⟩ := List.mem_map.1 hx
    show (1 : Nat) ≤ 2; omega
def nm1 (i : Nat) : ByteArray := ⟨#[UInt8.ofNat (65 + i)]⟩
theorem conv_nm1 (W : World) (i : Nat) : (convert 30 9 (.slice (some ⟨W.heap.size, 0, none⟩) 1 1)).run Tryd.prog (W.alloc (.cells #[.int .u8 (65 + (i : Int))] 5)) = .ok (.string (nm1 i)) (W.alloc (.cells #[.int .u8 (65 + (i : Int))] 5)) := by
  have h := run_convert_bytes_arg (P := Tryd.prog) (W.alloc (.cells #[.int .u8 (65 + (i : Int))] 5)) 30 5 Tryd.underlying30 Tryd.underlying5 W.heap.size 0 1 1 [65 + (i : Int)] rfl (fun j hj => by
    obtain rfl : j = 0 := by omega
    rw [Lib.cell_of_heap (heap_alloc_new W _)]; rfl) 9 Tryd.underlying9
  have e : strOfNums [65 + (i : Int)] = nm1 i := by
    unfold strOfNums nm1
    show (⟨#[UInt8.ofNat (65 + (i : Int)).toNat]⟩ : ByteArray) = _
    rw [show (65 + (i : Int)).toNat = 65 + i by omega]
  rw [e] at h
  exact h
theorem nm2_eq (c : UInt8) (i : Nat) : (⟨#[c]⟩ : ByteArray) ++ nm1 i = nm2 c i := by
  apply ByteArray.ext
  rw [ByteArray.data_append]
  rfl
theorem dL_succ (m : Nat) : dL (m + 1) = dL m ++ [dvL m] := by unfold dL; rw [List.range_succ]; simp
theorem dL_len (m : Nat) : (dL m).length = m := by unfold dL; simp
abbrev lmA (W : World) : World := ((W.alloc (.cells #[.int .i64 1] 3)).alloc (.cells #[.string ⟨#[69]⟩, .int .i64 1, .int .i64 1, .int .i64 0, .slice (some ⟨W.heap.size, 0, none⟩) 1 1] 25)).alloc (.cells #[.slice (some ⟨W.heap.size + 1, 0, none⟩) 1 1, .slice none 0 0] 29)
theorem LmS.start (W : World) (h0 : 0 < W.heap.size) : LmS W (W.heap.size + 1 + 1) (some ⟨W.heap.size + 1, 0, none⟩) 1 [⟨ndE0, some ⟨W.heap.size, 0, none⟩, 1⟩] none 0 [] (lmA W) := by
  have s1 : (W.alloc (.cells #[.int .i64 1] 3)).heap.size = W.heap.size + 1 := World.size_alloc _ _
  have hb1 := (Below.refl W.heap.size W).alloc (Nat.le_refl _) (.cells #[.int .i64 1] 3)
  have hn := heap_alloc_new (W.alloc (.cells #[.int .i64 1] 3)) (.cells #[.string ⟨#[69]⟩, .int .i64 1, .int .i64 1, .int .i64 0, .slice (some ⟨W.heap.size, 0, none⟩) 1 1] 25)
  have s2 : ((W.alloc (.cells #[.int .i64 1] 3)).alloc (.cells #[.string ⟨#[69]⟩, .int .i64 1, .int .i64 1, .int .i64 0, .slice (some ⟨W.heap.size, 0, none⟩) 1 1] 25)).heap.size = W.heap.size + 2 := by rw [World.size_alloc, s1]
  have hb := heap_alloc_new ((W.alloc (.cells #[.int .i64 1] 3)).alloc (.cells #[.string ⟨#[69]⟩, .int .i64 1, .int .i64 1, .int .i64 0, .slice (some ⟨W.heap.size, 0, none⟩) 1 1] 25)) (.cells #[.slice (some ⟨W.heap.size + 1, 0, none⟩) 1 1, .slice none 0 0] 29)
  rw [s1] at hn
  rw [s2] at hb
  have hn2 : (lmA W).heap[W.heap.size + 1]? = _ := heap_below hn ((Below.refl _ _).alloc (Nat.le_refl _) _)
  have hi2 : (lmA W).heap[W.heap.size]? = _ := heap_below (heap_below (heap_alloc_new W (.cells #[.int .i64 1] 3)) ((Below.refl _ _).alloc (Nat.le_refl _) _)) ((Below.refl _ _).alloc (Nat.le_refl _) _)
  refine ⟨(hb1.alloc hb1.size _).alloc (by rw [s2]; omega) _, hb, ⟨rfl, .inr ⟨W.heap.size + 1, 1, _, rfl, by omega, hn2, Nat.le_refl _, by unfold maxLen; omega, rfl, rfl⟩⟩, ⟨rfl, .inl ⟨rfl, rfl⟩⟩, fun u hu => ?_, by omega⟩
  rw [List.mem_singleton.1 hu]
  refine ⟨fun _ => ⟨W.heap.size, _, _, rfl, by omega, hi2, fun i hi => ?_⟩, Nat.le_refl _⟩
  obtain rfl : i = 0 := by have : i < 1 := hi
                           omega
  rfl
/-- A layout that is built, in a box. -/
structure LmB (q : Nat) (x : Lay) (A : Option Addr) (c : Nat) (D : Option Addr) (d : Nat) (W : World) : Prop where
  box : W.heap[q]? = some (lO x A c D d)
  lay : LayIn 0 W x A D
theorem LmB.keep {q : Nat} {x : Lay} {A : Option Addr} {c : Nat} {D : Option Addr} {d : Nat} {W W1 : World} (h : LmB q x A c D d W) (hb : Below W.heap.size W W1) : LmB q x A c D d W1 := ⟨heap_below h.box hb, h.lay.keep hb⟩
theorem LmB.cells {q : Nat} {x : Lay} {A : Option Addr} {c : Nat} {D : Option Addr} {d : Nat} {W : World} (h : LmB q x A c D d W) : W.cell? ⟨q, 0, none⟩ = some (.slice A x.nodes.length c) ∧ W.cell? ⟨q, 1, none⟩ = some (.slice D x.devs.length d) :=
  ⟨by rw [Lib.cell_of_heap h.box]; rfl, by rw [Lib.cell_of_heap h.box]; rfl⟩
theorem LmS.done {W0 : World} {q : Nat} {A : Option Addr} {c : Nat} {us : List NdS} {D : Option Addr} {d : Nat} {ds : List Dv} {wr : World} (h : LmS W0 q A c us D d ds wr) (h0 : 0 < W0.heap.size) {l : List Nd} (hl : us.map (·.x) = l) (hf : ∀ x ∈ l, x.exits.length ≤ 2) (hz : us.length ≤ 1000) (hz2 : ds.length ≤ 1000) : LmB q ⟨l, ds⟩ A c D d wr :=
  ⟨by have e : us.length = l.length := by rw [← hl, List.length_map]
      rw [h.box, e], h.lay h0 hl hf hz hz2⟩
theorem lm_introw {W : World} (h0 : 0 < W.heap.size) (v : Int) : IntRow 0 (W.alloc (.cells #[.int .i64 v] 3)) (some ⟨W.heap.size, 0, none⟩) [v] := fun _ =>
  ⟨W.heap.size, _, _, rfl, by omega, heap_alloc_new W _, fun i hi => by
    obtain rfl : i = 0 := by have : i < 1 := hi
                             omega
    rfl⟩
theorem keepTy_own {W : World} {B g n c m j : Nat} {xs : List Value} (h : W.ownsRow B 25 5 (.slice (some ⟨g, 0, none⟩) n c) m xs) (v : Value) : KeepTy 3 W (W.setCell ⟨g, j, none⟩ v) := by
  rcases h.2 with ⟨h1, _⟩ | ⟨g', cap, cur, h1, _, h3, _⟩
  · cases h1
  · have e : g = g' := by injection h1 with h1; injection h1 with h1; injection h1
    subst e
    exact keepTy_set (i := j) h3 (by decide) v
theorem LmS.copied {V3 w11 : World} {A : Option Addr} {c : Nat} {us : List NdS} (h4 : us.length = 4) (hl : ∀ u ∈ us, IntRow 0 V3 u.P u.x.exits ∧ u.x.exits.length ≤ u.c) (hg : (V3.alloc (.cells #[] 25)).grownBy w11 (some V3.heap.size))
    (hr : w11.ownsRow V3.heap.size 25 5 (.slice A 4 c) 4 (ndsV us)) : LmS V3 w11.heap.size A c us none 0 [] (w11.alloc (.cells #[.slice A 4 c, .slice none 0 0] 29)) := by
  have b1 := (Below.refl V3.heap.size V3).alloc (Nat.le_refl _) (.cells #[] 25)
  have b2 : Below V3.heap.size V3 w11 := b1.grown hg (by rw [World.size_alloc]; omega) (fun g e => by have := Option.some.inj e; omega)
  have b3 := (Below.refl w11.heap.size w11).alloc (Nat.le_refl _) (.cells #[.slice A 4 c, .slice none 0 0] 29)
  have hk : KeepTy 3 (V3.alloc (.cells #[] 25)) w11 := KeepTy.other hg (heap_alloc_new V3 _) (by decide)
  refine ⟨onward b2 b3, by rw [h4]; exact heap_alloc_new w11 _, by rw [h4]; exact owns_later hr b3, ⟨rfl, .inl ⟨rfl, rfl⟩⟩, fun u hu => ⟨(((hl u hu).1.step (KeepTy.below ((Below.refl _ _).alloc (Nat.le_refl _) _))).step hk).step (KeepTy.below b3), (hl u hu).2⟩, b2.size⟩
theorem LmS.setN3 {V3 W : World} {q g c : Nat} {u0 u1 u2 u3 : NdS} (h : LmS V3 q (some ⟨g, 0, none⟩) c [u0, u1, u2, u3] none 0 [] W) :
    LmS V3 q (some ⟨g, 0, none⟩) c [u0, u1, u2, ⟨ndM0, none, 0⟩] none 0 [] (((((W.setCell ⟨g, 15, none⟩ (.string ⟨#[77]⟩)).setCell ⟨g, 16, none⟩ (.int .i64 9)).setCell ⟨g, 17, none⟩ (.int .i64 0)).setCell ⟨g, 18, none⟩ (.int .i64 0)).setCell ⟨g, 19, none⟩ (.slice none 0 0)) := by
  have hgq : q ≠ g := fun e => own_ne h.nrow h.box (by decide) (by rw [e]; rfl)
  have hgB : V3.heap.size ≤ g := (h.nrow.lt g rfl).1
  have r1 := own_put (j := 15) h.nrow (.string ⟨#[77]⟩)
  have k1 := keepTy_own (j := 15) h.nrow (.string ⟨#[77]⟩)
  have r2 := own_put (j := 16) r1 (.int .i64 9)
  have k2 := keepTy_own (j := 16) r1 (.int .i64 9)
  have r3 := own_put (j := 17) r2 (.int .i64 0)
  have k3 := keepTy_own (j := 17) r2 (.int .i64 0)
  have r4 := own_put (j := 18) r3 (.int .i64 0)
  have k4 := keepTy_own (j := 18) r3 (.int .i64 0)
  have r5 := own_put (j := 19) r4 (.slice none 0 0)
  have k5 := keepTy_own (j := 19) r4 (.slice none 0 0)
  refine ⟨((((h.bel.setCell (p := ⟨g, 15, none⟩) hgB _).setCell (p := ⟨g, 16, none⟩) hgB _).setCell (p := ⟨g, 17, none⟩) hgB _).setCell (p := ⟨g, 18, none⟩) hgB _).setCell (p := ⟨g, 19, none⟩) hgB _,
    heap_setOther (heap_setOther (heap_setOther (heap_setOther (heap_setOther h.box hgq _) hgq _) hgq _) hgq _) hgq _, r5, ⟨rfl, .inl ⟨rfl, rfl⟩⟩, fun u hu => ?_, h.q0⟩
  have st : ∀ z ∈ [u0, u1, u2, u3], IntRow 0 (((((W.setCell ⟨g, 15, none⟩ (.string ⟨#[77]⟩)).setCell ⟨g, 16, none⟩ (.int .i64 9)).setCell ⟨g, 17, none⟩ (.int .i64 0)).setCell ⟨g, 18, none⟩ (.int .i64 0)).setCell ⟨g, 19, none⟩ (.slice none 0 0)) z.P z.x.exits ∧ z.x.exits.length ≤ z.c := fun z hz =>
    ⟨(((((h.lies z hz).1.step k1).step k2).step k3).step k4).step k5, (h.lies z hz).2⟩
  simp only [List.mem_cons, List.not_mem_nil, or_false] at hu
  rcases hu with rfl | rfl | rfl | rfl
  · exact st _ (by simp)
  · exact st _ (by simp)
  · exact st _ (by simp)
  · exact ⟨fun h => absurd h (Nat.lt_irrefl 0), Nat.le_refl 0⟩
theorem four_of {us : List NdS} {l : List Nd} {a b c d : Nd} (h : us.map (·.x) = a :: b :: c :: d :: l) : ∃ u0 u1 u2 u3 r, us = u0 :: u1 :: u2 :: u3 :: r ∧ u0.x = a ∧ u1.x = b ∧ u2.x = c ∧ u3.x = d := by
  match us, h with
  | u0 :: u1 :: u2 :: u3 :: r, h =>
    simp only [List.map_cons] at h
    injection h with h1 h; injection h with h2 h; injection h with h3 h; injection h with h4 h
    exact ⟨u0, u1, u2, u3, r, rfl, h1, h2, h3, h4⟩
theorem bF_four {e : Nat} (h : e ≤ 2) : ∃ l, bF (79 + e) = ndE0 :: ndBb 1 8 :: ndBb 2 8 :: ndBb 3 8 :: l := by
  have : e = 0 ∨ e = 1 ∨ e = 2 := by omega
  rcases this with rfl | rfl | rfl <;> exact ⟨_, rfl⟩
theorem lm_add (g j : Nat) : (⟨g, 0, none⟩ : Addr).add j = ⟨g, j, none⟩ := by unfold Addr.add; split <;> simp_all
theorem lm_keep7 {w0 w w' : World} {qa qb qc : Nat} {x0 x1 y0 y1 z0 z1 : Value}
    (h : Below w0.heap.size w0 w ∧ w.cell? ⟨qa, 0, none⟩ = some x0 ∧ w.cell? ⟨qa, 1, none⟩ = some x1 ∧ w.cell? ⟨qb, 0, none⟩ = some y0 ∧ w.cell? ⟨qb, 1, none⟩ = some y1 ∧ w.cell? ⟨qc, 0, none⟩ = some z0 ∧ w.cell? ⟨qc, 1, none⟩ = some z1)
    (hb : Below w.heap.size w w') :
    Below w0.heap.size w0 w' ∧ w'.cell? ⟨qa, 0, none⟩ = some x0 ∧ w'.cell? ⟨qa, 1, none⟩ = some x1 ∧ w'.cell? ⟨qb, 0, none⟩ = some y0 ∧ w'.cell? ⟨qb, 1, none⟩ = some y1 ∧ w'.cell? ⟨qc, 0, none⟩ = some z0 ∧ w'.cell? ⟨qc, 1, none⟩ = some z1 := by
  obtain ⟨h0, h1, h2, h3, h4, h5, h6⟩ := h
  exact ⟨onward h0 hb, kept hb h1, kept hb h2, kept hb h3, kept hb h4, kept hb h5, kept hb h6⟩
theorem lm_i0 {W : World} {x y : Int} : (W.alloc (.cells #[.int .i64 x, .int .i64 y] 3)).cell? ⟨W.heap.size, 0, none⟩ = some (.int .i64 x) := by rw [Lib.cell_of_heap (heap_alloc_new W _)]; rfl
theorem lm_i1 {W : World} {x y : Int} : (W.alloc (.cells #[.int .i64 x, .int .i64 y] 3)).cell? ⟨W.heap.size, 1, none⟩ = some (.int .i64 y) := by rw [Lib.cell_of_heap (heap_alloc_new W _)]; rfl
theorem lm_first {W : World} : ([⟨ndE0, some ⟨W.heap.size, 0, none⟩, 1⟩] : List NdS).map (·.x) = [ndE0] := rfl

set_option maxHeartbeats 40000000 in
set_option maxRecDepth 100000 in
theorem llimits_any (n : Int) (w : World) (hT : LTab w) :
    Calls Tryd.prog 3 #[.int .i64 n] w fun e w' => e = .returned (.bool true) ∧ Below w.heap.size w w' := by
  have r := modN_range n 3 (by decide)
  obtain ⟨e, he⟩ : ∃ e : Nat, modN n 3 = (e : Int) := ⟨(modN n 3).toNat, by omega⟩
  have he2 : e ≤ 2 := by omega
  have hmd := mod_any n 3 w (by decide) (by decide)
  rw [he] at hmd
  have HM := hide hmd
  have hw0 : 0 < w.heap.size := Nat.lt_of_le_of_lt (Nat.zero_le _) hT.lt
  have HT := hide hT
  obtain ⟨j0, hj1, hy0, hy1, hy2⟩ := info_parts linfo_node
  have Hj := hide hj1
  have Hy0 := hide hy0
  have Hy1 := hide hy1
  have Hy2 := hide hy2
  obtain ⟨d0, hd1, hz0, hz1, hz2⟩ := info_parts linfo_dev
  have Hd := hide hd1
  have Hz0 := hide hz0
  have Hz1 := hide hz1
  have Hz2 := hide hz2
  have e0 : (0 : Int) ≤ (e : Int) := by omega
  have e2 : (e : Int) ≤ 2 := by omega
  clear hmd r he hT hj1 hy0 hy1 hy2 hd1 hz0 hz1 hz2
  go_enter Tryd.func3, Tryd.ntmps3
  go_wp2_with fail
  refine (unhide HM).mono ?_
  rintro e' w' ⟨rfl, rfl⟩
  have HS0 := hide (show LmS w (w.heap.size + 1 + 1) (some ⟨w.heap.size + 1, 0, none⟩) 1 [⟨ndE0, some ⟨w.heap.size, 0, none⟩, 1⟩] none 0 [] (((w.alloc (.cells #[.int .i64 1] 3)).alloc (.cells #[.string ⟨#[69]⟩, .int .i64 1, .int .i64 1, .int .i64 0, .slice (some ⟨w.heap.size, 0, none⟩) 1 1] 25)).alloc (.cells #[.slice (some ⟨w.heap.size + 1, 0, none⟩) 1 1, .slice none 0 0] 29)) from LmS.start w hw0)
  have s1 : IntKind.i64.wrap (24 + ((e : Int) - 1)) = (e : Int) + 23 := by rw [IntWalk.i64_in _ (by omega)]; omega
  have s2 : IntKind.i64.wrap (80 + ((e : Int) - 1)) = (e : Int) + 79 := by rw [IntWalk.i64_in _ (by omega)]; omega
  go_wp2
  generalize (((w.alloc (.cells #[.int .i64 1] 3)).alloc (.cells #[.string ⟨#[69]⟩, .int .i64 1, .int .i64 1, .int .i64 0, .slice (some ⟨w.heap.size, 0, none⟩) 1 1] 25)).alloc (.cells #[.slice (some ⟨w.heap.size + 1, 0, none⟩) 1 1, .slice none 0 0] 29)) = W1 at *
  generalize w.heap.size + 1 + 1 = qa at *
  go_loopw [5] (fun iv wr => ∃ (i : Nat) (A : Option Addr) (c : Nat) (us : List NdS), 1 ≤ i ∧ i ≤ 23 + e ∧ iv = .int .i64 i ∧ Hid (us.map (·.x) = aL (i - 1)) ∧ Hid (LmS w qa A c us none 0 [] wr)) (fun iv _ => 30 - (intOf iv).toNat)
  case atStart => exact ⟨1, _, _, _, Nat.le_refl _, by omega, rfl, Lib.hid rfl, HS0⟩
  case round =>
    obtain ⟨i, A, c, us, hi1, hi2, rfl, hm, hS⟩ := hrel
    obtain ⟨wo, rfl⟩ : ∃ wo : World, wo = wr := ⟨_, rfl⟩
    clear HS0
    have hul : us.length = i := by have := congrArg List.length hm.out; rw [List.length_map, aL_len] at this; omega
    by_cases hlt : i < 23 + e
    · have il : (i : Int) < (e : Int) + 23 := by omega
      have i25 : (i : Int) ≤ 25 := by omega
      have i0 : (1 : Int) ≤ (i : Int) := by omega
      have bN := (Below.refl wo.heap.size wo).alloc (Nat.le_refl _) (.cells #[.int .u8 (65 + (i : Int))] 5)
      have hcv := conv_nm1 wo i
      have hcat := nm2_eq 77 i
      have hsz1 : (nm1 i).size = 1 := rfl
      have l0 : wo.cell? ⟨qa, 0, none⟩ = some (.slice A us.length c) := by rw [Lib.cell_of_heap hS.out.box]; rfl
      obtain ⟨V, hV⟩ : ∃ V : World, wo.alloc (.cells #[.int .u8 (65 + (i : Int))] 5) = V := ⟨_, rfl⟩
      rw [hV] at bN hcv
      have bM := (Below.refl V.heap.size V).alloc (Nat.le_refl _) (.cells #[.string (nm2 77 i), .int .i64 9, .int .i64 0, .int .i64 0, .slice none 0 0] 25)
      have HS2 := hide ((hS.out.below bN).below bM)
      have HMp := hide hm.out
      have HUl := hide hul
      have u30 : us.length ≤ 30 := by omega
      have hwV : w.heap.size ≤ V.heap.size := (hS.out.below bN).bel.size
      clear bN bM hS hm hul
      go_wp2_with (first
        | (at_builtin; refine wpList_append_own _ rfl _ _ 26 rfl w.heap.size 25 j0 (.agg #[.string ⟨#[]⟩, .int .i64 0, .int .i64 0, .int .i64 0, .slice none 0 0]) 5 64 Tryd.underlying26 (unhide Hj) (unhide Hy0) (unhide Hy1) (unhide Hy2) rfl (by decide) _ _ _ rfl (unhide HS2).nrow ⟨V.heap.size, 0, none⟩ 1 1 [.string (nm2 77 i), .int .i64 9, .int .i64 0, .int .i64 0, .slice none 0 0] rfl rfl ?g1 ?g2 ?g3 ?g4 ?g5 ?_))
      all_goals first | (case g1 => exact World.news_of_block (heap_alloc_new V _)) | skip
      case g2 => simp [Value.oneCell']
      case g3 => unfold maxLen; omega
      case g4 => omega
      case g5 => rw [World.size_alloc]; omega
      intro v' w10 hown10 hgrow10 _
      obtain ⟨A10, c10, rfl⟩ := own_form hown10
      obtain ⟨hbx10, hS11⟩ := (unhide HS2).pushN (u := ⟨ndMa i, none, 0⟩) (by exact ⟨fun h => absurd h (Nat.lt_irrefl 0), Nat.le_refl 0⟩) hgrow10 hown10
      have l10 : w10.cell? ⟨qa, 0, none⟩ = some (.slice A us.length c) := by rw [Lib.cell_of_heap hbx10]; rfl
      have f10 : w10.frozen? ⟨qa, 0, none⟩ = false := Lib.frozen_of_heap hbx10 0
      have HS11 := hide hS11
      clear hown10 hgrow10 hbx10 hS11 hV hcv hcat hsz1 l0
      go_wp2
      go_roundw
      case rel => exact ⟨i + 1, A10, c10, us ++ [⟨ndMa i, none, 0⟩], by omega, by omega, by go_num, Lib.hid (by
        rw [List.map_append, unhide HMp]
        obtain ⟨m, rfl⟩ : ∃ m, i = m + 1 := ⟨i - 1, by omega⟩
        exact (aL_succ m).symm), HS11⟩
      case measure => simp [intOf]; omega
    · obtain rfl : i = 23 + e := by omega
      have il : ¬ ((23 + e : Nat) : Int) < (e : Int) + 23 := by omega
      have hLa := hS.out.done hw0 (l := aL (22 + e)) (by have := hm.out; rw [show 23 + e - 1 = 22 + e by omega] at this; exact this) (aL_few _) (by omega) (Nat.zero_le _)
      have HLa := hide hLa
      have HBa := hide hS.out.bel
      have hwo : 0 < wo.heap.size := Nat.lt_of_lt_of_le hw0 hS.out.bel.size
      have HS0 := hide (show LmS wo (wo.heap.size + 1 + 1) (some ⟨wo.heap.size + 1, 0, none⟩) 1 [⟨ndE0, some ⟨wo.heap.size, 0, none⟩, 1⟩] none 0 [] (((wo.alloc (.cells #[.int .i64 1] 3)).alloc (.cells #[.string ⟨#[69]⟩, .int .i64 1, .int .i64 1, .int .i64 0, .slice (some ⟨wo.heap.size, 0, none⟩) 1 1] 25)).alloc (.cells #[.slice (some ⟨wo.heap.size + 1, 0, none⟩) 1 1, .slice none 0 0] 29)) from LmS.start wo hwo)
      clear hm hS hul hLa hi1 hi2 hlt
      go_wp2
      generalize (((wo.alloc (.cells #[.int .i64 1] 3)).alloc (.cells #[.string ⟨#[69]⟩, .int .i64 1, .int .i64 1, .int .i64 0, .slice (some ⟨wo.heap.size, 0, none⟩) 1 1] 25)).alloc (.cells #[.slice (some ⟨wo.heap.size + 1, 0, none⟩) 1 1, .slice none 0 0] 29)) = W2 at *
      generalize wo.heap.size + 1 + 1 = qb at *
      go_loopw [7, 8] (fun sv iv wr => ∃ (i s : Nat) (A : Option Addr) (c : Nat) (us : List NdS), 1 ≤ i ∧ i ≤ 11 ∧ s = min (79 + e) (1 + 8 * (i - 1)) ∧ sv = .int .i64 s ∧ iv = .int .i64 i ∧ Hid (us.map (·.x) = bL (79 + e) (i - 1)) ∧ Hid (LmS wo qb A c us none 0 [] wr)) (fun _ iv _ => 30 - (intOf iv).toNat)
      case atStart => exact ⟨1, 1, _, _, _, Nat.le_refl _, by omega, by omega, rfl, rfl, Lib.hid rfl, HS0⟩
      case round =>
        obtain ⟨i, s, Ab, cb, us, hi1, hi2, hs, rfl, rfl, hm, hS⟩ := hrel
        obtain ⟨wi, rfl⟩ : ∃ wi : World, wi = wr := ⟨_, rfl⟩
        clear HS0
        have hul : us.length = i := by have := congrArg List.length hm.out; rw [List.length_map, bL_len] at this; omega
        by_cases hlt : s < 79 + e
        · have sl : (s : Int) < (e : Int) + 79 := by omega
          have hs1 : s = 1 + 8 * (i - 1) := by omega
          have hi10 : i ≤ 10 := by omega
          have i25 : (i : Int) ≤ 10 := by omega
          have i0 : (1 : Int) ≤ (i : Int) := by omega
          have s0 : (0 : Int) ≤ (s : Int) := by omega
          obtain ⟨wv, hwv⟩ : ∃ wv : Int, min 8 ((e : Int) + 79 - (s : Int)) = wv := ⟨_, rfl⟩
          have HWv := hide (show bW (79 + e) (i - 1) = wv by unfold bW bS; omega)
          have wv1 : (1 : Int) ≤ wv := by omega
          have wv8 : wv ≤ 8 := by omega
          have HSn := hide (show ((s : Int) + wv).toNat = min (79 + e) (1 + 8 * (i + 1 - 1)) by omega)
          have bN := (Below.refl wi.heap.size wi).alloc (Nat.le_refl _) (.cells #[.int .u8 (65 + (i : Int))] 5)
          have hcv := conv_nm1 wi i
          have hcat := nm2_eq 66 i
          have hsz1 : (nm1 i).size = 1 := rfl
          have l0 : wi.cell? ⟨qb, 0, none⟩ = some (.slice Ab us.length cb) := by rw [Lib.cell_of_heap hS.out.box]; rfl
          obtain ⟨V, hV⟩ : ∃ V : World, wi.alloc (.cells #[.int .u8 (65 + (i : Int))] 5) = V := ⟨_, rfl⟩
          have l0' := kept bN l0
          rw [hV] at bN hcv l0'
          have bI := (Below.refl V.heap.size V).alloc (Nat.le_refl _) (.cells #[.int .i64 ((i : Int) + 1)] 3)
          have bM := (Below.refl (V.alloc (.cells #[.int .i64 ((i : Int) + 1)] 3)).heap.size _).alloc (Nat.le_refl _) (.cells #[.string (nm2 66 i), .int .i64 2, .int .i64 wv, .int .i64 0, .slice (some ⟨V.heap.size, 0, none⟩) 1 1] 25)
          have HS2 := hide (((hS.out.below bN).below bI).below bM)
          have hwV : wo.heap.size ≤ V.heap.size := (hS.out.below bN).bel.size
          have HIr := hide ((lm_introw (show 0 < V.heap.size by omega) ((i : Int) + 1)).step (KeepTy.below bM))
          have HMp := hide hm.out
          have u30 : us.length ≤ 30 := by omega
          clear hs hs1 bN bM bI hS hm hul
          go_wp2_with (first
            | (at_builtin; refine wpList_append_own _ rfl _ _ 26 rfl wo.heap.size 25 j0 (.agg #[.string ⟨#[]⟩, .int .i64 0, .int .i64 0, .int .i64 0, .slice none 0 0]) 5 64 Tryd.underlying26 (unhide Hj) (unhide Hy0) (unhide Hy1) (unhide Hy2) rfl (by decide) _ _ _ rfl (unhide HS2).nrow ⟨V.heap.size + 1, 0, none⟩ 1 1 [.string (nm2 66 i), .int .i64 2, .int .i64 wv, .int .i64 0, .slice (some ⟨V.heap.size, 0, none⟩) 1 1] rfl rfl ?g1 ?g2 ?g3 ?g4 ?g5 ?_))
          all_goals first | (case g1 => have hh := heap_alloc_new (V.alloc (.cells #[.int .i64 ((i : Int) + 1)] 3)) (.cells #[.string (nm2 66 i), .int .i64 2, .int .i64 wv, .int .i64 0, .slice (some ⟨V.heap.size, 0, none⟩) 1 1] 25); rw [World.size_alloc] at hh; exact World.news_of_block hh) | skip
          case g2 => simp [Value.oneCell']
          case g3 => unfold maxLen; omega
          case g4 => omega
          case g5 => rw [World.size_alloc, World.size_alloc]; omega
          intro v' w10 hown10 hgrow10 _
          obtain ⟨A10, c10, rfl⟩ := own_form hown10
          obtain ⟨hbx10, hS11⟩ := (unhide HS2).pushN (u := ⟨ndBb i wv, some ⟨V.heap.size, 0, none⟩, 1⟩) ⟨unhide HIr, Nat.le_refl 1⟩ hgrow10 hown10
          have l10 : w10.cell? ⟨qb, 0, none⟩ = some (.slice Ab us.length cb) := by rw [Lib.cell_of_heap hbx10]; rfl
          have f10 : w10.frozen? ⟨qb, 0, none⟩ = false := Lib.frozen_of_heap hbx10 0
          have HS11 := hide hS11
          have hsw : (0 : Int) ≤ (s : Int) + wv := by omega
          have HSw := hide hsw
          have HMs := hide (show 30 - (i + 1) < 30 - i by omega)
          clear hown10 hgrow10 hbx10 hS11 hV hcv hcat hsz1 l0 l0' hwv
          go_wp2
          go_roundw
          case rel => exact ⟨i + 1, ((s : Int) + wv).toNat, A10, c10, us ++ [⟨ndBb i wv, some ⟨V.heap.size, 0, none⟩, 1⟩], by omega, by omega, unhide HSn, by rw [Int.toNat_of_nonneg (unhide HSw)], by go_num, Lib.hid (by
            rw [List.map_append, unhide HMp]
            obtain ⟨m, rfl⟩ : ∃ m, i = m + 1 := ⟨i - 1, by omega⟩
            have hb := unhide HWv
            rw [show m + 1 - 1 = m by omega] at hb ⊢
            rw [show m + 1 + 1 - 1 = m + 1 by omega, bL_succ, hb]; rfl), HS11⟩
          case measure => simp [intOf]; omega
        · obtain rfl : i = 11 := by omega
          obtain rfl : s = 79 + e := by omega
          have sl : ¬ ((79 + e : Nat) : Int) < (e : Int) + 79 := by omega
          have l0 : wi.cell? ⟨qb, 0, none⟩ = some (.slice Ab us.length cb) := by rw [Lib.cell_of_heap hS.out.box]; rfl
          have bM := (Below.refl wi.heap.size wi).alloc (Nat.le_refl _) (.cells #[.string ⟨#[77]⟩, .int .i64 9, .int .i64 0, .int .i64 0, .slice none 0 0] 25)
          have HS2 := hide (hS.out.below bM)
          have hwi : wo.heap.size ≤ wi.heap.size := hS.out.bel.size
          have HMp := hide hm.out
          have HUl := hide hul
          have u30 : us.length ≤ 30 := by omega
          clear hs hS hm bM hlt hul
          go_wp2_with (first
            | (at_builtin; refine wpList_append_own _ rfl _ _ 26 rfl wo.heap.size 25 j0 (.agg #[.string ⟨#[]⟩, .int .i64 0, .int .i64 0, .int .i64 0, .slice none 0 0]) 5 64 Tryd.underlying26 (unhide Hj) (unhide Hy0) (unhide Hy1) (unhide Hy2) rfl (by decide) _ _ _ rfl (unhide HS2).nrow ⟨wi.heap.size, 0, none⟩ 1 1 [.string ⟨#[77]⟩, .int .i64 9, .int .i64 0, .int .i64 0, .slice none 0 0] rfl rfl ?g1 ?g2 ?g3 ?g4 ?g5 ?_))
          all_goals first | (case g1 => exact World.news_of_block (heap_alloc_new wi _)) | skip
          case g2 => simp [Value.oneCell']
          case g3 => unfold maxLen; omega
          case g4 => omega
          case g5 => first | omega | (rw [World.size_alloc]; omega)
          intro v' w10 hown10 hgrow10 _
          obtain ⟨A10, c10, rfl⟩ := own_form hown10
          obtain ⟨hbx10, hS11⟩ := (unhide HS2).pushN (u := ⟨ndM0, none, 0⟩) ⟨fun h => absurd h (Nat.lt_irrefl 0), Nat.le_refl 0⟩ hgrow10 hown10
          have l10 : w10.cell? ⟨qb, 0, none⟩ = some (.slice Ab us.length cb) := by rw [Lib.cell_of_heap hbx10]; rfl
          have f10 : w10.frozen? ⟨qb, 0, none⟩ = false := Lib.frozen_of_heap hbx10 0
          have HS11 := hide hS11
          have hlb : (us ++ [⟨ndM0, none, 0⟩] : List NdS).map (·.x) = bF (79 + e) := by rw [List.map_append, unhide HMp]; rfl
          have hul12 : (us ++ [⟨ndM0, none, 0⟩] : List NdS).length = us.length + 1 := by rw [List.length_append]; rfl
          obtain ⟨V3, hV3⟩ : ∃ V3 : World, w10.setCell ⟨qb, 0, none⟩ (.slice A10 (us.length + 1) c10) = V3 := ⟨_, rfl⟩
          rw [hV3] at hS11
          have hLb := hS11.done hwo (l := bF (79 + e)) hlb (fun x hx => by
            unfold bF at hx
            rcases List.mem_append.1 hx with hx | hx
            · exact bL_few _ _ x hx
            · rw [List.mem_singleton.1 hx]; decide) (by omega) (Nat.zero_le _)
          have HLb := hide hLb
          have HBb := hide hS11.bel
          have m0 : V3.cell? ⟨qb, 0, none⟩ = some (.slice A10 (us.length + 1) c10) := by rw [Lib.cell_of_heap hS11.box, hul12]; rfl
          obtain ⟨gb, rfl, hgb, hcb⟩ := own_cell hS11.nrow (by omega)
          have hcap := own_cap hS11.nrow
          rw [hul12] at hcap
          obtain ⟨l', hl'⟩ := bF_four he2
          rw [hl'] at hlb
          obtain ⟨u0, u1, u2, u3, rr, hus, x0, x1, x2, x3⟩ := four_of hlb
          have hcc : ∀ j u, (ndsV [u0, u1, u2, u3])[j]? = some u → V3.cell? ⟨gb, j, none⟩ = some u := fun j u hj => by
            refine hcb j u ?_
            rw [hus]
            unfold ndsV at hj ⊢
            rw [show u0 :: u1 :: u2 :: u3 :: rr = [u0, u1, u2, u3] ++ rr from rfl, List.flatMap_append]
            rw [List.getElem?_append_left (List.getElem?_eq_some_iff.1 hj).1]
            exact hj
          have hl4 : ∀ u ∈ [u0, u1, u2, u3], IntRow 0 V3 u.P u.x.exits ∧ u.x.exits.length ≤ u.c := fun u hu => hS11.lies u (by rw [hus]; simp at hu ⊢; rcases hu with h | h | h | h <;> simp [h])
          have HL4 := hide hl4
          have HX := hide (show u0.x = ndE0 ∧ u1.x = ndBb 1 8 ∧ u2.x = ndBb 2 8 from ⟨x0, x1, x2⟩)
          have bE := (Below.refl V3.heap.size V3).alloc (Nat.le_refl _) (.cells #[] 25)
          have HCc := hide hcc
          have hown0 : (V3.alloc (.cells #[] 25)).ownsRow V3.heap.size 25 5 (.slice (some ⟨V3.heap.size, 0, none⟩) 0 0) 0 [] := ⟨rfl, .inr ⟨V3.heap.size, 0, _, rfl, Nat.le_refl _, heap_alloc_new V3 _, Nat.le_refl _, by unfold maxLen; omega, rfl, rfl⟩⟩
          have HO0 := hide hown0
          have hc4 : (4 : Int) ≤ (c10 : Int) := by have := unhide HUl; omega
          have m1 := kept bE m0
          have hv3 : wo.heap.size ≤ V3.heap.size := hS11.bel.size
          have HCell := hide (fun (j : Nat) (u : Value) (h : (ndsV [u0, u1, u2, u3])[j]? = some u) => (show (V3.alloc (.cells #[] 25)).cell? ((⟨gb, 0, none⟩ : Addr).add j) = some u by
            have := kept bE (hcc j u h)
            rw [lm_add]; exact this))
          clear hown10 hgrow10 hbx10 hS11 l0 hLb hcb hcap hl' hlb hus x0 x1 x2 x3 hcc hl4 hown0 HS11 HS2 HMp bE hul12
          go_wp2_with (first
            | (at_builtin; refine wpList_append_own _ rfl _ _ 26 rfl V3.heap.size 25 j0 (.agg #[.string ⟨#[]⟩, .int .i64 0, .int .i64 0, .int .i64 0, .slice none 0 0]) 5 64 Tryd.underlying26 (unhide Hj) (unhide Hy0) (unhide Hy1) (unhide Hy2) rfl (by decide) _ _ _ rfl (unhide HO0) ⟨gb, 0, none⟩ 4 c10 (ndsV [u0, u1, u2, u3]) rfl rfl ?k1 ?k2 ?k3 ?k4 ?k5 ?_))
          all_goals first | (case k1 => exact unhide HCell) | skip
          case k2 => simp [ndsV, NdS.cs, Value.oneCell']
          case k3 => unfold maxLen; omega
          case k4 => omega
          case k5 => first | omega | (rw [World.size_alloc]; omega)
          intro v' w11 hown11 hgrow11 _
          obtain ⟨A11, c11, rfl⟩ := own_form hown11
          have hC := LmS.copied (us := [u0, u1, u2, u3]) rfl (unhide HL4) hgrow11 hown11
          have hown12 := hC.nrow
          obtain ⟨g11, rfl, hg11, hc11⟩ := own_cell hown12 (by simp)
          have hcap11 := own_cap hown12
          have z15 := hc11 15 (.string u3.x.name) rfl
          have z16 := hc11 16 (.int .i64 u3.x.kind) rfl
          have z17 := hc11 17 (.int .i64 u3.x.len) rfl
          have z18 := hc11 18 (.int .i64 u3.x.zone) rfl
          have z19 := hc11 19 (.slice u3.P u3.x.exits.length u3.c) rfl
          have hbl : ∃ cs, (w11.alloc (.cells #[.slice (some ⟨g11, 0, none⟩) 4 c11, .slice none 0 0] 29)).heap[g11]? = some (.cells cs 25 (0, 0)) := by
            rcases hown12.2 with ⟨h1, _⟩ | ⟨g', cap, cur, h1, _, h3, _⟩
            · cases h1
            · have e : g11 = g' := by injection h1 with h1; injection h1 with h1; injection h1
              subst e
              exact ⟨_, h3⟩
          obtain ⟨cs11, hcs11⟩ := hbl
          have y15 := Lib.frozen_of_heap hcs11 15
          have y16 := Lib.frozen_of_heap hcs11 16
          have y17 := Lib.frozen_of_heap hcs11 17
          have y18 := Lib.frozen_of_heap hcs11 18
          have y19 := Lib.frozen_of_heap hcs11 19
          have HC3 := hide hC.setN3
          have hsz11 : V3.heap.size ≤ w11.heap.size := hC.q0
          have hgq : w11.heap.size ≠ g11 := fun e => own_ne hC.nrow hC.box (by decide) (by rw [e]; rfl)
          clear hown11 hgrow11 hC hown12 hc11 hcs11
          go_wp2
          generalize hqc : w11.heap.size = qc at *
          generalize ((((((w11.alloc (.cells #[.slice (some ⟨g11, 0, none⟩) 4 c11, .slice none 0 0] 29)).setCell ⟨g11, 15, none⟩ (.string ⟨#[77]⟩)).setCell ⟨g11, 16, none⟩ (.int .i64 9)).setCell ⟨g11, 17, none⟩ (.int .i64 0)).setCell ⟨g11, 18, none⟩ (.int .i64 0)).setCell ⟨g11, 19, none⟩ (.slice none 0 0)) = W13 at *
          clear z15 z16 z17 z18 z19 y15 y16 y17 y18 y19 hgq
          go_loopw [11] (fun iv wr => ∃ (i : Nat) (D : Option Addr) (d : Nat), i ≤ 23 + e ∧ iv = .int .i64 i ∧ Hid (LmS V3 qc (some ⟨g11, 0, none⟩) c11 [u0, u1, u2, ⟨ndM0, none, 0⟩] D d (dL i) wr)) (fun iv _ => 30 - (intOf iv).toNat)
          case atStart => exact ⟨0, none, 0, Nat.zero_le _, rfl, HC3⟩
          case round =>
            obtain ⟨i, D, d, hi, rfl, hS⟩ := hrel
            obtain ⟨wd, rfl⟩ : ∃ wd : World, wd = wr := ⟨_, rfl⟩
            clear HC3
            by_cases hlt : i < 23 + e
            · have il : (i : Int) < (e : Int) + 23 := by omega
              have i0 : (0 : Int) ≤ (i : Int) := by omega
              have l1 : wd.cell? ⟨qc, 1, none⟩ = some (.slice D i d) := by
                rw [Lib.cell_of_heap hS.out.box]
                show some (Value.slice D (dL i).length d) = _
                rw [dL_len]
              have bM := (Below.refl wd.heap.size wd).alloc (Nat.le_refl _) (.cells #[.int .i64 (1 + (i : Int) % 2), .int .i64 (1 + (i : Int) / 16), .int .i64 ((i : Int) / 2 % 8)] 32)
              have HS2 := hide (hS.out.below bM)
              have hdr := (unhide HS2).drow
              rw [dL_len] at hdr
              have HDr := hide hdr
              have hv3d : V3.heap.size ≤ wd.heap.size := hS.out.bel.size
              have i30 : i ≤ 30 := by omega
              clear bM hS hdr
              go_wp2_with (first
                | (at_builtin; refine wpList_append_own _ rfl _ _ 27 rfl V3.heap.size 32 d0 (.agg #[.int .i64 0, .int .i64 0, .int .i64 0]) 3 24 Tryd.underlying27 (unhide Hd) (unhide Hz0) (unhide Hz1) (unhide Hz2) rfl (by decide) _ _ _ rfl (unhide HDr) ⟨wd.heap.size, 0, none⟩ 1 1 [.int .i64 (1 + (i : Int) % 2), .int .i64 (1 + (i : Int) / 16), .int .i64 ((i : Int) / 2 % 8)] rfl rfl ?d1 ?d2 ?d3 ?d4 ?d5 ?_))
              all_goals first | (case d1 => exact World.news_of_block (heap_alloc_new wd _)) | skip
              case d2 => simp [Value.oneCell']
              case d3 => unfold maxLen; omega
              case d4 => omega
              case d5 => first | omega | (rw [World.size_alloc]; omega)
              intro v' w10 hown10 hgrow10 _
              obtain ⟨D10, d10, rfl⟩ := own_form hown10
              obtain ⟨hbx10, hS11⟩ := (unhide HS2).pushD (u := dvL i) (D' := D10) (d' := d10) (by rw [dL_len]; exact hgrow10) (by rw [dL_len]; exact hown10)
              rw [dL_len] at hbx10 hS11
              have l10 : w10.cell? ⟨qc, 1, none⟩ = some (.slice D i d) := by rw [Lib.cell_of_heap hbx10]; rfl
              have f10 : w10.frozen? ⟨qc, 1, none⟩ = false := Lib.frozen_of_heap hbx10 1
              rw [← dL_succ] at hS11
              have HS11 := hide hS11
              clear hown10 hgrow10 hbx10 hS11 l1
              go_wp2
              go_roundw
              case rel => exact ⟨i + 1, D10, d10, by omega, by go_num, HS11⟩
              case measure => simp [intOf]; omega
            · obtain rfl : i = 23 + e := by omega
              have il : ¬ ((23 + e : Nat) : Int) < (e : Int) + 23 := by omega
              obtain ⟨hx0, hx1, hx2⟩ := unhide HX
              have hLc := hS.out.done (l := cL) (Nat.lt_of_lt_of_le hwo hv3) (by simp only [List.map_cons, List.map_nil, hx0, hx1, hx2]; rfl) (by decide) (by simp) (by rw [dL_len]; omega)
              have hbd := hS.out.bel
              have HBd := hide (onward (onward (unhide HBa) (unhide HBb)) hbd)
              have hLb2 := (unhide HLb).keep hbd
              have hLa2 := ((unhide HLa).keep (unhide HBb)).keep hbd
              obtain ⟨xa, hxa⟩ : ∃ x : Lay, (⟨aL (22 + e), []⟩ : Lay) = x := ⟨_, rfl⟩
              obtain ⟨xb, hxb⟩ : ∃ x : Lay, (⟨bF (79 + e), []⟩ : Lay) = x := ⟨_, rfl⟩
              obtain ⟨xc, hxc⟩ : ∃ x : Lay, (⟨cL, dL (23 + e)⟩ : Lay) = x := ⟨_, rfl⟩
              have hval : ((e : Int) ≤ 1 ∧ layE xa = 0 ∧ layE xb = 0 ∧ layE xc = 0 ∧ winsF xb = 79 + (e : Int)) ∨ (e = 2 ∧ layE xa = 2 ∧ layE xb = 2 ∧ layE xc = 2 ∧ winsF xb = 0) := by
                rw [← hxa, ← hxb, ← hxc]
                rcases (show e = 0 ∨ e = 1 ∨ e = 2 by omega) with h | h | h
                · rw [h]; exact .inl ⟨by decide, a_0, b_0, c_0, bw_0⟩
                · rw [h]; exact .inl ⟨by decide, a_1, b_1, c_1, bw_1⟩
                · rw [h]; exact .inr ⟨rfl, a_2, b_2, c_2, bw_2⟩
              rw [hxa] at hLa2
              rw [hxb] at hLb2
              rw [hxc] at hLc
              clear hxa hxb hxc
              obtain ⟨p0, p1⟩ := hLa2.cells
              obtain ⟨p2, p3⟩ := hLb2.cells
              obtain ⟨p4, p5⟩ := hLc.cells
              have HVa := hide fun W (hb : Below wd.heap.size wd W) => lval_any 0 xa A none c 0 W (hLa2.lay.keep hb)
              have HVb := hide fun W (hb : Below wd.heap.size wd W) => lval_any 0 xb (some ⟨gb, 0, none⟩) none c10 0 W (hLb2.lay.keep hb)
              have HVc := hide fun W (hb : Below wd.heap.size wd W) => lval_any 0 xc (some ⟨g11, 0, none⟩) D c11 d W (hLc.lay.keep hb)
              have HWb := hide fun W (hb : Below wd.heap.size wd W) => lwins_any 0 xb (some ⟨gb, 0, none⟩) none c10 0 W (hLb2.lay.keep hb)
              have HAw := hide fun W (hb : Below wd.heap.size wd W) => lawake_any W ((unhide HT).keep (onward (unhide HBd) hb))
              have pk : Below wd.heap.size wd wd.drew ∧ wd.drew.cell? ⟨qa, 0, none⟩ = some (.slice A xa.nodes.length c) ∧ wd.drew.cell? ⟨qa, 1, none⟩ = some (.slice none xa.devs.length 0) ∧ wd.drew.cell? ⟨qb, 0, none⟩ = some (.slice (some ⟨gb, 0, none⟩) xb.nodes.length c10) ∧ wd.drew.cell? ⟨qb, 1, none⟩ = some (.slice none xb.devs.length 0) ∧ wd.drew.cell? ⟨qc, 0, none⟩ = some (.slice (some ⟨g11, 0, none⟩) xc.nodes.length c11) ∧ wd.drew.cell? ⟨qc, 1, none⟩ = some (.slice D xc.devs.length d) := ⟨(Below.refl _ _).drew, p0, p1, p2, p3, p4, p5⟩
              clear hS hLa2 hLb2 hLc hbd hx0 hx1 hx2 hlt hi
              clear HM HLa HLb HBa HBb HX HL4 HCc HCell HO0 s1 s2 il
              rcases hval with ⟨e1, va, vb, vc, vw⟩ | ⟨rfl, va, vb, vc, vw⟩
              · rw [va] at HVa
                rw [vb] at HVb
                rw [vc] at HVc
                rw [vw] at HWb
                have K0 := hide pk
                have mx : max ((e : Int) - 1) 0 = 0 := by omega
                have kk : ¬ (0 : Int) < (e : Int) - 1 := by omega
                have HE1 := hide e1
                clear va vb vc vw pk p0 p1 p2 p3 p4 p5
                go_wp2_with fail
                refine wp_region_held (S := fun X => X.cell? ⟨qa, 0, none⟩ = some (.slice A xa.nodes.length c) ∧ X.cell? ⟨qa, 1, none⟩ = some (.slice none xa.devs.length 0) ∧ X.cell? ⟨qb, 0, none⟩ = some (.slice (some ⟨gb, 0, none⟩) xb.nodes.length c10) ∧ X.cell? ⟨qb, 1, none⟩ = some (.slice none xb.devs.length 0) ∧ X.cell? ⟨qc, 0, none⟩ = some (.slice (some ⟨g11, 0, none⟩) xc.nodes.length c11) ∧ X.cell? ⟨qc, 1, none⟩ = some (.slice D xc.devs.length d)) (by kernel_rfl) ?_
                refine wpAnyH_take (i := 0) (v := (lV xa A c none 0)) rfl (by kernel_rfl) (by kernel_rfl) (by kernel_rfl) (fun _ _ _ h => h) (Or.inl ⟨by rfl, by intro w hS; obtain ⟨q0, q1, q2, q3, q4, q5⟩ := hS; go_simp⟩) (unhide K0).2 ?_
                refine wpAnyH_take (i := 2) (v := (.int .i64 0)) rfl (by kernel_rfl) (by kernel_rfl) (by kernel_rfl) (fun _ _ _ h => h) (Or.inl ⟨by rfl, by intro w hS; obtain ⟨q0, q1, q2, q3, q4, q5⟩ := hS; go_simp⟩) (unhide K0).2 ?_
                refine wpAnyH_one (i := 1) (by kernel_rfl) rfl (fun K hK => ?_)
                go_simp
                go_at_call 9
                refine (unhide HVa _ (unhide K0).1).mono ?_
                rintro e w1 ⟨rfl, hbw1⟩
                try go_simp
                have K1 := hide (lm_keep7 (unhide K0) hbw1)
                refine hK _ _ ⟨(unhide K1).2, ?_⟩
                clear hK K
                refine wpAnyH_take (i := 3) (v := (.bool true)) rfl (by kernel_rfl) (by kernel_rfl) (by kernel_rfl) (fun _ _ _ h => h) (Or.inl ⟨by rfl, by intro w hS; obtain ⟨q0, q1, q2, q3, q4, q5⟩ := hS; go_simp⟩) (unhide K1).2 ?_
                refine wpAnyH_take (i := 4) (v := (.bool true)) rfl (by kernel_rfl) (by kernel_rfl) (by kernel_rfl) (fun _ _ _ h => h) (Or.inl ⟨by rfl, by intro w hS; obtain ⟨q0, q1, q2, q3, q4, q5⟩ := hS; go_simp⟩) (unhide K1).2 ?_
                refine wpAnyH_take (i := 5) (v := (lV xb (some ⟨gb, 0, none⟩) c10 none 0)) rfl (by kernel_rfl) (by kernel_rfl) (by kernel_rfl) (fun _ _ _ h => h) (Or.inl ⟨by rfl, by intro w hS; obtain ⟨q0, q1, q2, q3, q4, q5⟩ := hS; go_simp⟩) (unhide K1).2 ?_
                refine wpAnyH_take (i := 7) (v := (.int .i64 0)) rfl (by kernel_rfl) (by kernel_rfl) (by kernel_rfl) (fun _ _ _ h => h) (Or.inl ⟨by rfl, by intro w hS; obtain ⟨q0, q1, q2, q3, q4, q5⟩ := hS; go_simp⟩) (unhide K1).2 ?_
                refine wpAnyH_one (i := 6) (by kernel_rfl) rfl (fun K hK => ?_)
                go_simp
                go_at_call 9
                refine (unhide HVb _ (unhide K1).1).mono ?_
                rintro e w2 ⟨rfl, hbw2⟩
                try go_simp
                have K2 := hide (lm_keep7 (unhide K1) hbw2)
                refine hK _ _ ⟨(unhide K2).2, ?_⟩
                clear hK K
                refine wpAnyH_take (i := 8) (v := (.bool true)) rfl (by kernel_rfl) (by kernel_rfl) (by kernel_rfl) (fun _ _ _ h => h) (Or.inl ⟨by rfl, by intro w hS; obtain ⟨q0, q1, q2, q3, q4, q5⟩ := hS; go_simp⟩) (unhide K2).2 ?_
                refine wpAnyH_take (i := 9) (v := (.bool true)) rfl (by kernel_rfl) (by kernel_rfl) (by kernel_rfl) (fun _ _ _ h => h) (Or.inl ⟨by rfl, by intro w hS; obtain ⟨q0, q1, q2, q3, q4, q5⟩ := hS; go_simp⟩) (unhide K2).2 ?_
                refine wpAnyH_take (i := 10) (v := (.bool true)) rfl (by kernel_rfl) (by kernel_rfl) (by kernel_rfl) (fun _ _ _ h => h) (Or.inl ⟨by rfl, by intro w hS; obtain ⟨q0, q1, q2, q3, q4, q5⟩ := hS; go_simp⟩) (unhide K2).2 ?_
                refine wpAnyH_take (i := 11) (v := (lV xc (some ⟨g11, 0, none⟩) c11 D d)) rfl (by kernel_rfl) (by kernel_rfl) (by kernel_rfl) (fun _ _ _ h => h) (Or.inl ⟨by rfl, by intro w hS; obtain ⟨q0, q1, q2, q3, q4, q5⟩ := hS; go_simp⟩) (unhide K2).2 ?_
                refine wpAnyH_take (i := 13) (v := (.int .i64 0)) rfl (by kernel_rfl) (by kernel_rfl) (by kernel_rfl) (fun _ _ _ h => h) (Or.inl ⟨by rfl, by intro w hS; obtain ⟨q0, q1, q2, q3, q4, q5⟩ := hS; go_simp⟩) (unhide K2).2 ?_
                refine wpAnyH_one (i := 12) (by kernel_rfl) rfl (fun K hK => ?_)
                go_simp
                go_at_call 9
                refine (unhide HVc _ (unhide K2).1).mono ?_
                rintro e w3 ⟨rfl, hbw3⟩
                try go_simp
                have K3 := hide (lm_keep7 (unhide K2) hbw3)
                refine hK _ _ ⟨(unhide K3).2, ?_⟩
                clear hK K
                refine wpAnyH_take (i := 14) (v := (.bool true)) rfl (by kernel_rfl) (by kernel_rfl) (by kernel_rfl) (fun _ _ _ h => h) (Or.inl ⟨by rfl, by intro w hS; obtain ⟨q0, q1, q2, q3, q4, q5⟩ := hS; go_simp⟩) (unhide K3).2 ?_
                refine wpAnyH_take (i := 15) (v := (.bool true)) rfl (by kernel_rfl) (by kernel_rfl) (by kernel_rfl) (fun _ _ _ h => h) (Or.inl ⟨by rfl, by intro w hS; obtain ⟨q0, q1, q2, q3, q4, q5⟩ := hS; go_simp⟩) (unhide K3).2 ?_
                refine wpAnyH_take (i := 16) (v := (.bool true)) rfl (by kernel_rfl) (by kernel_rfl) (by kernel_rfl) (fun _ _ _ h => h) (Or.inl ⟨by rfl, by intro w hS; obtain ⟨q0, q1, q2, q3, q4, q5⟩ := hS; go_simp⟩) (unhide K3).2 ?_
                refine wpAnyH_take (i := 17) (v := (lV xb (some ⟨gb, 0, none⟩) c10 none 0)) rfl (by kernel_rfl) (by kernel_rfl) (by kernel_rfl) (fun _ _ _ h => h) (Or.inl ⟨by rfl, by intro w hS; obtain ⟨q0, q1, q2, q3, q4, q5⟩ := hS; go_simp⟩) (unhide K3).2 ?_
                refine wpAnyH_take (i := 19) (v := (.int .i64 (79 + (e : Int)))) rfl (by kernel_rfl) (by kernel_rfl) (by kernel_rfl) (fun _ _ _ h => h) (Or.inl ⟨by rfl, by intro w hS; obtain ⟨q0, q1, q2, q3, q4, q5⟩ := hS; go_simp⟩) (unhide K3).2 ?_
                refine wpAnyH_take (i := 21) (v := (.int .i64 ((e : Int) - 1))) rfl (by kernel_rfl) (by kernel_rfl) (by kernel_rfl) (fun _ _ _ h => h) (Or.inl ⟨by rfl, by intro w hS; obtain ⟨q0, q1, q2, q3, q4, q5⟩ := hS; go_simp⟩) (unhide K3).2 ?_
                refine wpAnyH_take (i := 22) (v := (.int .i64 0)) rfl (by kernel_rfl) (by kernel_rfl) (by kernel_rfl) (fun _ _ _ h => h) (Or.inl ⟨by rfl, by intro w hS; obtain ⟨q0, q1, q2, q3, q4, q5⟩ := hS; go_simp⟩) (unhide K3).2 ?_
                refine wpAnyH_two (i := 18) (j := 20) (by kernel_rfl) rfl rfl (fun K hK => ?_) (fun K hK => ?_)
                case' refine_2 =>
                  go_simp
                  have K4 := hide (lm_keep7 (unhide K3) ((Below.refl _ _).alloc (Nat.le_refl _) (.cells #[.int .i64 (79 + (e : Int)), .int .i64 0] 3)))
                  refine hK _ _ ⟨(unhide K4).2, ?_⟩
                  clear hK K
                  refine wpAnyH_take (i := 23) (v := (.pointer (some ⟨w3.heap.size, 0, none⟩))) rfl (by kernel_rfl) (by kernel_rfl) (by kernel_rfl) (fun _ _ _ h => h) (Or.inl ⟨by rfl, by intro w hS; obtain ⟨q0, q1, q2, q3, q4, q5⟩ := hS; go_simp⟩) (unhide K4).2 ?_
                  refine wpAnyH_two (i := 18) (j := 24) (by kernel_rfl) rfl rfl (fun K hK => ?_) (fun K hK => ?_)
                  case' refine_2 =>
                    have zc := (lm_i0 (W := w3) (x := (79 + (e : Int))) (y := 0))
                    go_simp
                    refine hK _ _ ⟨(unhide K4).2, ?_⟩
                    clear hK K zc
                    refine wpAnyH_one (i := 18) (by kernel_rfl) rfl (fun K hK => ?_)
                    go_simp
                    go_at_call 10
                    refine (unhide HWb _ (unhide K4).1).mono ?_
                    rintro e w4 ⟨rfl, hbw4⟩
                    try go_simp
                    have K5 := hide (lm_keep7 (unhide K4) hbw4)
                    refine hK _ _ ⟨(unhide K5).2, ?_⟩
                    clear hK K
                    refine wpAnyH_take (i := 25) (v := (.bool true)) rfl (by kernel_rfl) (by kernel_rfl) (by kernel_rfl) (fun _ _ _ h => h) (Or.inl ⟨by rfl, by intro w hS; obtain ⟨q0, q1, q2, q3, q4, q5⟩ := hS; go_simp⟩) (unhide K5).2 ?_
                    refine wpAnyH_take (i := 26) (v := (.bool true)) rfl (by kernel_rfl) (by kernel_rfl) (by kernel_rfl) (fun _ _ _ h => h) (Or.inl ⟨by rfl, by intro w hS; obtain ⟨q0, q1, q2, q3, q4, q5⟩ := hS; go_simp⟩) (unhide K5).2 ?_
                    refine wpAnyH_take (i := 27) (v := (.bool true)) rfl (by kernel_rfl) (by kernel_rfl) (by kernel_rfl) (fun _ _ _ h => h) (Or.inl ⟨by rfl, by intro w hS; obtain ⟨q0, q1, q2, q3, q4, q5⟩ := hS; go_simp⟩) (unhide K5).2 ?_
                    refine wpAnyH_one (i := 28) (by kernel_rfl) rfl (fun K hK => ?_)
                    go_simp
                    go_at_call 11
                    refine (unhide HAw _ (unhide K5).1).mono ?_
                    rintro e w9 ⟨rfl, hbw9⟩
                    try go_simp
                    have K9 := hide (lm_keep7 (unhide K5) hbw9)
                    refine hK _ _ ⟨(unhide K9).2, ?_⟩
                    clear hK K
                    refine wpAnyH_take (i := 29) (v := (.bool true)) rfl (by kernel_rfl) (by kernel_rfl) (by kernel_rfl) (fun _ _ _ h => h) (Or.inl ⟨by rfl, by intro w hS; obtain ⟨q0, q1, q2, q3, q4, q5⟩ := hS; go_simp⟩) (unhide K9).2 ?_
                    refine wpAnyH_take (i := 30) (v := (.bool true)) rfl (by kernel_rfl) (by kernel_rfl) (by kernel_rfl) (fun _ _ _ h => h) (Or.inl ⟨by rfl, by intro w hS; obtain ⟨q0, q1, q2, q3, q4, q5⟩ := hS; go_simp⟩) (unhide K9).2 ?_
                    refine wpAnyH_done (by kernel_rfl) ?_ _
                    have HB := hide (unhide K9).1
                    go_wp2
                    go_ret
                    exact ⟨rfl, onward (unhide HBd) (unhide HB)⟩
                  go_simp
                  go_at_call 10
                  refine (unhide HWb _ (unhide K4).1).mono ?_
                  rintro e w4 ⟨rfl, hbw4⟩
                  try go_simp
                  have K5 := hide (lm_keep7 (unhide K4) hbw4)
                  refine hK _ _ ⟨(unhide K5).2, ?_⟩
                  clear hK K
                  refine wpAnyH_one (i := 24) (by kernel_rfl) rfl (fun K hK => ?_)
                  have zc := (kept hbw4 (lm_i0 (W := w3) (x := (79 + (e : Int))) (y := 0)))
                  go_simp
                  refine hK _ _ ⟨(unhide K5).2, ?_⟩
                  clear hK K zc
                  refine wpAnyH_take (i := 25) (v := (.bool true)) rfl (by kernel_rfl) (by kernel_rfl) (by kernel_rfl) (fun _ _ _ h => h) (Or.inl ⟨by rfl, by intro w hS; obtain ⟨q0, q1, q2, q3, q4, q5⟩ := hS; go_simp⟩) (unhide K5).2 ?_
                  refine wpAnyH_take (i := 26) (v := (.bool true)) rfl (by kernel_rfl) (by kernel_rfl) (by kernel_rfl) (fun _ _ _ h => h) (Or.inl ⟨by rfl, by intro w hS; obtain ⟨q0, q1, q2, q3, q4, q5⟩ := hS; go_simp⟩) (unhide K5).2 ?_
                  refine wpAnyH_take (i := 27) (v := (.bool true)) rfl (by kernel_rfl) (by kernel_rfl) (by kernel_rfl) (fun _ _ _ h => h) (Or.inl ⟨by rfl, by intro w hS; obtain ⟨q0, q1, q2, q3, q4, q5⟩ := hS; go_simp⟩) (unhide K5).2 ?_
                  refine wpAnyH_one (i := 28) (by kernel_rfl) rfl (fun K hK => ?_)
                  go_simp
                  go_at_call 11
                  refine (unhide HAw _ (unhide K5).1).mono ?_
                  rintro e w9 ⟨rfl, hbw9⟩
                  try go_simp
                  have K9 := hide (lm_keep7 (unhide K5) hbw9)
                  refine hK _ _ ⟨(unhide K9).2, ?_⟩
                  clear hK K
                  refine wpAnyH_take (i := 29) (v := (.bool true)) rfl (by kernel_rfl) (by kernel_rfl) (by kernel_rfl) (fun _ _ _ h => h) (Or.inl ⟨by rfl, by intro w hS; obtain ⟨q0, q1, q2, q3, q4, q5⟩ := hS; go_simp⟩) (unhide K9).2 ?_
                  refine wpAnyH_take (i := 30) (v := (.bool true)) rfl (by kernel_rfl) (by kernel_rfl) (by kernel_rfl) (fun _ _ _ h => h) (Or.inl ⟨by rfl, by intro w hS; obtain ⟨q0, q1, q2, q3, q4, q5⟩ := hS; go_simp⟩) (unhide K9).2 ?_
                  refine wpAnyH_done (by kernel_rfl) ?_ _
                  have HB := hide (unhide K9).1
                  go_wp2
                  go_ret
                  exact ⟨rfl, onward (unhide HBd) (unhide HB)⟩
                go_simp
                go_at_call 10
                refine (unhide HWb _ (unhide K3).1).mono ?_
                rintro e w4 ⟨rfl, hbw4⟩
                try go_simp
                have K4 := hide (lm_keep7 (unhide K3) hbw4)
                refine hK _ _ ⟨(unhide K4).2, ?_⟩
                clear hK K
                refine wpAnyH_one (i := 20) (by kernel_rfl) rfl (fun K hK => ?_)
                go_simp
                have K5 := hide (lm_keep7 (unhide K4) ((Below.refl _ _).alloc (Nat.le_refl _) (.cells #[.int .i64 (79 + (e : Int)), .int .i64 0] 3)))
                refine hK _ _ ⟨(unhide K5).2, ?_⟩
                clear hK K
                refine wpAnyH_take (i := 23) (v := (.pointer (some ⟨w4.heap.size, 0, none⟩))) rfl (by kernel_rfl) (by kernel_rfl) (by kernel_rfl) (fun _ _ _ h => h) (Or.inl ⟨by rfl, by intro w hS; obtain ⟨q0, q1, q2, q3, q4, q5⟩ := hS; go_simp⟩) (unhide K5).2 ?_
                refine wpAnyH_one (i := 24) (by kernel_rfl) rfl (fun K hK => ?_)
                have zc := (lm_i0 (W := w4) (x := (79 + (e : Int))) (y := 0))
                go_simp
                refine hK _ _ ⟨(unhide K5).2, ?_⟩
                clear hK K zc
                refine wpAnyH_take (i := 25) (v := (.bool true)) rfl (by kernel_rfl) (by kernel_rfl) (by kernel_rfl) (fun _ _ _ h => h) (Or.inl ⟨by rfl, by intro w hS; obtain ⟨q0, q1, q2, q3, q4, q5⟩ := hS; go_simp⟩) (unhide K5).2 ?_
                refine wpAnyH_take (i := 26) (v := (.bool true)) rfl (by kernel_rfl) (by kernel_rfl) (by kernel_rfl) (fun _ _ _ h => h) (Or.inl ⟨by rfl, by intro w hS; obtain ⟨q0, q1, q2, q3, q4, q5⟩ := hS; go_simp⟩) (unhide K5).2 ?_
                refine wpAnyH_take (i := 27) (v := (.bool true)) rfl (by kernel_rfl) (by kernel_rfl) (by kernel_rfl) (fun _ _ _ h => h) (Or.inl ⟨by rfl, by intro w hS; obtain ⟨q0, q1, q2, q3, q4, q5⟩ := hS; go_simp⟩) (unhide K5).2 ?_
                refine wpAnyH_one (i := 28) (by kernel_rfl) rfl (fun K hK => ?_)
                go_simp
                go_at_call 11
                refine (unhide HAw _ (unhide K5).1).mono ?_
                rintro e w9 ⟨rfl, hbw9⟩
                try go_simp
                have K9 := hide (lm_keep7 (unhide K5) hbw9)
                refine hK _ _ ⟨(unhide K9).2, ?_⟩
                clear hK K
                refine wpAnyH_take (i := 29) (v := (.bool true)) rfl (by kernel_rfl) (by kernel_rfl) (by kernel_rfl) (fun _ _ _ h => h) (Or.inl ⟨by rfl, by intro w hS; obtain ⟨q0, q1, q2, q3, q4, q5⟩ := hS; go_simp⟩) (unhide K9).2 ?_
                refine wpAnyH_take (i := 30) (v := (.bool true)) rfl (by kernel_rfl) (by kernel_rfl) (by kernel_rfl) (fun _ _ _ h => h) (Or.inl ⟨by rfl, by intro w hS; obtain ⟨q0, q1, q2, q3, q4, q5⟩ := hS; go_simp⟩) (unhide K9).2 ?_
                refine wpAnyH_done (by kernel_rfl) ?_ _
                have HB := hide (unhide K9).1
                go_wp2
                go_ret
                exact ⟨rfl, onward (unhide HBd) (unhide HB)⟩
              · rw [va] at HVa
                rw [vb] at HVb
                rw [vc] at HVc
                rw [vw] at HWb
                have K0 := hide pk
                have mx2 : max (1 : Int) 0 = 1 := rfl
                clear va vb vc vw pk p0 p1 p2 p3 p4 p5
                go_wp2_with fail
                refine wp_region_held (S := fun X => X.cell? ⟨qa, 0, none⟩ = some (.slice A xa.nodes.length c) ∧ X.cell? ⟨qa, 1, none⟩ = some (.slice none xa.devs.length 0) ∧ X.cell? ⟨qb, 0, none⟩ = some (.slice (some ⟨gb, 0, none⟩) xb.nodes.length c10) ∧ X.cell? ⟨qb, 1, none⟩ = some (.slice none xb.devs.length 0) ∧ X.cell? ⟨qc, 0, none⟩ = some (.slice (some ⟨g11, 0, none⟩) xc.nodes.length c11) ∧ X.cell? ⟨qc, 1, none⟩ = some (.slice D xc.devs.length d)) (by kernel_rfl) ?_
                refine wpAnyH_take (i := 0) (v := (lV xa A c none 0)) rfl (by kernel_rfl) (by kernel_rfl) (by kernel_rfl) (fun _ _ _ h => h) (Or.inl ⟨by rfl, by intro w hS; obtain ⟨q0, q1, q2, q3, q4, q5⟩ := hS; go_simp⟩) (unhide K0).2 ?_
                refine wpAnyH_take (i := 2) (v := (.int .i64 2)) rfl (by kernel_rfl) (by kernel_rfl) (by kernel_rfl) (fun _ _ _ h => h) (Or.inl ⟨by rfl, by intro w hS; obtain ⟨q0, q1, q2, q3, q4, q5⟩ := hS; go_simp⟩) (unhide K0).2 ?_
                refine wpAnyH_one (i := 1) (by kernel_rfl) rfl (fun K hK => ?_)
                go_simp
                go_at_call 9
                refine (unhide HVa _ (unhide K0).1).mono ?_
                rintro e w1 ⟨rfl, hbw1⟩
                try go_simp
                have K1 := hide (lm_keep7 (unhide K0) hbw1)
                refine hK _ _ ⟨(unhide K1).2, ?_⟩
                clear hK K
                refine wpAnyH_take (i := 3) (v := (.bool true)) rfl (by kernel_rfl) (by kernel_rfl) (by kernel_rfl) (fun _ _ _ h => h) (Or.inl ⟨by rfl, by intro w hS; obtain ⟨q0, q1, q2, q3, q4, q5⟩ := hS; go_simp⟩) (unhide K1).2 ?_
                refine wpAnyH_take (i := 4) (v := (.bool true)) rfl (by kernel_rfl) (by kernel_rfl) (by kernel_rfl) (fun _ _ _ h => h) (Or.inl ⟨by rfl, by intro w hS; obtain ⟨q0, q1, q2, q3, q4, q5⟩ := hS; go_simp⟩) (unhide K1).2 ?_
                refine wpAnyH_take (i := 5) (v := (lV xb (some ⟨gb, 0, none⟩) c10 none 0)) rfl (by kernel_rfl) (by kernel_rfl) (by kernel_rfl) (fun _ _ _ h => h) (Or.inl ⟨by rfl, by intro w hS; obtain ⟨q0, q1, q2, q3, q4, q5⟩ := hS; go_simp⟩) (unhide K1).2 ?_
                refine wpAnyH_take (i := 7) (v := (.int .i64 2)) rfl (by kernel_rfl) (by kernel_rfl) (by kernel_rfl) (fun _ _ _ h => h) (Or.inl ⟨by rfl, by intro w hS; obtain ⟨q0, q1, q2, q3, q4, q5⟩ := hS; go_simp⟩) (unhide K1).2 ?_
                refine wpAnyH_one (i := 6) (by kernel_rfl) rfl (fun K hK => ?_)
                go_simp
                go_at_call 9
                refine (unhide HVb _ (unhide K1).1).mono ?_
                rintro e w2 ⟨rfl, hbw2⟩
                try go_simp
                have K2 := hide (lm_keep7 (unhide K1) hbw2)
                refine hK _ _ ⟨(unhide K2).2, ?_⟩
                clear hK K
                refine wpAnyH_take (i := 8) (v := (.bool true)) rfl (by kernel_rfl) (by kernel_rfl) (by kernel_rfl) (fun _ _ _ h => h) (Or.inl ⟨by rfl, by intro w hS; obtain ⟨q0, q1, q2, q3, q4, q5⟩ := hS; go_simp⟩) (unhide K2).2 ?_
                refine wpAnyH_take (i := 9) (v := (.bool true)) rfl (by kernel_rfl) (by kernel_rfl) (by kernel_rfl) (fun _ _ _ h => h) (Or.inl ⟨by rfl, by intro w hS; obtain ⟨q0, q1, q2, q3, q4, q5⟩ := hS; go_simp⟩) (unhide K2).2 ?_
                refine wpAnyH_take (i := 10) (v := (.bool true)) rfl (by kernel_rfl) (by kernel_rfl) (by kernel_rfl) (fun _ _ _ h => h) (Or.inl ⟨by rfl, by intro w hS; obtain ⟨q0, q1, q2, q3, q4, q5⟩ := hS; go_simp⟩) (unhide K2).2 ?_
                refine wpAnyH_take (i := 11) (v := (lV xc (some ⟨g11, 0, none⟩) c11 D d)) rfl (by kernel_rfl) (by kernel_rfl) (by kernel_rfl) (fun _ _ _ h => h) (Or.inl ⟨by rfl, by intro w hS; obtain ⟨q0, q1, q2, q3, q4, q5⟩ := hS; go_simp⟩) (unhide K2).2 ?_
                refine wpAnyH_take (i := 13) (v := (.int .i64 2)) rfl (by kernel_rfl) (by kernel_rfl) (by kernel_rfl) (fun _ _ _ h => h) (Or.inl ⟨by rfl, by intro w hS; obtain ⟨q0, q1, q2, q3, q4, q5⟩ := hS; go_simp⟩) (unhide K2).2 ?_
                refine wpAnyH_one (i := 12) (by kernel_rfl) rfl (fun K hK => ?_)
                go_simp
                go_at_call 9
                refine (unhide HVc _ (unhide K2).1).mono ?_
                rintro e w3 ⟨rfl, hbw3⟩
                try go_simp
                have K3 := hide (lm_keep7 (unhide K2) hbw3)
                refine hK _ _ ⟨(unhide K3).2, ?_⟩
                clear hK K
                refine wpAnyH_take (i := 14) (v := (.bool true)) rfl (by kernel_rfl) (by kernel_rfl) (by kernel_rfl) (fun _ _ _ h => h) (Or.inl ⟨by rfl, by intro w hS; obtain ⟨q0, q1, q2, q3, q4, q5⟩ := hS; go_simp⟩) (unhide K3).2 ?_
                refine wpAnyH_take (i := 15) (v := (.bool true)) rfl (by kernel_rfl) (by kernel_rfl) (by kernel_rfl) (fun _ _ _ h => h) (Or.inl ⟨by rfl, by intro w hS; obtain ⟨q0, q1, q2, q3, q4, q5⟩ := hS; go_simp⟩) (unhide K3).2 ?_
                refine wpAnyH_take (i := 16) (v := (.bool true)) rfl (by kernel_rfl) (by kernel_rfl) (by kernel_rfl) (fun _ _ _ h => h) (Or.inl ⟨by rfl, by intro w hS; obtain ⟨q0, q1, q2, q3, q4, q5⟩ := hS; go_simp⟩) (unhide K3).2 ?_
                refine wpAnyH_take (i := 17) (v := (lV xb (some ⟨gb, 0, none⟩) c10 none 0)) rfl (by kernel_rfl) (by kernel_rfl) (by kernel_rfl) (fun _ _ _ h => h) (Or.inl ⟨by rfl, by intro w hS; obtain ⟨q0, q1, q2, q3, q4, q5⟩ := hS; go_simp⟩) (unhide K3).2 ?_
                refine wpAnyH_take (i := 19) (v := (.int .i64 81)) rfl (by kernel_rfl) (by kernel_rfl) (by kernel_rfl) (fun _ _ _ h => h) (Or.inl ⟨by rfl, by intro w hS; obtain ⟨q0, q1, q2, q3, q4, q5⟩ := hS; go_simp⟩) (unhide K3).2 ?_
                refine wpAnyH_take (i := 21) (v := (.int .i64 (1))) rfl (by kernel_rfl) (by kernel_rfl) (by kernel_rfl) (fun _ _ _ h => h) (Or.inl ⟨by rfl, by intro w hS; obtain ⟨q0, q1, q2, q3, q4, q5⟩ := hS; go_simp⟩) (unhide K3).2 ?_
                refine wpAnyH_take (i := 22) (v := (.int .i64 1)) rfl (by kernel_rfl) (by kernel_rfl) (by kernel_rfl) (fun _ _ _ h => h) (Or.inl ⟨by rfl, by intro w hS; obtain ⟨q0, q1, q2, q3, q4, q5⟩ := hS; go_simp⟩) (unhide K3).2 ?_
                refine wpAnyH_two (i := 18) (j := 20) (by kernel_rfl) rfl rfl (fun K hK => ?_) (fun K hK => ?_)
                case' refine_2 =>
                  go_simp
                  have K4 := hide (lm_keep7 (unhide K3) ((Below.refl _ _).alloc (Nat.le_refl _) (.cells #[.int .i64 81, .int .i64 0] 3)))
                  refine hK _ _ ⟨(unhide K4).2, ?_⟩
                  clear hK K
                  refine wpAnyH_take (i := 23) (v := (.pointer (some ⟨w3.heap.size, 1, none⟩))) rfl (by kernel_rfl) (by kernel_rfl) (by kernel_rfl) (fun _ _ _ h => h) (Or.inl ⟨by rfl, by intro w hS; obtain ⟨q0, q1, q2, q3, q4, q5⟩ := hS; go_simp⟩) (unhide K4).2 ?_
                  refine wpAnyH_two (i := 18) (j := 24) (by kernel_rfl) rfl rfl (fun K hK => ?_) (fun K hK => ?_)
                  case' refine_2 =>
                    have zc := (lm_i1 (W := w3) (x := 81) (y := 0))
                    go_simp
                    refine hK _ _ ⟨(unhide K4).2, ?_⟩
                    clear hK K zc
                    refine wpAnyH_one (i := 18) (by kernel_rfl) rfl (fun K hK => ?_)
                    go_simp
                    go_at_call 10
                    refine (unhide HWb _ (unhide K4).1).mono ?_
                    rintro e w4 ⟨rfl, hbw4⟩
                    try go_simp
                    have K5 := hide (lm_keep7 (unhide K4) hbw4)
                    refine hK _ _ ⟨(unhide K5).2, ?_⟩
                    clear hK K
                    refine wpAnyH_take (i := 25) (v := (.bool true)) rfl (by kernel_rfl) (by kernel_rfl) (by kernel_rfl) (fun _ _ _ h => h) (Or.inl ⟨by rfl, by intro w hS; obtain ⟨q0, q1, q2, q3, q4, q5⟩ := hS; go_simp⟩) (unhide K5).2 ?_
                    refine wpAnyH_take (i := 26) (v := (.bool true)) rfl (by kernel_rfl) (by kernel_rfl) (by kernel_rfl) (fun _ _ _ h => h) (Or.inl ⟨by rfl, by intro w hS; obtain ⟨q0, q1, q2, q3, q4, q5⟩ := hS; go_simp⟩) (unhide K5).2 ?_
                    refine wpAnyH_take (i := 27) (v := (.bool true)) rfl (by kernel_rfl) (by kernel_rfl) (by kernel_rfl) (fun _ _ _ h => h) (Or.inl ⟨by rfl, by intro w hS; obtain ⟨q0, q1, q2, q3, q4, q5⟩ := hS; go_simp⟩) (unhide K5).2 ?_
                    refine wpAnyH_one (i := 28) (by kernel_rfl) rfl (fun K hK => ?_)
                    go_simp
                    go_at_call 11
                    refine (unhide HAw _ (unhide K5).1).mono ?_
                    rintro e w9 ⟨rfl, hbw9⟩
                    try go_simp
                    have K9 := hide (lm_keep7 (unhide K5) hbw9)
                    refine hK _ _ ⟨(unhide K9).2, ?_⟩
                    clear hK K
                    refine wpAnyH_take (i := 29) (v := (.bool true)) rfl (by kernel_rfl) (by kernel_rfl) (by kernel_rfl) (fun _ _ _ h => h) (Or.inl ⟨by rfl, by intro w hS; obtain ⟨q0, q1, q2, q3, q4, q5⟩ := hS; go_simp⟩) (unhide K9).2 ?_
                    refine wpAnyH_take (i := 30) (v := (.bool true)) rfl (by kernel_rfl) (by kernel_rfl) (by kernel_rfl) (fun _ _ _ h => h) (Or.inl ⟨by rfl, by intro w hS; obtain ⟨q0, q1, q2, q3, q4, q5⟩ := hS; go_simp⟩) (unhide K9).2 ?_
                    refine wpAnyH_done (by kernel_rfl) ?_ _
                    have HB := hide (unhide K9).1
                    go_wp2
                    go_ret
                    exact ⟨rfl, onward (unhide HBd) (unhide HB)⟩
                  go_simp
                  go_at_call 10
                  refine (unhide HWb _ (unhide K4).1).mono ?_
                  rintro e w4 ⟨rfl, hbw4⟩
                  try go_simp
                  have K5 := hide (lm_keep7 (unhide K4) hbw4)
                  refine hK _ _ ⟨(unhide K5).2, ?_⟩
                  clear hK K
                  refine wpAnyH_one (i := 24) (by kernel_rfl) rfl (fun K hK => ?_)
                  have zc := (kept hbw4 (lm_i1 (W := w3) (x := 81) (y := 0)))
                  go_simp
                  refine hK _ _ ⟨(unhide K5).2, ?_⟩
                  clear hK K zc
                  refine wpAnyH_take (i := 25) (v := (.bool true)) rfl (by kernel_rfl) (by kernel_rfl) (by kernel_rfl) (fun _ _ _ h => h) (Or.inl ⟨by rfl, by intro w hS; obtain ⟨q0, q1, q2, q3, q4, q5⟩ := hS; go_simp⟩) (unhide K5).2 ?_
                  refine wpAnyH_take (i := 26) (v := (.bool true)) rfl (by kernel_rfl) (by kernel_rfl) (by kernel_rfl) (fun _ _ _ h => h) (Or.inl ⟨by rfl, by intro w hS; obtain ⟨q0, q1, q2, q3, q4, q5⟩ := hS; go_simp⟩) (unhide K5).2 ?_
                  refine wpAnyH_take (i := 27) (v := (.bool true)) rfl (by kernel_rfl) (by kernel_rfl) (by kernel_rfl) (fun _ _ _ h => h) (Or.inl ⟨by rfl, by intro w hS; obtain ⟨q0, q1, q2, q3, q4, q5⟩ := hS; go_simp⟩) (unhide K5).2 ?_
                  refine wpAnyH_one (i := 28) (by kernel_rfl) rfl (fun K hK => ?_)
                  go_simp
                  go_at_call 11
                  refine (unhide HAw _ (unhide K5).1).mono ?_
                  rintro e w9 ⟨rfl, hbw9⟩
                  try go_simp
                  have K9 := hide (lm_keep7 (unhide K5) hbw9)
                  refine hK _ _ ⟨(unhide K9).2, ?_⟩
                  clear hK K
                  refine wpAnyH_take (i := 29) (v := (.bool true)) rfl (by kernel_rfl) (by kernel_rfl) (by kernel_rfl) (fun _ _ _ h => h) (Or.inl ⟨by rfl, by intro w hS; obtain ⟨q0, q1, q2, q3, q4, q5⟩ := hS; go_simp⟩) (unhide K9).2 ?_
                  refine wpAnyH_take (i := 30) (v := (.bool true)) rfl (by kernel_rfl) (by kernel_rfl) (by kernel_rfl) (fun _ _ _ h => h) (Or.inl ⟨by rfl, by intro w hS; obtain ⟨q0, q1, q2, q3, q4, q5⟩ := hS; go_simp⟩) (unhide K9).2 ?_
                  refine wpAnyH_done (by kernel_rfl) ?_ _
                  have HB := hide (unhide K9).1
                  go_wp2
                  go_ret
                  exact ⟨rfl, onward (unhide HBd) (unhide HB)⟩
                go_simp
                go_at_call 10
                refine (unhide HWb _ (unhide K3).1).mono ?_
                rintro e w4 ⟨rfl, hbw4⟩
                try go_simp
                have K4 := hide (lm_keep7 (unhide K3) hbw4)
                refine hK _ _ ⟨(unhide K4).2, ?_⟩
                clear hK K
                refine wpAnyH_one (i := 20) (by kernel_rfl) rfl (fun K hK => ?_)
                go_simp
                have K5 := hide (lm_keep7 (unhide K4) ((Below.refl _ _).alloc (Nat.le_refl _) (.cells #[.int .i64 81, .int .i64 0] 3)))
                refine hK _ _ ⟨(unhide K5).2, ?_⟩
                clear hK K
                refine wpAnyH_take (i := 23) (v := (.pointer (some ⟨w4.heap.size, 1, none⟩))) rfl (by kernel_rfl) (by kernel_rfl) (by kernel_rfl) (fun _ _ _ h => h) (Or.inl ⟨by rfl, by intro w hS; obtain ⟨q0, q1, q2, q3, q4, q5⟩ := hS; go_simp⟩) (unhide K5).2 ?_
                refine wpAnyH_one (i := 24) (by kernel_rfl) rfl (fun K hK => ?_)
                have zc := (lm_i1 (W := w4) (x := 81) (y := 0))
                go_simp
                refine hK _ _ ⟨(unhide K5).2, ?_⟩
                clear hK K zc
                refine wpAnyH_take (i := 25) (v := (.bool true)) rfl (by kernel_rfl) (by kernel_rfl) (by kernel_rfl) (fun _ _ _ h => h) (Or.inl ⟨by rfl, by intro w hS; obtain ⟨q0, q1, q2, q3, q4, q5⟩ := hS; go_simp⟩) (unhide K5).2 ?_
                refine wpAnyH_take (i := 26) (v := (.bool true)) rfl (by kernel_rfl) (by kernel_rfl) (by kernel_rfl) (fun _ _ _ h => h) (Or.inl ⟨by rfl, by intro w hS; obtain ⟨q0, q1, q2, q3, q4, q5⟩ := hS; go_simp⟩) (unhide K5).2 ?_
                refine wpAnyH_take (i := 27) (v := (.bool true)) rfl (by kernel_rfl) (by kernel_rfl) (by kernel_rfl) (fun _ _ _ h => h) (Or.inl ⟨by rfl, by intro w hS; obtain ⟨q0, q1, q2, q3, q4, q5⟩ := hS; go_simp⟩) (unhide K5).2 ?_
                refine wpAnyH_one (i := 28) (by kernel_rfl) rfl (fun K hK => ?_)
                go_simp
                go_at_call 11
                refine (unhide HAw _ (unhide K5).1).mono ?_
                rintro e w9 ⟨rfl, hbw9⟩
                try go_simp
                have K9 := hide (lm_keep7 (unhide K5) hbw9)
                refine hK _ _ ⟨(unhide K9).2, ?_⟩
                clear hK K
                refine wpAnyH_take (i := 29) (v := (.bool true)) rfl (by kernel_rfl) (by kernel_rfl) (by kernel_rfl) (fun _ _ _ h => h) (Or.inl ⟨by rfl, by intro w hS; obtain ⟨q0, q1, q2, q3, q4, q5⟩ := hS; go_simp⟩) (unhide K9).2 ?_
                refine wpAnyH_take (i := 30) (v := (.bool true)) rfl (by kernel_rfl) (by kernel_rfl) (by kernel_rfl) (fun _ _ _ h => h) (Or.inl ⟨by rfl, by intro w hS; obtain ⟨q0, q1, q2, q3, q4, q5⟩ := hS; go_simp⟩) (unhide K9).2 ?_
                refine wpAnyH_done (by kernel_rfl) ?_ _
                have HB := hide (unhide K9).1
                go_wp2
                go_ret
                exact ⟨rfl, onward (unhide HBd) (unhide HB)⟩
theorem llimits_law (n : Int) (_wn : (Lit.int .i64 n).wf = true) {w : World} (hT : LTab w) :
    Calls Tryd.prog 3 #[.int .i64 n] w fun e w' => e = .returned (.bool true) ∧ Below w.heap.size w w' := llimits_any n w hT
end Go.Proofs.YtmonjjffbmccjaaDoor
