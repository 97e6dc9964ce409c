/-
  LayoutValidates: the walk.
-/
import Derived.Test.YtfddpdognelhmaaGreatDoorLayBf
import Derived.Test.YtfddpdognelhmaaGreatDoorLayRf
import Derived.Test.YtfddpdognelhmaaGreatDoorLayRh
import Derived.Test.YtfddpdognelhmaaGreatDoorLayOp
import Derived.Test.YtfddpdognelhmaaGreatDoorLayZo
import Derived.Test.YtfddpdognelhmaaGreatDoorNumO
import Derived.Test.YtfddpdognelhmaaGreatDoorAnyH
import Derived.Deep.RegionHeld3
namespace Go.Proofs.YtfddpdognelhmaaGreatDoor
open Go.RowKit

/-- A layout in memory: what it is, where it lies. -/
structure LayP where
  x : Lay
  A : Option Addr
  c : Nat
  D : Option Addr
  d : Nat
abbrev LayP.v (p : LayP) : Value := lV p.x p.A p.c p.D p.d
def pick5 {α : Type} (a b c d e : α) (k : Nat) : α := if k = 0 then a else if k = 1 then b else if k = 2 then c else if k = 3 then d else e
theorem pick5_all {α : Type} {Q : α → Prop} {a b c d e : α} (h0 : Q a) (h1 : Q b) (h2 : Q c) (h3 : Q d) (h4 : Q e) (k : Nat) : Q (pick5 a b c d e k) := by
  unfold pick5
  split
  · exact h0
  · split
    · exact h1
    · split
      · exact h2
      · split
        · exact h3
        · exact h4
abbrev cells5 (p0 p1 p2 p3 p4 : LayP) : Array Value := #[.slice p0.A p0.x.nodes.length p0.c, .slice p0.D p0.x.devs.length p0.d, .slice p1.A p1.x.nodes.length p1.c, .slice p1.D p1.x.devs.length p1.d, .slice p2.A p2.x.nodes.length p2.c, .slice p2.D p2.x.devs.length p2.d,
  .slice p3.A p3.x.nodes.length p3.c, .slice p3.D p3.x.devs.length p3.d, .slice p4.A p4.x.nodes.length p4.c, .slice p4.D p4.x.devs.length p4.d]
theorem cells5_at (w : World) (t : TypeId) (p0 p1 p2 p3 p4 : LayP) {k : Nat} (hk : k < 5) :
    (w.alloc (.cells (cells5 p0 p1 p2 p3 p4) t)).cell? ⟨w.heap.size, k * 2, none⟩ = some (.slice (pick5 p0 p1 p2 p3 p4 k).A (pick5 p0 p1 p2 p3 p4 k).x.nodes.length (pick5 p0 p1 p2 p3 p4 k).c) ∧
    (w.alloc (.cells (cells5 p0 p1 p2 p3 p4) t)).cell? ⟨w.heap.size, k * 2 + 1, none⟩ = some (.slice (pick5 p0 p1 p2 p3 p4 k).D (pick5 p0 p1 p2 p3 p4 k).x.devs.length (pick5 p0 p1 p2 p3 p4 k).d) := by
  obtain h | h | h | h | h : k = 0 ∨ k = 1 ∨ k = 2 ∨ k = 3 ∨ k = 4 := by omega
  all_goals subst h; simp [go_sem, pick5]
/-- The boxes of three layouts. -/
structure Bx3 (r qx qy : Nat) (p0 p1 p2 : LayP) (X : World) : Prop where
  a0 : X.cell? ⟨r, 0, none⟩ = some (.slice p0.A p0.x.nodes.length p0.c)
  a1 : X.cell? ⟨r, 1, none⟩ = some (.slice p0.D p0.x.devs.length p0.d)
  b0 : X.cell? ⟨qx, 0, none⟩ = some (.slice p1.A p1.x.nodes.length p1.c)
  b1 : X.cell? ⟨qx, 1, none⟩ = some (.slice p1.D p1.x.devs.length p1.d)
  c0 : X.cell? ⟨qy, 0, none⟩ = some (.slice p2.A p2.x.nodes.length p2.c)
  c1 : X.cell? ⟨qy, 1, none⟩ = some (.slice p2.D p2.x.devs.length p2.d)
theorem Bx3.grown {r qx qy b : Nat} {p0 p1 p2 : LayP} {X Y : World} (h : Bx3 r qx qy p0 p1 p2 X) (hg : X.grownBy Y (some b)) (hr : r ≠ b) (hx : qx ≠ b) (hy : qy ≠ b) : Bx3 r qx qy p0 p1 p2 Y :=
  ⟨hg.cell h.a0 (by simpa using hr), hg.cell h.a1 (by simpa using hr), hg.cell h.b0 (by simpa using hx), hg.cell h.b1 (by simpa using hx), hg.cell h.c0 (by simpa using hy), hg.cell h.c1 (by simpa using hy)⟩
theorem Bx3.keep {r qx qy : Nat} {p0 p1 p2 : LayP} {X Y : World} (h : Bx3 r qx qy p0 p1 p2 X) (hb : Below X.heap.size X Y) : Bx3 r qx qy p0 p1 p2 Y :=
  ⟨kept hb h.a0, kept hb h.a1, kept hb h.b0, kept hb h.b1, kept hb h.c0, kept hb h.c1⟩
theorem lv_keep {W0 W W' : World} {q n m c d : Nat} {A D : Option Addr} (h : Below W0.heap.size W0 W ∧ W.cell? ⟨q, 0, none⟩ = some (.slice A n c) ∧ W.cell? ⟨q, 1, none⟩ = some (.slice D m d)) (hb : Below W.heap.size W W') :
    Below W0.heap.size W0 W' ∧ W'.cell? ⟨q, 0, none⟩ = some (.slice A n c) ∧ W'.cell? ⟨q, 1, none⟩ = some (.slice D m d) := ⟨onward h.1 hb, kept hb h.2.1, kept hb h.2.2⟩
theorem ordx_small (x : Lay) : (ordX x).length ≤ 1000000 := by
  unfold ordX
  split
  · rename_i h
    have h1 : x.nodes.length ≤ 24 := Classical.byContradiction fun h2 => by
      rw [layE_2 (.inl (by omega))] at h
      exact absurd h (by decide)
    have := (ordN_ord x.nodes).len
    rw [ordF_len]; omega
  · exact Nat.zero_le _
/-- Small enough for Bent. -/
structure Smol (k : Nat) (x : Lay) : Prop where
  nn : x.nodes.length ≤ k
  nd : x.devs.length ≤ k
  ne : ∀ i, i < x.nodes.length → (x.nodes.getD i nd0).exits.length ≤ k
theorem Smol.bent {k : Nat} {x y : Lay} (h : Smol k x) (h1 : y.nodes.length = x.nodes.length) (h2 : ∀ i, i < y.nodes.length → (y.nodes.getD i nd0).exits.length ≤ (x.nodes.getD i nd0).exits.length + 1) (h3 : y.devs.length ≤ x.devs.length + 1) : Smol (k + 1) y :=
  ⟨by have := h.nn; omega, by have := h.nd; omega, fun i hi => by have := h2 i hi; have := h.ne i (by omega); omega⟩
theorem Smol.lay {k : Nat} {x : Lay} (h : Smol k x) (hk : k ≤ 900) {b : Nat} {w : World} {A D : Option Addr} (hN : NdsIn b w A x.nodes) (hD : DvsIn b w D x.devs) : LayIn b w x A D :=
  ⟨hN, hD, fun nd hnd => by
    obtain ⟨i, hi, rfl⟩ := List.getElem_of_mem hnd
    have := h.ne i hi
    rw [at_k hi] at this
    omega, by have := h.nn; omega, by have := h.nd; omega⟩
theorem smol_bent {B b k : Nat} {x : Lay} {A D : Option Addr} {c d : Nat} {n : Int} {nm : ByteArray} {w : World} (h : Smol k x) (hk : k ≤ 900) (hS : Src B b w) (hN : NdsIn b w A x.nodes) (hD : DvsIn b w D x.devs) :
    Calls Tryz.prog 8 #[.pointer (some ⟨b, 0, none⟩), lV x A c D d, .int .i64 n, .string nm] w (BentTo B b x w) :=
  bent_any B b x A D c d n nm w hS (by have := h.nn; omega) (by have := h.nd; omega) (fun i hi => by have := h.ne i hi; omega) hN hD
theorem smol_gen {z : GSz} {x : Lay} (h : GenL z x) : Smol 800 x :=
  ⟨by have := h.n11; have := h.len; omega, by have := h.dv.few; omega, fun i hi => by have := h.few (i := i) (by rw [← h.len]; exact hi); omega⟩

set_option maxHeartbeats 8000000 in
set_option maxRecDepth 100000 in
theorem lvalw_any (x0 : Lay) (P0 : Option Addr) (c0 : Nat) (Q0 : Option Addr) (e0 : Nat) (A2 : Option Addr) (n2 c2 : Nat) (n3 : Int) (nm : ByteArray) (w : World)
    (zn0 : x0.nodes.length ≤ maxLen) (kn0 : NdsIn w.heap.size w P0 x0.nodes) (kd0 : DvsIn w.heap.size w Q0 x0.devs)
    (hT : LTab w ∧ WTab w) (hc2 : n2 ≤ c2) (hI2 : IntsIn w.heap.size w A2 n2) :
    Calls Tryz.prog 3 #[lV x0 P0 c0 Q0 e0, .slice A2 n2 c2, .int .i64 n3, .string nm] w fun e w' => e = .returned (.bool true) ∧ Below w.heap.size w w' := by
  have b1 := (Below.refl w.heap.size w).alloc (Nat.le_refl _) (lO x0 P0 c0 Q0 e0)
  obtain ⟨W2, hW2⟩ : ∃ W2 : World, w.alloc (lO x0 P0 c0 Q0 e0) = W2 := ⟨_, rfl⟩
  have hbx0 : W2.heap[w.heap.size]? = some (lO x0 P0 c0 Q0 e0) := by rw [← hW2]; exact heap_alloc_new w _
  rw [hW2] at b1
  have HB2 := hide b1
  have HX0 := hide hbx0
  have HN0 := hide (kn0.keep b1)
  have HD0 := hide (kd0.keep b1)
  have HT := hide hT.1
  have HWT := hide hT.2
  have HI2 := hide hI2
  have a0 : W2.cell? ⟨w.heap.size, 0, none⟩ = some (.slice P0 x0.nodes.length c0) := by rw [Lib.cell_of_heap hbx0]; rfl
  have a1 : W2.cell? ⟨w.heap.size, 1, none⟩ = some (.slice Q0 x0.devs.length e0) := by rw [Lib.cell_of_heap hbx0]; rfl
  clear hT hI2 kn0 kd0 b1 hbx0
  go_enter Tryz.func3, Tryz.ntmps3
  go_wp2_with fail
  refine (llight_any w.heap.size x0 P0 Q0 c0 e0 _ zn0 (unhide HN0)).mono ?_
  rintro e w3 ⟨r0, rfl, hr0, hb3⟩
  have HB3 := hide (onward (unhide HB2) hb3)
  have HX03 := hide (heap_below (unhide HX0) hb3)
  have HN03 := hide ((unhide HN0).keep hb3)
  have HD03 := hide ((unhide HD0).keep hb3)
  have HWk := hide fun W (hb : Below w.heap.size w W) => lawake_any W ((unhide HT).keep hb)
  have HR0 := hide hr0
  clear hb3 a0 a1 HB2 HX0 HN0 HD0 hr0
  cases r0 with
  | false =>
    go_wp2_with fail
    refine (unhide HWk w3 (unhide HB3)).mono ?_
    rintro e w4 ⟨rfl, hb4⟩
    have HB4 := hide (onward (unhide HB3) hb4)
    clear hb4
    go_wp2
    go_ret
    exact ⟨rfl, unhide HB4⟩
  | true =>
    have HL0 := hide (unhide HR0 rfl)
    by_cases h30 : (30 : Int) < (nm.size : Int)
    · go_wp2_with fail
      refine (unhide HWk w3 (unhide HB3)).mono ?_
      rintro e w5 ⟨rfl, hb5⟩
      have HB5 := hide (onward (unhide HB3) hb5)
      clear hb5
      go_wp2
      go_ret
      exact ⟨rfl, unhide HB5⟩
    · have hI3 := lints_later (unhide HI2) (unhide HB3)
      have HR3 := hide (((unhide HL0).lay (unhide HN03) (unhide HD03)).other (b' := w3.heap.size) (Nat.le_refl _))
      go_wp2_with fail
      refine (new_any A2 n2 c2 w3 hc2 hI3).mono ?_
      rintro e w5 ⟨rfl, hs5, hb5⟩
      have HR5 := hide ((unhide HR3).keep hb5)
      have HX05 := hide (heap_below (unhide HX03) hb5)
      have HB5 := hide (onward (unhide HB3) hb5)
      have hwb : w.heap.size < w3.heap.size := (Array.getElem?_eq_some_iff.1 (unhide HX03)).1
      generalize w3.heap.size = b at *
      clear hb5 hI3 HB3 HX03 HN03 HD03 HL0 HI2 HR3
      go_wp2_with fail
      refine (klayout_any b b _ hs5).mono ?_
      rintro e w6 ⟨z, x, A, c, D, d, rfl, hG, hN, hD, hs6, hg6⟩
      have b7 := (Below.refl w6.heap.size w6).alloc (Nat.le_refl _) (lO x A c D d)
      have hbx7 := heap_alloc_new w6 (lO x A c D d)
      have hN7 := hN.keep b7
      have hD7 := hD.keep b7
      have hs7 := hs6.keep b7
      have hsm := smol_gen hG
      have HBe := hide (smol_bent (c := c) (d := d) (n := n3) (nm := nm) hsm (by omega) hs7 hN7 hD7)
      have hlt6 := hs6.lt
      have hX06 := (hg6.block _ (Array.getElem?_eq_some_iff.1 (unhide HX05)).1 (by simp; omega)).trans (unhide HX05)
      have HX07 := hide (heap_below hX06 b7)
      have HR7 := hide (((unhide HR5).grown hg6).keep b7)
      have B6 : Below w.heap.size w w6 := below_reads (unhide HB5) hg6 (by omega) (unhide HB5).size
      have HB7 := hide (B6.trans (b7.mono B6.size))
      have l0 : (w6.alloc (lO x A c D d)).cell? ⟨w6.heap.size, 0, none⟩ = some (.slice A x.nodes.length c) := by rw [Lib.cell_of_heap hbx7]; rfl
      have l1 : (w6.alloc (lO x A c D d)).cell? ⟨w6.heap.size, 1, none⟩ = some (.slice D x.devs.length d) := by rw [Lib.cell_of_heap hbx7]; rfl
      have HSm := hide hsm
      have HX7 := hide hbx7
      have HN7 := hide hN7
      have HD7 := hide hD7
      have hqb : w6.heap.size ≠ b := by omega
      clear hs5 hG hN hD hs6 hg6 b7 hbx7 hN7 hD7 hs7 hsm hX06 B6 hlt6 HR5 HX05 HB5
      go_wp2_with fail
      refine (unhide HBe).mono ?_
      rintro e w8 ⟨y, A', c', D', d', rfl, hyl, hye, hyd, hN8, hD8, hs8, hg8⟩
      have B8 : Below w.heap.size w w8 := below_reads (unhide HB7) hg8 (by omega) (unhide HB7).size
      have hxN8 := (unhide HN7).grown hg8
      have hxD8 := (unhide HD7).grown hg8
      have hX8 := (hg8.block _ (Array.getElem?_eq_some_iff.1 (unhide HX7)).1 (by simpa using hqb)).trans (unhide HX7)
      have hX08 := (hg8.block _ (Array.getElem?_eq_some_iff.1 (unhide HX07)).1 (by simp; omega)).trans (unhide HX07)
      have b9 := (Below.refl w8.heap.size w8).alloc (Nat.le_refl _) (lO y A' c' D' d')
      have HB9 := hide (B8.trans (b9.mono B8.size))
      have hbx9 := heap_alloc_new w8 (lO y A' c' D' d')
      have HS9 := hide (hs8.keep b9)
      have HR9 := hide (((unhide HR7).grown hg8).keep b9)
      have HXN9 := hide (hxN8.keep b9)
      have HXD9 := hide (hxD8.keep b9)
      have HYN9 := hide (hN8.keep b9)
      have HYD9 := hide (hD8.keep b9)
      have HSy := hide ((unhide HSm).bent hyl hye hyd)
      have hyb : w8.heap.size ≠ b := by have := hs8.lt; omega
      have hS9 : Bx3 w.heap.size w6.heap.size w8.heap.size ⟨x0, P0, c0, Q0, e0⟩ ⟨x, A, c, D, d⟩ ⟨y, A', c', D', d'⟩ (w8.alloc (lO y A' c' D' d')) :=
        ⟨by rw [Lib.cell_of_heap (heap_below hX08 b9)]; rfl, by rw [Lib.cell_of_heap (heap_below hX08 b9)]; rfl, by rw [Lib.cell_of_heap (heap_below hX8 b9)]; rfl, by rw [Lib.cell_of_heap (heap_below hX8 b9)]; rfl, by rw [Lib.cell_of_heap hbx9]; rfl, by rw [Lib.cell_of_heap hbx9]; rfl⟩
      have hrb : w.heap.size ≠ b := by omega
      clear hyl hye hyd hN8 hD8 hs8 hg8 B8 hxN8 hxD8 hX8 hX08 b9 hbx9 l0 l1 HR7 HN7 HD7 HX7 HX07 HB7 HBe
      generalize hq7 : w6.heap.size = qx at *
      generalize hq9 : w8.heap.size = qy at *
      generalize hW9 : w8.alloc (lO y A' c' D' d') = W9 at *
      have HS0 := hide (show Bx3 w.heap.size qx qy ⟨x0, P0, c0, Q0, e0⟩ ⟨x, A, c, D, d⟩ ⟨y, A', c', D', d'⟩ W9.drew from hS9.keep (Below.refl _ _).drew)
      have HNb := hide hrb
      have HNx := hide hqb
      have HNy := hide hyb
      have HWb := hide hwb
      have hm10 := modN_range n3 10 (by omega)
      have hm5 := modN_range n3 5 (by omega)
      clear hS9 hrb hqb hyb hwb
      have d0 : Below W9.heap.size W9 W9.drew := (Below.refl _ _).drew
      have HSd := hide ((unhide HS9).keep d0)
      have HRd := hide ((unhide HR9).keep d0)
      have HXNd := hide ((unhide HXN9).keep d0)
      have HXDd := hide ((unhide HXD9).keep d0)
      have HYNd := hide ((unhide HYN9).keep d0)
      have HYDd := hide ((unhide HYD9).keep d0)
      have HBd := hide ((unhide HB9).trans (d0.mono (unhide HB9).size))
      clear d0 HS9 HR9 HXN9 HXD9 HYN9 HYD9 HB9
      go_wp2_with fail
      clear hq7 hq9
      refine wp_region_held (S := Bx3 w.heap.size qx qy ⟨x0, P0, c0, Q0, e0⟩ ⟨x, A, c, D, d⟩ ⟨y, A', c', D', d'⟩) (by kernel_rfl) ?_
      change wpAnyH _ _ _ _ _ _ _ _ W9.drew
      generalize W9.drew = Wd at *
      refine wpAnyH_take (i := 15) (v := (.int .i64 0)) rfl (by kernel_rfl) (by kernel_rfl) (by kernel_rfl) (fun _ _ _ h => h) (Or.inl ⟨by rfl, by intro w hS; go_simp⟩) (unhide HS0) ?_
      refine wpAnyH_take (i := 0) (v := (lV x0 P0 c0 Q0 e0)) rfl (by kernel_rfl) (by kernel_rfl) (by kernel_rfl) (fun _ _ _ h => h) (Or.inl ⟨by rfl, by intro w hS; obtain ⟨q0, q1, q2, q3, q4, q5⟩ := hS; go_simp⟩) (unhide HS0) ?_
      refine wpAnyH_take (i := 1) (v := (lV x A c D d)) rfl (by kernel_rfl) (by kernel_rfl) (by kernel_rfl) (fun _ _ _ h => h) (Or.inl ⟨by rfl, by intro w hS; obtain ⟨q0, q1, q2, q3, q4, q5⟩ := hS; go_simp⟩) (unhide HS0) ?_
      refine wpAnyH_take (i := 2) (v := (lV y A' c' D' d')) rfl (by kernel_rfl) (by kernel_rfl) (by kernel_rfl) (fun _ _ _ h => h) (Or.inl ⟨by rfl, by intro w hS; obtain ⟨q0, q1, q2, q3, q4, q5⟩ := hS; go_simp⟩) (unhide HS0) ?_
      refine wpAnyH_take (i := 3) (v := (.pointer (some ⟨b, 0, none⟩))) rfl (by kernel_rfl) (by kernel_rfl) (by kernel_rfl) (fun _ _ _ h => h) (Or.inl ⟨by rfl, by intro w hS; obtain ⟨q0, q1, q2, q3, q4, q5⟩ := hS; go_simp⟩) (unhide HS0) ?_
      refine wpAnyH_take (i := 4) (v := (lV x A c D d)) rfl (by kernel_rfl) (by kernel_rfl) (by kernel_rfl) (fun _ _ _ h => h) (Or.inl ⟨by rfl, by intro w hS; obtain ⟨q0, q1, q2, q3, q4, q5⟩ := hS; go_simp⟩) (unhide HS0) ?_
      refine wpAnyH_take (i := 5) (v := (.int .i64 n3)) rfl (by kernel_rfl) (by kernel_rfl) (by kernel_rfl) (fun _ _ _ h => h) (Or.inl ⟨by rfl, by intro w hS; obtain ⟨q0, q1, q2, q3, q4, q5⟩ := hS; go_simp⟩) (unhide HS0) ?_
      refine wpAnyH_take (i := 8) (v := (.pointer (some ⟨b, 0, none⟩))) rfl (by kernel_rfl) (by kernel_rfl) (by kernel_rfl) (fun _ _ _ h => h) (Or.inl ⟨by rfl, by intro w hS; obtain ⟨q0, q1, q2, q3, q4, q5⟩ := hS; go_simp⟩) (unhide HS0) ?_
      refine wpAnyH_take (i := 9) (v := (lV y A' c' D' d')) rfl (by kernel_rfl) (by kernel_rfl) (by kernel_rfl) (fun _ _ _ h => h) (Or.inl ⟨by rfl, by intro w hS; obtain ⟨q0, q1, q2, q3, q4, q5⟩ := hS; go_simp⟩) (unhide HS0) ?_
      refine wpAnyH_take (i := 10) (v := (.int .i64 n3)) rfl (by kernel_rfl) (by kernel_rfl) (by kernel_rfl) (fun _ _ _ h => h) (Or.inl ⟨by rfl, by intro w hS; obtain ⟨q0, q1, q2, q3, q4, q5⟩ := hS; go_simp⟩) (unhide HS0) ?_
      refine wpAnyH_one (i := 6) (by kernel_rfl) rfl (fun K hK => ?_)
      go_simp
      go_at_call 9
      refine (mod_any n3 10 _ (by omega) (by omega)).mono ?_
      rintro e w10 ⟨rfl, rfl⟩
      try go_simp
      refine hK _ _ ⟨unhide HS0, ?_⟩
      clear hK K
      refine wpAnyH_one (i := 7) (by kernel_rfl) rfl (fun K hK => ?_)
      go_simp
      go_at_call 8
      refine (smol_bent (unhide HSm) (by omega) (unhide HSd) (unhide HXNd) (unhide HXDd)).mono ?_
      rintro e w10 ⟨u, Au, cu, Du, du, rfl, hul, hue, hud, huN, huD, hsu, hgu⟩
      try go_simp
      have HS10 := hide ((unhide HS0).grown hgu (unhide HNb) (unhide HNx) (unhide HNy))
      have HSu := hide ((unhide HSm).bent hul hue hud)
      have HUN := hide huN
      have HUD := hide huD
      have HSd10 := hide hsu
      have HR10 := hide ((unhide HRd).grown hgu)
      have HXN10 := hide ((unhide HXNd).grown hgu)
      have HXD10 := hide ((unhide HXDd).grown hgu)
      have HYN10 := hide ((unhide HYNd).grown hgu)
      have HYD10 := hide ((unhide HYDd).grown hgu)
      have HB10 := hide (below_reads (unhide HBd) hgu (Nat.le_of_lt (unhide HWb)) (unhide HBd).size)
      refine hK _ _ ⟨unhide HS10, ?_⟩
      clear hK K hul hue hud huN huD hsu hgu HSd HRd HXNd HXDd HYNd HYDd HBd HS0
      refine wpAnyH_one (i := 11) (by kernel_rfl) rfl (fun K hK => ?_)
      go_simp
      go_at_call 9
      refine (mod_any n3 5 _ (by omega) (by omega)).mono ?_
      rintro e w11 ⟨rfl, rfl⟩
      try go_simp
      refine hK _ _ ⟨unhide HS10, ?_⟩
      clear hK K
      refine wpAnyH_one (i := 12) (by kernel_rfl) rfl (fun K hK => ?_)
      go_simp
      go_at_call 8
      refine (smol_bent (unhide HSy) (by omega) (unhide HSd10) (unhide HYN10) (unhide HYD10)).mono ?_
      rintro e w12 ⟨t, At, ct, Dt, dt, rfl, htl, hte, htd, htN, htD, hst, hgt⟩
      try go_simp
      have HS12 := hide ((unhide HS10).grown hgt (unhide HNb) (unhide HNx) (unhide HNy))
      have bV := (Below.refl w12.heap.size w12).alloc (Nat.le_refl _) (.cells (cells5 ⟨x0, P0, c0, Q0, e0⟩ ⟨x, A, c, D, d⟩ ⟨y, A', c', D', d'⟩ ⟨u, Au, cu, Du, du⟩ ⟨t, At, ct, Dt, dt⟩) 25)
      have HS13 := hide ((unhide HS12).keep bV)
      have hC5 := fun k (hk : k < 5) => cells5_at w12 25 ⟨x0, P0, c0, Q0, e0⟩ ⟨x, A, c, D, d⟩ ⟨y, A', c', D', d'⟩ ⟨u, Au, cu, Du, du⟩ ⟨t, At, ct, Dt, dt⟩ hk
      have hB12 := below_reads (unhide HB10) hgt (Nat.le_of_lt (unhide HWb)) (unhide HB10).size
      have HB13 := hide (hB12.trans (bV.mono hB12.size))
      have hL5 := fun k => pick5_all (Q := fun p : LayP => LayIn b (w12.alloc (.cells (cells5 ⟨x0, P0, c0, Q0, e0⟩ ⟨x, A, c, D, d⟩ ⟨y, A', c', D', d'⟩ ⟨u, Au, cu, Du, du⟩ ⟨t, At, ct, Dt, dt⟩) 25)) p.x p.A p.D)
        (a := ⟨x0, P0, c0, Q0, e0⟩) (b := ⟨x, A, c, D, d⟩) (c := ⟨y, A', c', D', d'⟩) (d := ⟨u, Au, cu, Du, du⟩) (e := ⟨t, At, ct, Dt, dt⟩)
        (((unhide HR10).grown hgt).keep bV) ((unhide HSm).lay (by omega) (((unhide HXN10).grown hgt).keep bV) (((unhide HXD10).grown hgt).keep bV)) ((unhide HSy).lay (by omega) (((unhide HYN10).grown hgt).keep bV) (((unhide HYD10).grown hgt).keep bV))
        ((unhide HSu).lay (by omega) (((unhide HUN).grown hgt).keep bV) (((unhide HUD).grown hgt).keep bV)) (((unhide HSy).bent htl hte htd).lay (by omega) (htN.keep bV) (htD.keep bV)) k
      have hbV : b < (w12.alloc (.cells (cells5 ⟨x0, P0, c0, Q0, e0⟩ ⟨x, A, c, D, d⟩ ⟨y, A', c', D', d'⟩ ⟨u, Au, cu, Du, du⟩ ⟨t, At, ct, Dt, dt⟩) 25)).heap.size := (hst.keep bV).lt
      have HC5 := hide hC5
      have HL5 := hide hL5
      refine hK _ _ ⟨unhide HS12, ?_⟩
      clear hK K htl hte htd htN htD hst hgt bV hC5 hL5 hB12 HS10 HSd10 HR10 HXN10 HXD10 HYN10 HYD10 HB10 HUN HUD HSu HSy HSm
      refine wpAnyH_one (i := 13) (by kernel_rfl) rfl (fun K hK => ?_)
      go_simp
      refine hK _ (w12.alloc (.cells (cells5 ⟨x0, P0, c0, Q0, e0⟩ ⟨x, A, c, D, d⟩ ⟨y, A', c', D', d'⟩ ⟨u, Au, cu, Du, du⟩ ⟨t, At, ct, Dt, dt⟩) 25)) ⟨unhide HS13, ?_⟩
      clear hK K HS12
      generalize w12.alloc (.cells (cells5 ⟨x0, P0, c0, Q0, e0⟩ ⟨x, A, c, D, d⟩ ⟨y, A', c', D', d'⟩ ⟨u, Au, cu, Du, du⟩ ⟨t, At, ct, Dt, dt⟩) 25) = V at *
      generalize pick5 (α := LayP) ⟨x0, P0, c0, Q0, e0⟩ ⟨x, A, c, D, d⟩ ⟨y, A', c', D', d'⟩ ⟨u, Au, cu, Du, du⟩ ⟨t, At, ct, Dt, dt⟩ = PF at *
      refine wpAnyH_take (i := 14) (v := (.int .i64 5)) rfl (by kernel_rfl) (by kernel_rfl) (by kernel_rfl) (fun _ _ _ h => h) (Or.inl ⟨by rfl, by intro w hS; obtain ⟨q0, q1, q2, q3, q4, q5⟩ := hS; go_simp⟩) (unhide HS13) ?_
      refine wpAnyH_done (by kernel_rfl) ?_ _
      go_simp
      generalize w12.heap.size = R at *
      have HbV := hide hbV
      clear hbV HS13 HNb HNx HNy HWb hm10 hm5
      go_wp2
      go_loopw [51] (fun iv wr => ∃ k : Nat, k ≤ 5 ∧ iv = .int .i64 k ∧ Hid (Below V.heap.size V wr)) (fun iv _ => 5 - (intOf iv).toNat)
      case atStart => exact ⟨0, by omega, rfl, Lib.hid (Below.refl _ _)⟩
      case round =>
        obtain ⟨k, hk, rfl, hb⟩ := hrel
        obtain ⟨wo, rfl⟩ : ∃ wo : World, wo = wr := ⟨_, rfl⟩
        have HBo := hide hb.out
        by_cases hlt : k < 5
        · have kl : (k : Int) < 5 := by omega
          have k0 : (0 : Int) ≤ (k : Int) := by omega
          have h5 := unhide HC5 k hlt
          have a0 := kept hb.out h5.1
          have a1 := kept hb.out h5.2
          have hL := (unhide HL5 k).keep hb.out
          generalize PF k = p at *
          obtain ⟨z, Az, cz, Dz, dz⟩ := p
          simp only at a0 a1 hL
          have bB := (Below.refl wo.heap.size wo).alloc (Nat.le_refl _) (lO z Az cz Dz dz)
          have HT2 := hide ((unhide HT).keep (onward (unhide HB13) (hb.out.trans (bB.mono hb.out.size))))
          have HW2 := hide ((unhide HWT).keep (onward (unhide HB13) (hb.out.trans (bB.mono hb.out.size))))
          have HL2 := hide (hL.keep bB)
          have hb2 : b < (wo.alloc (lO z Az cz Dz dz)).heap.size := by have := hb.out.size; have := unhide HbV; rw [World.size_alloc]; omega
          have HBB := hide (hb.out.trans (bB.mono hb.out.size))
          have HF := hide (lformat_any b z Az Dz cz dz _ (unhide HT2) hb2 (unhide HL2))
          have hbx := heap_alloc_new wo (lO z Az cz Dz dz)
          have m0 : (wo.alloc (lO z Az cz Dz dz)).cell? ⟨wo.heap.size, 0, none⟩ = some (.slice Az z.nodes.length cz) := by rw [Lib.cell_of_heap hbx]; rfl
          have m1 : (wo.alloc (lO z Az cz Dz dz)).cell? ⟨wo.heap.size, 1, none⟩ = some (.slice Dz z.devs.length dz) := by rw [Lib.cell_of_heap hbx]; rfl
          have HX := hide hbx
          have Hb2 := hide hb2
          clear hb h5 hL bB hb2 hbx HT2
          go_wp2_with fail
          refine (unhide HF).mono ?_
          rintro e x3 ⟨rfl, hx3⟩
          have HX3 := hide (heap_below (unhide HX) hx3)
          have HL3 := hide ((unhide HL2).keep hx3)
          have HB3 := hide (onward (unhide HBB) hx3)
          have hb3 : b < x3.heap.size := Nat.lt_of_lt_of_le (unhide Hb2) hx3.size
          have HG := hide (rFormat_any b z Az Dz cz dz x3 ((unhide HW2).keep hx3) (unhide HL3) hb3)
          have n0 := kept hx3 m0
          have n1 := kept hx3 m1
          have Hb3 := hide hb3
          clear hx3 hb3 m0 m1 HF HX HL2 HBB HW2 Hb2
          go_wp2_with fail
          refine (unhide HG).mono ?_
          rintro e x4 ⟨rfl, hx4⟩
          have HL4 := hide ((unhide HL3).keep hx4)
          have HB4 := hide (onward (unhide HB3) hx4)
          have hb4 : b < x4.heap.size := Nat.lt_of_lt_of_le (unhide Hb3) hx4.size
          have Hb4 := hide hb4
          have o0 := kept hx4 n0
          have o1 := kept hx4 n1
          have g0 : Below x4.heap.size x4 x4.drew := (Below.refl _ _).drew
          have p0 := kept g0 o0
          have p1 := kept g0 o1
          have HVa := hide fun W (hq : Below x4.heap.size x4 W) => lval_any b z Az Dz cz dz W ((unhide HL4).keep hq)
          have HVb := hide fun W (hq : Below x4.heap.size x4 W) => rval_any b z Az Dz cz dz W ((unhide HL4).keep hq) (Nat.lt_of_lt_of_le (unhide Hb4) hq.size)
          have HOa := hide fun W (hq : Below x4.heap.size x4 W) => lord_any b z Az Dz cz dz W ((unhide HL4).keep hq)
          have HOb := hide fun W (hq : Below x4.heap.size x4 W) => rOrder_any b z Az Dz cz dz W ((unhide HL4).keep hq) (Nat.lt_of_lt_of_le (unhide Hb4) hq.size)
          have HWa := hide fun W (hq : Below x4.heap.size x4 W) => lwins_any b z Az Dz cz dz W ((unhide HL4).keep hq)
          have HWb := hide fun W (hq : Below x4.heap.size x4 W) => rWins_any b z Az Dz cz dz W ((unhide HL4).keep hq) (Nat.lt_of_lt_of_le (unhide Hb4) hq.size)
          have HFa := hide fun W (hq : Below x4.heap.size x4 W) (t : ByteArray) => lFind_any b z t Az Dz cz dz W ((unhide HL4).keep hq)
          have HFb := hide fun W (hq : Below x4.heap.size x4 W) (t : ByteArray) => rfind_any b z t Az Dz cz dz W (by have := (unhide HL4).nn; omega) ((unhide HL4).keep hq).nds
          have hoz : (ordX z).length ≤ 1000000 := ordx_small z
          generalize fmtS z = T at *
          generalize layE z = E at *
          generalize winsF z = wi at *
          generalize ordX z = oz at *
          generalize findI z.nodes nm = f1 at *
          generalize findI z.nodes ⟨#[66]⟩ = f2 at *
          clear hx4 hb4 n0 n1 o0 o1 HG HX3 HL3 HB3 Hb3 HL4
          go_wp2_with fail
          go_region_held3 (fun Z => Below x4.heap.size x4 Z ∧ Z.cell? ⟨wo.heap.size, 0, none⟩ = some (.slice Az z.nodes.length cz) ∧ Z.cell? ⟨wo.heap.size, 1, none⟩ = some (.slice Dz z.devs.length dz))
            (first | exact ⟨g0, p0, p1⟩ | exact lv_keep (by assumption) (by assumption))
            (first
              | (go_at_call 12; refine (unhide HVa _ (And.left (by assumption))).mono ?_; rintro e y1 ⟨rfl, hy1⟩)
              | (go_at_call 13; refine (unhide HVb _ (And.left (by assumption))).mono ?_; rintro e y2 ⟨rfl, hy2⟩)
              | (go_at_call 15; refine (unhide HOa _ (And.left (by assumption))).mono ?_; rintro e y3 ⟨v3, rfl, ho3, hy3⟩; obtain ⟨P3, d3, rfl⟩ := own_form ho3)
              | (go_at_call 16; refine (unhide HOb _ (And.left (by assumption))).mono ?_; rintro e y4 ⟨v4, rfl, ho4, hy4⟩; obtain ⟨P4, d4, rfl⟩ := own_form ho4)
              | (go_at_call 14; refine (ints_same hoz (owns_later ho3 hy4) ho4 rfl).mono ?_; rintro e y5 ⟨rfl, hy5⟩)
              | (go_at_call 17; refine (unhide HWa _ (And.left (by assumption))).mono ?_; rintro e y6 ⟨rfl, hy6⟩)
              | (go_at_call 18; refine (unhide HWb _ (And.left (by assumption))).mono ?_; rintro e y7 ⟨rfl, hy7⟩)
              | (go_at_call 19; refine (unhide HFa _ (And.left (by assumption)) _).mono ?_; rintro e y8 ⟨rfl, hy8⟩)
              | (go_at_call 20; refine (unhide HFb _ (And.left (by assumption)) _).mono ?_; rintro e y9 ⟨rfl, hy9⟩))
          rename_i hH
          have HB7 := hide (onward (unhide HB4) hH.1)
          clear hH
          go_wp2
          go_roundw
          case rel => exact ⟨k + 1, by omega, by go_num, Lib.hid (unhide HB7)⟩
          case measure => simp [intOf]; omega
        · have kl : ¬ (k : Int) < 5 := by omega
          have HB3 := hide (onward (unhide HB13) hb.out)
          clear hb
          go_wp2_with fail
          refine (unhide HWk _ (unhide HB3)).mono ?_
          rintro e x7 ⟨rfl, hx7⟩
          have HB7 := hide (onward (unhide HB3) hx7)
          clear hx7
          go_wp2
          go_ret
          exact ⟨rfl, unhide HB7⟩

theorem lval_law (x0 : Lay) (P0 : Option Addr) (c0 : Nat) (Q0 : Option Addr) (e0 : Nat) {w : World} (zn0 : x0.nodes.length ≤ maxLen) (_zd0 : x0.devs.length ≤ maxLen) (kn0 : ∀ b', w.heap.size ≤ b' → NdsIn b' w P0 x0.nodes) (kd0 : ∀ b', w.heap.size ≤ b' → DvsIn b' w Q0 x0.devs)
    (A2 : Option Addr) (n2 c2 : Nat) (hc2 : n2 ≤ c2) (hI2 : IntsIn w.heap.size w A2 n2) (n3 : Int) (_w3 : (Lit.int .i64 n3).wf = true) (nm : ByteArray) (_hnm : nm.size ≤ maxLen) (hT : LTab w ∧ WTab w) :
    Calls Tryz.prog 3 #[lV x0 P0 c0 Q0 e0, .slice A2 n2 c2, .int .i64 n3, .string nm] w fun e w' => e = .returned (.bool true) ∧ Below w.heap.size w w' :=
  lvalw_any x0 P0 c0 Q0 e0 A2 n2 c2 n3 nm w zn0 (kn0 _ (Nat.le_refl _)) (kd0 _ (Nat.le_refl _)) hT hc2 hI2
end Go.Proofs.YtfddpdognelhmaaGreatDoor
