/-
  LayoutSame: the walk.
-/
import Derived.Test.YtmonjjffbmccjaaGreatDoorLayBf
import Derived.Test.YtmonjjffbmccjaaGreatDoorLaySr
import Derived.Test.YtmonjjffbmccjaaGreatDoorLayOp
import Derived.Test.YtmonjjffbmccjaaGreatDoorLayZo
namespace Go.Proofs.YtmonjjffbmccjaaGreatDoor
open Go.RowKit

set_option maxHeartbeats 8000000 in
set_option maxRecDepth 100000 in
theorem lsamew_any (x0 : Lay) (P0 : Option Addr) (c0 : Nat) (Q0 : Option Addr) (e0 : Nat) (x1 : Lay) (P1 : Option Addr) (c1 : Nat) (Q1 : Option Addr) (e1 : Nat) (A2 : Option Addr) (n2 c2 : Nat) (n3 : Int) (nm : ByteArray) (w : World)
    (zn0 : x0.nodes.length ≤ maxLen) (zn1 : x1.nodes.length ≤ maxLen) (kn0 : NdsIn w.heap.size w P0 x0.nodes) (kd0 : DvsIn w.heap.size w Q0 x0.devs) (kn1 : NdsIn w.heap.size w P1 x1.nodes) (kd1 : DvsIn w.heap.size w Q1 x1.devs)
    (hT : LTab w) (hc2 : n2 ≤ c2) (hI2 : IntsIn w.heap.size w A2 n2) :
    Calls Tryz.prog 8 #[lV x0 P0 c0 Q0 e0, lV x1 P1 c1 Q1 e1, .slice A2 n2 c2, .int .i64 n3, .string nm] w fun e w' => e = .returned (.bool true) ∧ Below w.heap.size w w' := by
  have b1 := (Below.refl w.heap.size w).alloc (Nat.le_refl _) (lO x0 P0 c0 Q0 e0)
  have b2 := b1.alloc (by rw [World.size_alloc]; omega) (lO x1 P1 c1 Q1 e1)
  obtain ⟨W2, hW2⟩ : ∃ W2 : World, (w.alloc (lO x0 P0 c0 Q0 e0)).alloc (lO x1 P1 c1 Q1 e1) = W2 := ⟨_, rfl⟩
  have hbx0 : W2.heap[w.heap.size]? = some (lO x0 P0 c0 Q0 e0) := by rw [← hW2]; exact heap_later (heap_alloc_new w _) _
  have hbx1 : W2.heap[w.heap.size + 1]? = some (lO x1 P1 c1 Q1 e1) := by
    rw [← hW2]
    have := heap_alloc_new (w.alloc (lO x0 P0 c0 Q0 e0)) (lO x1 P1 c1 Q1 e1)
    rwa [World.size_alloc] at this
  rw [hW2] at b2
  have HW2 := hide hW2
  have HB2 := hide b2
  have HX0 := hide hbx0
  have HX1 := hide hbx1
  have HN0 := hide (kn0.keep b2)
  have HD0 := hide (kd0.keep b2)
  have HN1 := hide (kn1.keep b2)
  have HD1 := hide (kd1.keep b2)
  have HT := hide hT
  have HI2 := hide hI2
  have a0 : W2.cell? ⟨w.heap.size, 0, none⟩ = some (.slice P0 x0.nodes.length c0) := by rw [Lib.cell_of_heap hbx0]; rfl
  have a1 : W2.cell? ⟨w.heap.size, 1, none⟩ = some (.slice Q0 x0.devs.length e0) := by rw [Lib.cell_of_heap hbx0]; rfl
  clear hT hI2 kn0 kd0 kn1 kd1 b1 b2 hbx0 hbx1
  go_enter Tryz.func8, Tryz.ntmps8
  go_wp2_with fail
  refine (llight_any w.heap.size x0 P0 Q0 c0 e0 _ zn0 (unhide HN0)).mono ?_
  rintro e w3 ⟨r0, rfl, hr0, hb3⟩
  have HB3 := hide (onward (unhide HB2) hb3)
  have HX03 := hide (heap_below (unhide HX0) hb3)
  have HX13 := hide (heap_below (unhide HX1) hb3)
  have HN03 := hide ((unhide HN0).keep hb3)
  have HD03 := hide ((unhide HD0).keep hb3)
  have HN13 := hide ((unhide HN1).keep hb3)
  have HD13 := hide ((unhide HD1).keep hb3)
  have HWk := hide fun W (hb : Below w.heap.size w W) => lawake_any W ((unhide HT).keep hb)
  have a2 : w3.cell? ⟨w.heap.size + 1, 0, none⟩ = some (.slice P1 x1.nodes.length c1) := by rw [Lib.cell_of_heap (unhide HX13)]; rfl
  have a3 : w3.cell? ⟨w.heap.size + 1, 1, none⟩ = some (.slice Q1 x1.devs.length e1) := by rw [Lib.cell_of_heap (unhide HX13)]; rfl
  have HR0 := hide hr0
  clear hb3 a0 a1 HB2 HX0 HX1 HN0 HD0 HN1 HD1 hr0
  cases r0 with
  | false =>
    go_wp2_with fail
    refine (unhide HWk w3 (unhide HB3)).mono ?_
    rintro e w4 ⟨rfl, hb4⟩
    have HB4 := hide (onward (unhide HB3) hb4)
    clear hb4
    go_wp2
    go_ret
    exact ⟨rfl, unhide HB4⟩
  | true =>
    have HL0 := hide (unhide HR0 rfl)
    go_wp2_with fail
    refine (llight_any w.heap.size x1 P1 Q1 c1 e1 _ zn1 (unhide HN13)).mono ?_
    rintro e w4 ⟨r1, rfl, hr1, hb4⟩
    have HB4 := hide (onward (unhide HB3) hb4)
    have HX04 := hide (heap_below (unhide HX03) hb4)
    have HX14 := hide (heap_below (unhide HX13) hb4)
    have HN04 := hide ((unhide HN03).keep hb4)
    have HD04 := hide ((unhide HD03).keep hb4)
    have HN14 := hide ((unhide HN13).keep hb4)
    have HD14 := hide ((unhide HD13).keep hb4)
    have HR1 := hide hr1
    clear hb4 a2 a3 HB3 HX03 HX13 HN03 HD03 HN13 HD13 hr1 HR0
    cases r1 with
    | false =>
      go_wp2_with fail
      refine (unhide HWk w4 (unhide HB4)).mono ?_
      rintro e w5 ⟨rfl, hb5⟩
      have HB5 := hide (onward (unhide HB4) hb5)
      clear hb5
      go_wp2
      go_ret
      exact ⟨rfl, unhide HB5⟩
    | true =>
      have HL1 := hide (unhide HR1 rfl)
      by_cases h30 : (30 : Int) < (nm.size : Int)
      · go_wp2_with fail
        refine (unhide HWk w4 (unhide HB4)).mono ?_
        rintro e w5 ⟨rfl, hb5⟩
        have HB5 := hide (onward (unhide HB4) hb5)
        clear hb5
        go_wp2
        go_ret
        exact ⟨rfl, unhide HB5⟩
      · have hI4 := lints_later (unhide HI2) (unhide HB4)
        go_wp2_with fail
        refine (new_any A2 n2 c2 w4 hc2 hI4).mono ?_
        rintro e w5 ⟨rfl, hs5, hb5⟩
        go_wp2_with fail
        refine (klayout_any _ _ _ hs5).mono ?_
        rintro e w6 ⟨z, x, A, c, D, d, rfl, hG, hN, hD, hs6, hg6⟩
        have hw4 : w.heap.size ≤ w4.heap.size := (unhide HB4).size
        have hs6l := hs6.lt
        have B6 : Below w4.heap.size w4 w6 := below_reads hb5 hg6 (Nat.le_refl _) hb5.size
        have b7 := (Below.refl w6.heap.size w6).alloc (Nat.le_refl _) (lO x A c D d)
        have B7 := onward B6 b7
        have hbx7 := heap_alloc_new w6 (lO x A c D d)
        have hN7 := hN.keep b7
        have hD7 := hD.keep b7
        have hs7 := hs6.keep b7
        have HBe := hide (bent_any _ _ x A D c d n3 nm _ hs7 (by have := hG.n11; have := hG.len; omega) (by have := hG.dv.few; omega) (fun i hi => by have := hG.few (i := i) (by rw [← hG.len]; exact hi); omega) hN7 hD7)
        have l0 : (w6.alloc (lO x A c D d)).cell? ⟨w6.heap.size, 0, none⟩ = some (.slice A x.nodes.length c) := by rw [Lib.cell_of_heap hbx7]; rfl
        have l1 : (w6.alloc (lO x A c D d)).cell? ⟨w6.heap.size, 1, none⟩ = some (.slice D x.devs.length d) := by rw [Lib.cell_of_heap hbx7]; rfl
        have HG := hide hG
        have HB7 := hide B7
        have HX7 := hide hbx7
        have HN7 := hide hN7
        have HD7 := hide hD7
        clear hs5 hb5 hG hN hD hs6 hg6 B6 b7 B7 hbx7 hN7 hD7 hs7
        go_wp2_with fail
        refine (unhide HBe).mono ?_
        rintro e w8 ⟨y, A', c', D', d', rfl, hyl, hye, hyd, hN8, hD8, hs8, hg8⟩
        have B8 : Below w4.heap.size w4 w8 := below_reads (unhide HB7) hg8 (Nat.le_refl _) (unhide HB7).size
        have hxN8 := (unhide HN7).grown hg8
        have hxD8 := (unhide HD7).grown hg8
        have hX8 := (hg8.block _ (Array.getElem?_eq_some_iff.1 (unhide HX7)).1 (by simp; omega)).trans (unhide HX7)
        have b9 := (Below.refl w8.heap.size w8).alloc (Nat.le_refl _) (lO y A' c' D' d')
        have B9 := onward B8 b9
        have HX := hide (heap_below hX8 b9)
        have HY := hide (heap_alloc_new w8 (lO y A' c' D' d'))
        have HIx := hide ((unhide HG).lay (hxN8.keep b9) (hxD8.keep b9))
        have HIy := hide (show LayIn w4.heap.size (w8.alloc (lO y A' c' D' d')) y A' D' from ⟨hN8.keep b9, hD8.keep b9, fun nd hnd => by
          obtain ⟨i, hi, rfl⟩ := List.getElem_of_mem hnd
          have h1 := hye i hi
          have h2 := (unhide HG).few (i := i) (by rw [← (unhide HG).len, ← hyl]; exact hi)
          rw [at_k hi] at h1
          omega, by have := (unhide HG).n11; have := (unhide HG).len; omega, by have := (unhide HG).dv.few; omega⟩)
        have HI0 := hide (((unhide HL0).lay (unhide HN04) (unhide HD04)).keep B9)
        have HI1 := hide (((unhide HL1).lay (unhide HN14) (unhide HD14)).keep B9)
        have HX0 := hide (heap_below (unhide HX04) B9)
        have HX1 := hide (heap_below (unhide HX14) B9)
        have HB9 := hide (onward (unhide HB4) B9)
        clear hyl hye hyd hN8 hD8 hs8 hg8 B8 hxN8 hxD8 hX8 b9 B9 l0 l1 HX04 HX14 HN04 HD04 HN14 HD14 HB7 HX7 HN7 HD7
        generalize hq7 : w6.heap.size = q7 at *
        generalize hq9 : w8.heap.size = q9 at *
        generalize hW9 : w8.alloc (lO y A' c' D' d') = W9 at *
        have HC1 := hide fun t : After W9 => lsame_any w.heap.size x0 x1 P0 Q0 P1 Q1 c0 e0 c1 e1 t.to ((unhide HI0).keep t.is) ((unhide HI1).keep t.is)
        have HC2 := hide fun t : After W9 => rlsame_any w.heap.size x0 x1 P0 Q0 P1 Q1 c0 e0 c1 e1 t.to ((unhide HI0).keep t.is) ((unhide HI1).keep t.is)
        have HC3 := hide fun t : After W9 => lsame_any w4.heap.size x y A D A' D' c d c' d' t.to ((unhide HIx).keep t.is) ((unhide HIy).keep t.is)
        have HC4 := hide fun t : After W9 => rlsame_any w4.heap.size x y A D A' D' c d c' d' t.to ((unhide HIx).keep t.is) ((unhide HIy).keep t.is)
        have HC5 := hide fun t : After W9 => lsame_any w.heap.size x0 x0 P0 Q0 P0 Q0 c0 e0 c0 e0 t.to ((unhide HI0).keep t.is) ((unhide HI0).keep t.is)
        have HC6 := hide fun t : After W9 => lsame_any w4.heap.size x x A D A D c d c d t.to ((unhide HIx).keep t.is) ((unhide HIx).keep t.is)
        have HC7 := hide fun t : After W9 => unhide HWk t.to (onward (unhide HB9) t.is)
        rw [sameL_self] at HC5 HC6
        generalize sameL x0 x1 = s1 at *
        generalize sameL x y = s2 at *
        have k0 := fun t : After W9 => After.cell (show W9.cell? ⟨w.heap.size, 0, none⟩ = some (.slice P0 x0.nodes.length c0) from by rw [Lib.cell_of_heap (unhide HX0)]; rfl) t
        have k1 := fun t : After W9 => After.cell (show W9.cell? ⟨w.heap.size, 1, none⟩ = some (.slice Q0 x0.devs.length e0) from by rw [Lib.cell_of_heap (unhide HX0)]; rfl) t
        have k2 := fun t : After W9 => After.cell (show W9.cell? ⟨w.heap.size + 1, 0, none⟩ = some (.slice P1 x1.nodes.length c1) from by rw [Lib.cell_of_heap (unhide HX1)]; rfl) t
        have k3 := fun t : After W9 => After.cell (show W9.cell? ⟨w.heap.size + 1, 1, none⟩ = some (.slice Q1 x1.devs.length e1) from by rw [Lib.cell_of_heap (unhide HX1)]; rfl) t
        have k4 := fun t : After W9 => After.cell (show W9.cell? ⟨q7, 0, none⟩ = some (.slice A x.nodes.length c) from by rw [Lib.cell_of_heap (unhide HX)]; rfl) t
        have k5 := fun t : After W9 => After.cell (show W9.cell? ⟨q7, 1, none⟩ = some (.slice D x.devs.length d) from by rw [Lib.cell_of_heap (unhide HX)]; rfl) t
        have k6 := fun t : After W9 => After.cell (show W9.cell? ⟨q9, 0, none⟩ = some (.slice A' y.nodes.length c') from by rw [Lib.cell_of_heap (unhide HY)]; rfl) t
        have k7 := fun t : After W9 => After.cell (show W9.cell? ⟨q9, 1, none⟩ = some (.slice D' y.devs.length d') from by rw [Lib.cell_of_heap (unhide HY)]; rfl) t
        go_wp2_with fail
        refine wp_region_after (by kernel_rfl) (by kernel_rfl) ?_
        cases s1 <;> cases s2
        all_goals
          repeat (go_big_quiet_step ((first
            | (go_at_call 30; (first | (with_reducible exact After.call (unhide HC1 _)) | (with_reducible exact After.call (unhide HC3 _)) | (with_reducible exact After.call (unhide HC5 _)) | (with_reducible exact After.call (unhide HC6 _))))
            | (go_at_call 29; (first | (with_reducible exact After.call (unhide HC2 _)) | (with_reducible exact After.call (unhide HC4 _))))
            | (go_at_call 10; exact After.call (unhide HC7 _)))))
          refine wpQuiet_nil ?_
          rintro _ ⟨t, rfl⟩
          clear k0 k1 k2 k3 k4 k5 k6 k7
          go_wp2
          go_ret
          exact ⟨rfl, onward (unhide HB9) t.is⟩

theorem lsame_law (x0 : Lay) (P0 : Option Addr) (c0 : Nat) (Q0 : Option Addr) (e0 : Nat) {w : World} (zn0 : x0.nodes.length ≤ maxLen) (_zd0 : x0.devs.length ≤ maxLen) (kn0 : ∀ b', w.heap.size ≤ b' → NdsIn b' w P0 x0.nodes) (kd0 : ∀ b', w.heap.size ≤ b' → DvsIn b' w Q0 x0.devs)
    (x1 : Lay) (P1 : Option Addr) (c1 : Nat) (Q1 : Option Addr) (e1 : Nat) (zn1 : x1.nodes.length ≤ maxLen) (_zd1 : x1.devs.length ≤ maxLen) (kn1 : ∀ b', w.heap.size ≤ b' → NdsIn b' w P1 x1.nodes) (kd1 : ∀ b', w.heap.size ≤ b' → DvsIn b' w Q1 x1.devs)
    (A2 : Option Addr) (n2 c2 : Nat) (hc2 : n2 ≤ c2) (hI2 : IntsIn w.heap.size w A2 n2) (n3 : Int) (_w3 : (Lit.int .i64 n3).wf = true) (nm : ByteArray) (_hnm : nm.size ≤ maxLen) (hT : LTab w) :
    Calls Tryz.prog 8 #[lV x0 P0 c0 Q0 e0, lV x1 P1 c1 Q1 e1, .slice A2 n2 c2, .int .i64 n3, .string nm] w fun e w' => e = .returned (.bool true) ∧ Below w.heap.size w w' :=
  lsamew_any x0 P0 c0 Q0 e0 x1 P1 c1 Q1 e1 A2 n2 c2 n3 nm w zn0 zn1 (kn0 _ (Nat.le_refl _)) (kd0 _ (Nat.le_refl _)) (kn1 _ (Nat.le_refl _)) (kd1 _ (Nat.le_refl _)) hT hc2 hI2
end Go.Proofs.YtmonjjffbmccjaaGreatDoor
