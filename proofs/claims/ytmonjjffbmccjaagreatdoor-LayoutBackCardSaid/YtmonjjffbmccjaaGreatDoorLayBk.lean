/-
  LayoutBack: the walk.
-/
import Derived.Test.YtmonjjffbmccjaaGreatDoorLayZo
import Derived.Test.YtmonjjffbmccjaaGreatDoorLaySr
import Derived.Test.YtmonjjffbmccjaaGreatDoorLayBm
namespace Go.Proofs.YtmonjjffbmccjaaGreatDoor
open Go.RowKit

theorem par_size {s : ByteArray} (h : (parX s).2.2 = 0) : s.size ≤ 4096 := by
  unfold parX at h
  split at h
  · assumption
  · exact absurd (show (2 : Int) = 0 from h) (by decide)
/-- A layout in a box. -/
structure LB (b q : Nat) (x : Lay) (A : Option Addr) (c : Nat) (D : Option Addr) (d : Nat) (W : World) : Prop where
  box : W.heap[q]? = some (lO x A c D d)
  lay : LayIn b W x A D
theorem LB.keep {b q : Nat} {x : Lay} {A : Option Addr} {c : Nat} {D : Option Addr} {d : Nat} {W W1 : World} (h : LB b q x A c D d W) (hb : Below W.heap.size W W1) : LB b q x A c D d W1 := ⟨heap_below h.box hb, h.lay.keep hb⟩
theorem LB.new {b : Nat} {x : Lay} {A : Option Addr} {c : Nat} {D : Option Addr} {d : Nat} {W : World} (h : LayIn b W x A D) : LB b W.heap.size x A c D d (W.alloc (lO x A c D d)) :=
  ⟨heap_alloc_new W _, h.keep ((Below.refl _ _).alloc (Nat.le_refl _) _)⟩
theorem LB.cells {b q : Nat} {x : Lay} {A : Option Addr} {c : Nat} {D : Option Addr} {d : Nat} {W : World} (h : LB b q x A c D d W) : W.cell? ⟨q, 0, none⟩ = some (.slice A x.nodes.length c) ∧ W.cell? ⟨q, 1, none⟩ = some (.slice D x.devs.length d) :=
  ⟨by rw [Lib.cell_of_heap h.box]; rfl, by rw [Lib.cell_of_heap h.box]; rfl⟩

set_option maxHeartbeats 8000000 in
set_option maxRecDepth 100000 in
theorem lback_any (A1 : Option Addr) (n1 c1 : Nat) (t : ByteArray) (w : World) (hT : LTab w) (hc1 : n1 ≤ c1) (hI1 : IntsIn w.heap.size w A1 n1) :
    Calls Tryz.prog 5 #[.slice A1 n1 c1, .string t] w fun e w' => e = .returned (.bool true) ∧ Below w.heap.size w w' := by
  have HT := hide hT
  clear hT
  go_enter Tryz.func5, Tryz.ntmps5
  go_wp2_with fail
  refine (new_any A1 n1 c1 w hc1 hI1).mono ?_
  rintro e w1 ⟨rfl, hs1, hb1⟩
  go_wp2_with fail
  refine (klayout_any _ _ _ hs1).mono ?_
  rintro e w2 ⟨z, x, A, c, D, d, rfl, hG, hN, hD, hs2, hg2⟩
  have B2 := below_reads hb1 hg2 (Nat.le_refl _) hb1.size
  have b3 := (Below.refl w2.heap.size w2).alloc (Nat.le_refl _) (lO x A c D d)
  have HB3 := hide (onward B2 b3)
  have hw2 : w.heap.size < w2.heap.size := hs2.lt
  have HX3 := hide (LB.new (c := c) (d := d) (hG.lay hN hD))
  have HZr := hide hG.zero
  generalize hq : w2.heap.size = q at *
  have hw3 : w.heap.size < (w2.alloc (lO x A c D d)).heap.size := by rw [World.size_alloc]; omega
  have HF := hide (lformat_any w.heap.size x A D c d _ ((unhide HT).keep (unhide HB3)) hw3 (unhide HX3).lay)
  rw [hG.zero] at HF
  obtain ⟨l0, l1⟩ := (unhide HX3).cells
  clear hb1 hs1 hg2 hN hD hs2 B2 b3 hG
  go_wp2_with fail
  refine (unhide HF).mono ?_
  rintro e w4 ⟨rfl, hb4⟩
  have HB4 := hide (onward (unhide HB3) hb4)
  have HX4 := hide ((unhide HX3).keep hb4)
  have hw4 : w.heap.size < w4.heap.size := Nat.lt_of_lt_of_le hw3 hb4.size
  have HP := hide (lparse_any w.heap.size (fmtS x) w4 ((unhide HT).keep (unhide HB4)) hw4)
  rw [par_fmt (unhide HZr)] at HP
  clear hb4 l0 l1 HX3 HF
  generalize fmtS x = ft at *
  go_wp2_with fail
  refine (unhide HP).mono ?_
  rintro e w5 ⟨U, uc, V, vd, rfl, hU, hb5⟩
  have hs5 := hb5.size
  have hU : LayIn w.heap.size w5 x U V := hU
  have b6 := (Below.refl w5.heap.size w5).alloc (Nat.le_refl _) (lO x U uc V vd)
  have HB6 := hide (onward (onward (unhide HB4) hb5) b6)
  have HX6 := hide (((unhide HX4).keep hb5).keep b6)
  have HY6 := hide (LB.new (c := uc) (d := vd) hU)
  generalize hr : w5.heap.size = r at *
  have HS := hide (rlsame_any w.heap.size x x A D U V c d uc vd _ (unhide HX6).lay (unhide HY6).lay)
  rw [sameL_self] at HS
  obtain ⟨l0, l1⟩ := (unhide HX6).cells
  obtain ⟨m0, m1⟩ := (unhide HY6).cells
  clear hb5 hU b6 HX4 HP
  go_wp2_with fail
  refine (unhide HS).mono ?_
  rintro e w7 ⟨rfl, hb7⟩
  have HB7 := hide (onward (unhide HB6) hb7)
  have HX7 := hide ((unhide HX6).keep hb7)
  have HY7 := hide ((unhide HY6).keep hb7)
  clear hb7 l0 l1 m0 m1 HX6 HY6 HS
  have HS := hide (lsame_any w.heap.size x x A D U V c d uc vd w7 (unhide HX7).lay (unhide HY7).lay)
  rw [sameL_self] at HS
  obtain ⟨l0, l1⟩ := (unhide HX7).cells
  obtain ⟨m0, m1⟩ := (unhide HY7).cells
  go_wp2_with fail
  refine (unhide HS).mono ?_
  rintro e w8 ⟨rfl, hb8⟩
  have HB8 := hide (onward (unhide HB7) hb8)
  have hw8 : w.heap.size < w8.heap.size := by
    have h3 := hb8.size
    have h5 := (Array.getElem?_eq_some_iff.1 (unhide HY7).box).1
    omega
  clear hb8 l0 l1 m0 m1 HX7 HY7 HS
  have HP := hide (lparse_any w.heap.size t w8 ((unhide HT).keep (unhide HB8)) hw8)
  have HI := hide (show (parX t).2.2 = 0 → layE (parX t).1 = 0 ∧ fmtS (parX t).1 = t ∧ t.size ≤ 4096 from fun h => ⟨(fmt_par h).1, (fmt_par h).2, par_size h⟩)
  generalize parX t = R at *
  obtain ⟨y, nn, ee⟩ := R
  go_wp2_with fail
  refine (unhide HP).mono ?_
  rintro e w9 ⟨U9, uc9, V9, vd9, rfl, hU9, hb9⟩
  have hU9 : LayIn w.heap.size w9 y U9 V9 := hU9
  have b9 := (Below.refl w9.heap.size w9).alloc (Nat.le_refl _) (lO y U9 uc9 V9 vd9)
  have HB9 := hide (onward (onward (unhide HB8) hb9) b9)
  have HY9 := hide (LB.new (c := uc9) (d := vd9) hU9)
  have hw9 : w.heap.size < (w9.alloc (lO y U9 uc9 V9 vd9)).heap.size := Nat.lt_of_lt_of_le hw8 (Nat.le_trans hb9.size b9.size)
  generalize hr9 : w9.heap.size = r9 at *
  clear hb9 hU9 b9 HP
  by_cases he : ee = 0
  · obtain ⟨i1, i2, i3⟩ := unhide HI he
    have h0 : (ee != 0) = false := by rw [bne_eq_false_iff_eq]; exact he
    have hsz : ¬ (5000 : Int) < (t.size : Int) := by have : t.size ≤ 4096 := i3
                                                     omega
    have HF := hide (lformat_any w.heap.size y U9 V9 uc9 vd9 _ ((unhide HT).keep (unhide HB9)) hw9 (unhide HY9).lay)
    have i1 : layE y = 0 := i1
    have i2 : fmtS y = t := i2
    rw [i1, i2] at HF
    have HI1 := hide i1
    obtain ⟨l0, l1⟩ := (unhide HY9).cells
    clear he i1 i2 i3
    go_wp2_with fail
    refine (unhide HF).mono ?_
    rintro e w10 ⟨rfl, hb10⟩
    have HB10 := hide (onward (unhide HB9) hb10)
    have HY10 := hide ((unhide HY9).keep hb10)
    have HV := hide (lval_any w.heap.size y U9 V9 uc9 vd9 w10 (unhide HY10).lay)
    rw [unhide HI1] at HV
    clear hb10 l0 l1 HF HY9
    obtain ⟨l0, l1⟩ := (unhide HY10).cells
    go_wp2_with fail
    refine (unhide HV).mono ?_
    rintro e w11 ⟨rfl, hb11⟩
    have HB11 := hide (onward (unhide HB10) hb11)
    have HA := hide (lawake_any w11 ((unhide HT).keep (unhide HB11)))
    clear hb11 l0 l1 HV HY10
    go_wp2_with fail
    refine (unhide HA).mono ?_
    rintro e w12 ⟨rfl, hb12⟩
    go_wp2
    go_ret
    exact ⟨rfl, onward (unhide HB11) hb12⟩
  · have h0 : (ee != 0) = true := by rw [bne_iff_ne]; exact he
    have HA := hide (lawake_any _ ((unhide HT).keep (unhide HB9)))
    clear he
    by_cases hsz : (5000 : Int) < (t.size : Int)
    all_goals
      go_wp2_with fail
      refine (unhide HA).mono ?_
      rintro e w12 ⟨rfl, hb12⟩
      go_wp2
      go_ret
      exact ⟨rfl, onward (unhide HB9) hb12⟩
theorem lback_law (A1 : Option Addr) (n1 c1 : Nat) (hc1 : n1 ≤ c1) {w : World} (hI1 : IntsIn w.heap.size w A1 n1) (t : ByteArray) (_ht : t.size ≤ maxLen) (hT : LTab w) :
    Calls Tryz.prog 5 #[.slice A1 n1 c1, .string t] w fun e w' => e = .returned (.bool true) ∧ Below w.heap.size w w' := lback_any A1 n1 c1 t w hT hc1 hI1
end Go.Proofs.YtmonjjffbmccjaaGreatDoor
