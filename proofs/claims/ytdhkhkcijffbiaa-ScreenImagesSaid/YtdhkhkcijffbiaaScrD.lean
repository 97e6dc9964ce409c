/-
  Screening (layer 15): ScreenBound: its mathematics and its walk.
-/
import Derived.Test.YtdhkhkcijffbiaaScrC
namespace Go.Proofs.Ytdhkhkcijffbiaa
open Go.RowKit

def offB (l0 l1 l2 lv : Int) : Int := if lv = 1 then 0 else if lv = 2 then l0 + 1 else if lv = 3 then l0 + l1 + 2 else l0 + l1 + l2 + 3
def limL (l0 l1 l2 l3 lv : Int) : Int := if lv = 1 then l0 else if lv = 2 then l1 else if lv = 3 then l2 else l3
def SB (l0 l1 l2 l3 bag t lv st : Int) : Scr := ⟨l0, l1, l2, l3, lv + 1, [⟨bag, lv, t + offB l0 l1 l2 lv, lv, st⟩]⟩
/-- The screening ahead of the expiration at t + k. -/
def JB (l0 l1 l2 l3 bag t k : Int) (s : Scr) : Prop :=
  ∃ lv st, (1 ≤ lv ∧ lv ≤ 4) ∧ s = SB l0 l1 l2 l3 bag t lv st ∧ ((st = 1 ∧ k ≤ offB l0 l1 l2 lv + limL l0 l1 l2 l3 lv + 1) ∨ (st = 3 ∧ lv = 4 ∧ k = 4 + l0 + l1 + l2 + l3 + 1))
/-- What the numbers are. -/
structure BdB (l0 l1 l2 l3 bag t : Int) : Prop where
  a : 0 ≤ l0 ∧ l0 < 12
  b : 0 ≤ l1 ∧ l1 < 12
  c : 0 ≤ l2 ∧ l2 < 12
  d : 0 ≤ l3 ∧ l3 < 12
  g : 1 ≤ bag ∧ bag ≤ 40
  t : 0 ≤ t ∧ t < 1000
section
variable {l0 l1 l2 l3 bag t : Int} (h : BdB l0 l1 l2 l3 bag t)
include h
theorem SB_valid {lv st : Int} (hl : 1 ≤ lv ∧ lv ≤ 4) (hs : 1 ≤ st ∧ st ≤ 3) : ValS (SB l0 l1 l2 l3 bag t lv st) := by
  obtain ⟨a, b, c, d, g, ht⟩ := h
  have ho : 0 ≤ offB l0 l1 l2 lv ∧ offB l0 l1 l2 lv ≤ 40 := by unfold offB; (repeat' split) <;> omega
  refine ⟨⟨⟨a.1, by show l0 ≤ 1000; omega⟩, ⟨b.1, by show l1 ≤ 1000; omega⟩, ⟨c.1, by show l2 ≤ 1000; omega⟩, ⟨d.1, by show l3 ≤ 1000; omega⟩⟩, ⟨by show 1 ≤ lv + 1; omega, by show lv + 1 ≤ 1048577; omega⟩, fun x hx => ?_, List.pairwise_singleton _ _, by show 1 ≤ 40; omega⟩
  obtain rfl := List.mem_singleton.1 hx
  show (1 ≤ bag ∧ bag ≤ 40) ∧ (1 ≤ lv ∧ lv ≤ 4) ∧ (0 ≤ t + offB l0 l1 l2 lv ∧ t + offB l0 l1 l2 lv ≤ 1048576) ∧ (1 ≤ lv ∧ lv < lv + 1) ∧ (1 ≤ st ∧ st ≤ 3)
  omega
theorem JB_new : newE l0 l1 l2 l3 = 0 ∧ newS l0 l1 l2 l3 = ⟨l0, l1, l2, l3, 1, []⟩ := by
  obtain ⟨a, b, c, d, g, ht⟩ := h
  have e : newE l0 l1 l2 l3 = 0 := by
    rw [new_lims]
    simp only [limB, decide_eq_true_eq]
    omega
  exact ⟨e, by unfold newS; rw [if_pos e]⟩
theorem JB_start : startE ⟨l0, l1, l2, l3, 1, []⟩ bag t = 0 ∧ startS ⟨l0, l1, l2, l3, 1, []⟩ bag t = SB l0 l1 l2 l3 bag t 1 1 ∧ JB l0 l1 l2 l3 bag t 0 (SB l0 l1 l2 l3 bag t 1 1) := by
  obtain ⟨a, b, c, d, g, ht⟩ := h
  have e : startE ⟨l0, l1, l2, l3, 1, []⟩ bag t = 0 := by
    unfold startE
    rw [if_pos (by omega)]
    rfl
  refine ⟨e, ?_, 1, 1, by omega, rfl, .inl ⟨rfl, by unfold offB limL; rw [if_pos rfl, if_pos rfl]; omega⟩⟩
  unfold startS
  rw [if_pos e]
  unfold SB offB
  rw [if_pos rfl, Int.add_zero]
  rfl
omit h in
theorem SB_find (lv st : Int) : findX (SB l0 l1 l2 l3 bag t lv st) bag = ⟨bag, lv, t + offB l0 l1 l2 lv, lv, st⟩ ∧ findB (SB l0 l1 l2 l3 bag t lv st) bag = true := by
  have e : findO (SB l0 l1 l2 l3 bag t lv st) bag = some ⟨bag, lv, t + offB l0 l1 l2 lv, lv, st⟩ := by
    unfold findO SB
    rw [List.find?_cons_of_pos (by simp)]
  unfold findX findB
  rw [e]
  exact ⟨rfl, rfl⟩
theorem JB_step {k : Int} {s : Scr} (hj : JB l0 l1 l2 l3 bag t k s) (h0 : 0 ≤ k) (hk : k ≤ 4 + l0 + l1 + l2 + l3) :
    expE s (t + k) = 0 ∧ JB l0 l1 l2 l3 bag t (k + 1) (expS s (t + k)) := by
  obtain ⟨lv, st, hl, rfl, hc⟩ := hj
  obtain ⟨rfl, hb⟩ : st = 1 ∧ k ≤ offB l0 l1 l2 lv + limL l0 l1 l2 l3 lv + 1 := by
    rcases hc with hc | ⟨_, _, hc⟩
    · exact hc
    · omega
  clear hc
  obtain ⟨a, b, c, d, g, ht⟩ := h
  have hdl : dlF (SB l0 l1 l2 l3 bag t lv 1) ⟨bag, lv, t + offB l0 l1 l2 lv, lv, 1⟩ = t + offB l0 l1 l2 lv + limL l0 l1 l2 l3 lv := rfl
  have hG : expG (SB l0 l1 l2 l3 bag t lv 1) (t + k) (SB l0 l1 l2 l3 bag t lv 1).l (SB l0 l1 l2 l3 bag t lv 1).next = ([(expC (SB l0 l1 l2 l3 bag t lv 1) (t + k) ⟨bag, lv, t + offB l0 l1 l2 lv, lv, 1⟩ (lv + 1)).1], (expC (SB l0 l1 l2 l3 bag t lv 1) (t + k) ⟨bag, lv, t + offB l0 l1 l2 lv, lv, 1⟩ (lv + 1)).2) := rfl
  have hn := expC_next (SB l0 l1 l2 l3 bag t lv 1) (t + k) ⟨bag, lv, t + offB l0 l1 l2 lv, lv, 1⟩ (lv + 1)
  have e : expE (SB l0 l1 l2 l3 bag t lv 1) (t + k) = 0 := by
    unfold expE
    rw [if_pos (by omega), hG, if_neg (by show ¬ 1048577 < (expC (SB l0 l1 l2 l3 bag t lv 1) (t + k) ⟨bag, lv, t + offB l0 l1 l2 lv, lv, 1⟩ (lv + 1)).2; omega)]
  refine ⟨e, ?_⟩
  unfold expS
  rw [if_pos e]
  unfold expT
  rw [hG]
  by_cases hf : k = offB l0 l1 l2 lv + limL l0 l1 l2 l3 lv + 1
  · have hC : expC (SB l0 l1 l2 l3 bag t lv 1) (t + k) ⟨bag, lv, t + offB l0 l1 l2 lv, lv, 1⟩ (lv + 1) = failF ⟨bag, lv, t + offB l0 l1 l2 lv, lv, 1⟩ (lv + 1) (t + k) := by
      unfold expC; rw [if_pos ⟨rfl, by rw [hdl]; omega⟩]
    rw [hC]
    by_cases h4 : lv = 4
    · subst h4
      refine ⟨4, 3, by omega, ?_, .inr ⟨rfl, rfl, ?_⟩⟩
      · unfold failF; rw [if_pos rfl]; rfl
      · have e1 : offB l0 l1 l2 4 = l0 + l1 + l2 + 3 := rfl
        have e2 : limL l0 l1 l2 l3 4 = l3 := rfl
        omega
    · have ho : offB l0 l1 l2 (lv + 1) = k ∧ k + 1 ≤ offB l0 l1 l2 (lv + 1) + limL l0 l1 l2 l3 (lv + 1) + 1 := by
        have hc : lv = 1 ∨ lv = 2 ∨ lv = 3 := by omega
        rcases hc with rfl | rfl | rfl
        · have e1 : offB l0 l1 l2 1 = 0 := rfl
          have e2 : limL l0 l1 l2 l3 1 = l0 := rfl
          have e3 : offB l0 l1 l2 (1 + 1) = l0 + 1 := rfl
          have e4 : limL l0 l1 l2 l3 (1 + 1) = l1 := rfl
          omega
        · have e1 : offB l0 l1 l2 2 = l0 + 1 := rfl
          have e2 : limL l0 l1 l2 l3 2 = l1 := rfl
          have e3 : offB l0 l1 l2 (2 + 1) = l0 + l1 + 2 := rfl
          have e4 : limL l0 l1 l2 l3 (2 + 1) = l2 := rfl
          omega
        · have e1 : offB l0 l1 l2 3 = l0 + l1 + 2 := rfl
          have e2 : limL l0 l1 l2 l3 3 = l2 := rfl
          have e3 : offB l0 l1 l2 (3 + 1) = l0 + l1 + l2 + 3 := rfl
          have e4 : limL l0 l1 l2 l3 (3 + 1) = l3 := rfl
          omega
      refine ⟨lv + 1, 1, by omega, ?_, .inl ⟨rfl, ho.2⟩⟩
      unfold failF
      rw [if_neg h4]
      unfold SB
      rw [ho.1]
  · have hC : expC (SB l0 l1 l2 l3 bag t lv 1) (t + k) ⟨bag, lv, t + offB l0 l1 l2 lv, lv, 1⟩ (lv + 1) = (⟨bag, lv, t + offB l0 l1 l2 lv, lv, 1⟩, lv + 1) := by
      unfold expC; rw [if_neg (by rw [hdl]; omega)]
    rw [hC]
    exact ⟨lv, 1, hl, rfl, .inl ⟨rfl, by omega⟩⟩
theorem JB_valid {k : Int} {s : Scr} (hj : JB l0 l1 l2 l3 bag t k s) : ValS s := by
  obtain ⟨lv, st, hl, rfl, hc⟩ := hj
  exact SB_valid h hl (by omega)
omit h in
theorem JB_pending {k : Int} {s : Scr} (hj : JB l0 l1 l2 l3 bag t k s) (hk : k ≤ 4 + l0 + l1 + l2 + l3) : findB s bag = true ∧ (findX s bag).st = 1 := by
  obtain ⟨lv, st, hl, rfl, hc⟩ := hj
  obtain ⟨e1, e2⟩ := SB_find (l0 := l0) (l1 := l1) (l2 := l2) (l3 := l3) (bag := bag) (t := t) lv st
  rw [e1, e2]
  refine ⟨rfl, ?_⟩
  show st = 1
  omega
omit h in
theorem JB_imd {k : Int} {s : Scr} (hj : JB l0 l1 l2 l3 bag t k s) : ImD s := by
  obtain ⟨lv, st, hl, rfl, hc⟩ := hj
  intro x hx y hy _ _ _
  rw [List.mem_singleton.1 hx, List.mem_singleton.1 hy]
theorem JB_end {s : Scr} (hj : JB l0 l1 l2 l3 bag t (4 + l0 + l1 + l2 + l3 + 1) s) : findB s bag = true ∧ (findX s bag).st = 3 ∧ (findX s bag).lv = 4 ∧ alL s = [] := by
  obtain ⟨lv, st, hl, rfl, hc⟩ := hj
  obtain ⟨a, b, c, d, g, ht⟩ := h
  obtain ⟨rfl, rfl⟩ : st = 3 ∧ lv = 4 := by
    rcases hc with ⟨_, hc⟩ | ⟨h1, h2, _⟩
    · exfalso
      have hcc : lv = 1 ∨ lv = 2 ∨ lv = 3 ∨ lv = 4 := by omega
      rcases hcc with rfl | rfl | rfl | rfl
      · have e1 : offB l0 l1 l2 1 = 0 := rfl
        have e2 : limL l0 l1 l2 l3 1 = l0 := rfl
        omega
      · have e1 : offB l0 l1 l2 2 = l0 + 1 := rfl
        have e2 : limL l0 l1 l2 l3 2 = l1 := rfl
        omega
      · have e1 : offB l0 l1 l2 3 = l0 + l1 + 2 := rfl
        have e2 : limL l0 l1 l2 l3 3 = l2 := rfl
        omega
      · have e1 : offB l0 l1 l2 4 = l0 + l1 + l2 + 3 := rfl
        have e2 : limL l0 l1 l2 l3 4 = l3 := rfl
        omega
    · exact ⟨h1, h2⟩
  obtain ⟨e1, e2⟩ := SB_find (l0 := l0) (l1 := l1) (l2 := l2) (l3 := l3) (bag := bag) (t := t) 4 3
  rw [e1, e2]
  exact ⟨rfl, rfl, rfl, rfl⟩
end

theorem mod_all (x n : Int) (h0 : 0 < n) (h1 : n ≤ 1000) : ∃ r, (0 ≤ r ∧ r < n) ∧ ∀ W, Calls Try.prog 31 #[.int .i64 x, .int .i64 n] W fun e w' => e = .returned (.int .i64 r) ∧ W = w' :=
  ⟨modN x n, modN_range x n h0, fun W => mod_any x n W h0 (by omega)⟩
set_option maxRecDepth 100000 in
set_option maxHeartbeats 8000000 in
theorem bound_any (P : ScrOk) (x0 x1 x2 x3 x4 x5 : Int) (w : World) :
    Calls Try.prog 5 #[.int .i64 x0, .int .i64 x1, .int .i64 x2, .int .i64 x3, .int .i64 x4, .int .i64 x5] w fun e w' => e = .returned (.bool true) ∧ Below w.heap.size w w' := by
  obtain ⟨l0, ⟨a0, a1⟩, m0⟩ := mod_all x0 12 (by decide) (by decide)
  obtain ⟨l1, ⟨b0, b1⟩, m1⟩ := mod_all x1 12 (by decide) (by decide)
  obtain ⟨l2, ⟨c0, c1⟩, m2⟩ := mod_all x2 12 (by decide) (by decide)
  obtain ⟨l3, ⟨d0, d1⟩, m3⟩ := mod_all x3 12 (by decide) (by decide)
  obtain ⟨g, ⟨g0, g1⟩, m4⟩ := mod_all x4 40 (by decide) (by decide)
  obtain ⟨t, ⟨t0, t1⟩, m5⟩ := mod_all x5 1000 (by decide) (by decide)
  have HBd := hide (show BdB l0 l1 l2 l3 (1 + g) t from ⟨⟨a0, a1⟩, ⟨b0, b1⟩, ⟨c0, c1⟩, ⟨d0, d1⟩, ⟨by omega, by omega⟩, ⟨t0, t1⟩⟩)
  have M0 := hide m0
  have M1 := hide m1
  have M2 := hide m2
  have M3 := hide m3
  have M4 := hide m4
  have M5 := hide m5
  have HP := hide P
  have HB1 := hide ((Below.refl w.heap.size w).alloc (Nat.le_refl _) (.cells #[.int .i64 l0, .int .i64 l1, .int .i64 l2, .int .i64 l3] 22))
  have HL1 := hide (heap_alloc_new w (.cells #[.int .i64 l0, .int .i64 l1, .int .i64 l2, .int .i64 l3] 22))
  clear m0 m1 m2 m3 m4 m5 P
  go_enter Try.func5, Try.ntmps5
  go_wp2_with (first
    | (go_at_call 31; with_reducible refine (unhide M0 _).mono ?_; rintro e w' ⟨rfl, rfl⟩)
    | (go_at_call 31; with_reducible refine (unhide M1 _).mono ?_; rintro e w' ⟨rfl, rfl⟩)
    | (go_at_call 31; with_reducible refine (unhide M2 _).mono ?_; rintro e w' ⟨rfl, rfl⟩)
    | (go_at_call 31; with_reducible refine (unhide M3 _).mono ?_; rintro e w' ⟨rfl, rfl⟩)
    | (go_at_call 31; with_reducible refine (unhide M4 _).mono ?_; rintro e w' ⟨rfl, rfl⟩)
    | (go_at_call 31; with_reducible refine (unhide M5 _).mono ?_; rintro e w' ⟨rfl, rfl⟩))
  refine ((unhide HP).new l0 l1 l2 l3 _).mono ?_
  rw [(JB_new (unhide HBd)).1, (JB_new (unhide HBd)).2]
  rintro e w1 ⟨A1, k1, rfl, hb1⟩
  obtain ⟨s1, hs1⟩ : ∃ s1 : Scr, (⟨l0, l1, l2, l3, 1, []⟩ : Scr) = s1 := ⟨_, rfl⟩
  have HS1 := hide hs1
  have hv1 : ValS s1 := by rw [← hs1, ← (JB_new (unhide HBd)).2]; exact newS_valid (JB_new (unhide HBd)).1
  have hl1 : s1.l = [] := by rw [← hs1]
  have HST := hide (JB_start (unhide HBd))
  rw [hs1] at HST ⊢
  have hb2 := below_new (onward (unhide HB1) hb1) (scrO s1 A1 k1)
  have HB2 := hide hb2
  have HX2 := hide (heap_alloc_new w1 (scrO s1 A1 k1))
  have HL2 := hide (heap_later (heap_below (unhide HL1) hb1) (scrO s1 A1 k1))
  have HZ := hide (onward (unhide HB1) hb1).size
  have HZ1 := hide (show w.heap.size + 1 ≤ w1.heap.size by have := hb1.size; rwa [World.size_alloc] at this)
  have HSt := hide ((unhide HP).start w1.heap.size s1 (1 + g) t A1 k1 (w1.alloc (scrO s1 A1 k1)) hv1 (by rw [hl1]; exact RowIn.nil) (by rw [hl1]; exact Nat.zero_le _))
  clear hs1 hb1 hb2 hv1 hl1
  go_wp2_with (refine wpList_loadS (unhide HX2) rfl _ rfl rfl ?_)
  refine (unhide HSt).mono ?_
  have HST := hide (unhide HST)
  rw [(unhide HST).1, (unhide HST).2.1]
  rintro e w3 ⟨A3, c3, rfl, hC3', hb3, hc3⟩
  have hC3 := hC3' w1.heap.size (by rw [World.size_alloc]; omega)
  clear hC3'
  obtain ⟨s3, hs3⟩ : ∃ s3 : Scr, SB l0 l1 l2 l3 (1 + g) t 1 1 = s3 := ⟨_, rfl⟩
  have hj := (unhide HST).2.2
  rw [hs3] at hC3 hc3 hj ⊢
  have HX3 := hide (heap_below (unhide HX2) hb3)
  have HX4 := hide (setRow_heap w3 w1.heap.size _ (scrA s3 A3 c3) _ _ (unhide HX3))
  have HC4 := hide (RowIn.box hC3 (scrA s3 A3 c3))
  have HB4 := hide (show Below w.heap.size w (w3.setRow w1.heap.size (scrA s3 A3 c3)) from below_row (onward (unhide HB2) hb3) (unhide HZ) _)
  have HK := hide hc3
  have HJ := hide hj
  have hl4 : (w3.setRow w1.heap.size (scrA s3 A3 c3)).heap[w.heap.size]? = some (.cells #[.int .i64 l0, .int .i64 l1, .int .i64 l2, .int .i64 l3] 22) := by
    rw [setRow_other _ _ _ _ (by have := unhide HZ1; omega)]
    exact heap_below (unhide HL2) hb3
  have q0 := Lib.cell_of_heap hl4 0
  have q1 := Lib.cell_of_heap hl4 1
  have q2 := Lib.cell_of_heap hl4 2
  have q3 := Lib.cell_of_heap hl4 3
  clear hC3 hb3 hc3 hj hs3 hl4
  go_wp2_with (refine wpList_storeS (unhide HX3) rfl _ _ rfl rfl rfl ?_)
  clear q0 q1 q2 q3
  obtain ⟨E, hE⟩ : ∃ E : Nat, 4 + l0 + l1 + l2 + l3 = (E : Int) := ⟨(4 + l0 + l1 + l2 + l3).toNat, by omega⟩
  rw [hE]
  have HEE := hide hE
  have hE2 : E ≤ 48 := by omega
  clear hE
  go_loopw [18] (fun i wr => ∃ (k : Nat) (A : Option Addr) (c : Nat) (s : Scr), k ≤ E + 1 ∧ i = .int .i64 k ∧ Hid (wr.heap[w1.heap.size]? = some (scrO s A c)) ∧ Hid (CksIn w1.heap.size wr A s.l) ∧ Hid (s.l.length ≤ c) ∧ Hid (Below w.heap.size w wr) ∧ Hid (JB l0 l1 l2 l3 (1 + g) t k s)) (fun i _ => E + 1 - (intOf i).toNat)
  case atStart => exact ⟨0, A3, c3, s3, Nat.zero_le _, rfl, HX4, HC4, HK, HB4, HJ⟩
  case round =>
    obtain ⟨k, A, c, s, hk, rfl, HX, HC, HCap, HB, HJk⟩ := hrel
    obtain ⟨wo, rfl⟩ : ∃ wo : World, wo = wr := ⟨_, rfl⟩
    clear HX4 HC4 HK HB4 HJ HX3 HSt HST HS1 HX2 HB2
    have HVs := hide (JB_valid (unhide HBd) (unhide HJk))
    by_cases hle : k ≤ E
    · have kl : (k : Int) ≤ (E : Int) := by omega
      have k0 : (0 : Int) ≤ (k : Int) := by omega
      have k48 : (k : Int) ≤ 48 := by omega
      have HPe := hide (JB_pending (unhide HJk) (by have := unhide HEE; omega))
      have HStp := hide (JB_step (unhide HBd) (unhide HJk) k0 (by have := unhide HEE; omega))
      have HFi := hide ((unhide HP).find w1.heap.size s (1 + g) A c wo (unhide HVs) (unhide HC) (unhide HCap))
      obtain ⟨y, hy⟩ : ∃ y, findX s (1 + g) = y := ⟨_, rfl⟩
      rw [hy, (unhide HPe).1] at HFi
      have hst : (y.st != 1) = false := by rw [bne_eq_false_iff_eq, ← hy]; exact (unhide HPe).2
      have HFi := hide (unhide HFi)
      clear hy
      go_wp2_with (refine wpList_loadS (unhide HX) rfl _ rfl rfl ?_)
      refine (unhide HFi).mono ?_
      rintro e w5 ⟨rfl, hb5⟩
      have b6 := (Below.refl w5.heap.size w5).alloc (Nat.le_refl _) (.cells y.arr 42)
      have hb6 := onward hb5 b6
      have HX6 := hide (heap_below (unhide HX) hb6)
      have HC6 := hide ((unhide HC).keep hb6)
      have HB6 := hide (onward (unhide HB) hb6)
      clear hb5 b6 hb6
      go_wp2_with (refine wpList_loadS (unhide HX6) rfl _ rfl rfl ?_)
      refine ((unhide HP).expire w1.heap.size s (t + k) A c _ (unhide HVs) (unhide HC6) (unhide HCap)).mono ?_
      rw [(unhide HStp).1]
      rintro e w7 ⟨A7, c7, rfl, hC7', hb7, hc7⟩
      have hC7 := hC7' w1.heap.size (Array.getElem?_eq_some_iff.1 (unhide HX6)).1
      clear hC7'
      obtain ⟨s7, hs7⟩ : ∃ s7, expS s (t + k) = s7 := ⟨_, rfl⟩
      have hj7 := (unhide HStp).2
      rw [hs7] at hC7 hc7 hj7 ⊢
      have b8 := (Below.refl w7.heap.size w7).alloc (Nat.le_refl _) (scrO s7 A7 c7)
      have hb8 := onward hb7 b8
      have HX8 := hide (heap_below (unhide HX6) hb8)
      have HY8 := hide (heap_alloc_new w7 (scrO s7 A7 c7))
      have HX9 := hide (setRow_heap (w7.alloc (scrO s7 A7 c7)) w1.heap.size _ (scrA s7 A7 c7) _ _ (unhide HX8))
      have HC9 := hide (RowIn.box (hC7.keep b8) (scrA s7 A7 c7))
      have HK9 := hide hc7
      have HB9 := hide (below_row (onward (unhide HB6) hb8) (unhide HZ) (scrA s7 A7 c7))
      have HJ9 := hide (show JB l0 l1 l2 l3 (1 + g) t ((k + 1 : Nat) : Int) s7 from hj7)
      clear hC7 hb7 hc7 hj7 hs7 b8 hb8
      go_wp2_with (first
        | (refine wpList_loadS (unhide HY8) rfl _ rfl rfl ?_)
        | (refine wpList_storeS (unhide HX8) rfl _ _ rfl rfl rfl ?_))
      go_roundw
      case rel => exact ⟨k + 1, A7, c7, s7, by omega, by go_num, HX9, HC9, HK9, HB9, HJ9⟩
      case measure => simp [intOf]; omega
    · have kl : ¬ (k : Int) ≤ (E : Int) := by omega
      obtain rfl : k = E + 1 := by omega
      have HID := hide (JB_imd (unhide HJk))
      have HEn := hide (JB_end (unhide HBd) (s := s) (by have := unhide HJk; rw [unhide HEE]; exact this))
      have HFi := hide ((unhide HP).find w1.heap.size s (1 + g) A c wo (unhide HVs) (unhide HC) (unhide HCap))
      obtain ⟨y, hy⟩ : ∃ y, findX s (1 + g) = y := ⟨_, rfl⟩
      rw [hy, (unhide HEn).1] at HFi
      have hst : (y.st == 3) = true := by rw [beq_iff_eq, ← hy]; exact (unhide HEn).2.1
      have hlv : (y.lv == 4) = true := by rw [beq_iff_eq, ← hy]; exact (unhide HEn).2.2.1
      have HFi := hide (unhide HFi)
      clear hy
      go_wp2_with (refine wpList_loadS (unhide HX) rfl _ rfl rfl ?_)
      refine (unhide HFi).mono ?_
      rintro e w5 ⟨rfl, hb5⟩
      have b6 := (Below.refl w5.heap.size w5).alloc (Nat.le_refl _) (.cells y.arr 42)
      have hb6 := onward hb5 b6
      have HX6 := hide (heap_below (unhide HX) hb6)
      have HC6 := hide ((unhide HC).keep hb6)
      have HB6 := hide (onward (unhide HB) hb6)
      have HAl := hide ((unhide HP).alarms w1.heap.size s A c (w5.alloc (.cells y.arr 42)) (unhide HVs) (unhide HID) (unhide HC6) (unhide HCap))
      rw [(unhide HEn).2.2.2] at HAl
      have HAl := hide (unhide HAl)
      clear hb5 b6 hb6
      go_wp2_with (first
        | ((with_reducible show wpList _ _ _ _ _ (w5.alloc _)); refine wpList_loadS_w (unhide HX6) _ rfl rfl rfl ?_)
        | (go_at_call 27; refine (unhide HAl).mono ?_; rintro e w7 ⟨A7, c7, rfl, -, hb7⟩; have HB7 := hide (onward (unhide HB6) hb7); clear hb7)
        | (go_at_call 29; refine (awake_scr (unhide HP) _).mono ?_; rintro e w8 ⟨rfl, hb8⟩; have HB8 := hide (onward (unhide HB7) hb8); clear hb8))
      go_ret
      exact ⟨rfl, unhide HB8⟩
end Go.Proofs.Ytdhkhkcijffbiaa
