/-
  PlateDistinct: the walk.
-/
import Derived.Test.YtaimmohfcjoclaaRuns
namespace Go.Proofs.Ytaimmohfcjoclaa
open Go.RowKit

set_option maxHeartbeats 1000000 in
theorem distinct_any (x y z n : Int) (w : World) :
    Calls Try.prog 7 #[.int .i64 x, .int .i64 y, .int .i64 z, .int .i64 n] w fun e w' => e = .returned (.bool true) ∧ Below w.heap.size w w' := by
  obtain ⟨m1, m2⟩ := modN_range x 10 (by omega)
  obtain ⟨m3, m4⟩ := modN_range y 999 (by omega)
  obtain ⟨m5, m6⟩ := modN_range z 1000000 (by omega)
  obtain ⟨m7, m8⟩ := modN_range n 99 (by omega)
  have hv : vld (modN x 10) (1 + modN y 999) (modN z 1000000) = true := vld_iff.2 (by omega)
  obtain ⟨N, hN, h1, h2⟩ : ∃ N : Nat, 1 + modN n 99 = (N : Int) ∧ 1 ≤ N ∧ N ≤ 99 := ⟨(1 + modN n 99).toNat, by omega, by omega, by omega⟩
  have HN := Lib.hid hN
  clear hN
  go_enter Try.func7, Try.ntmps7
  go_wp2_with (first
    | (go_at_call 27; refine (mod_any _ _ _ (by omega) (by omega)).mono ?_; rintro e w1 ⟨rfl, rfl⟩)
    | (go_at_call 28; rw [HN.out]; refine (run_ok _ _ _ N _ hv h1 h2).mono ?_; rintro e w1 ⟨b, q, rfl, hb1, _, hq, hc⟩; have HB1 := Lib.hid hb1; have HC := hide hc; clear hb1 hc))
  have T := (Three.new w (modN x 10) (1 + modN y 999) (modN z 1000000) 23).keep HB1.out
  have hb1 := boxed HB1.out
  have hc := unhide HC
  clear HB1 HC
  have s0 : modN z 1000000 % 1000000 = modN z 1000000 := by omega
  generalize modN x 10 = l at *
  generalize 1 + modN y 999 = a at *
  generalize modN z 1000000 = s at *
  clear m1 m2 m3 m4 m7 m8 HN
  have HB1 := Lib.hid hb1
  clear hb1
  have e0 : ∀ t : After w1, t.to.cell? ⟨b, 0, none⟩ = some (.int .i64 l) := After.cell (by have := hc 0 (by omega); rw [this]; rfl)
  have e1 : ∀ t : After w1, t.to.cell? ⟨b, 1, none⟩ = some (.int .i64 a) := After.cell (by have := hc 1 (by omega); rw [this]; rfl)
  have e2 : ∀ t : After w1, t.to.cell? ⟨b, 2, none⟩ = some (.int .i64 s) := After.cell (by have := hc 2 (by omega); rw [this]; unfold runC; simp [s0])
  have HC := hide hc
  clear hc s0
  have f0 := After.cell T.1
  have f1 := After.cell T.2.1
  have f2 := After.cell T.2.2
  have hN0 : (0 : Int) < (N : Int) := by omega
  go_wp2_with fail
  refine wp_region_after (by kernel_rfl) (by kernel_rfl) ?_
  repeat (go_big_quiet_step (fail))
  refine wpQuiet_nil ?_
  rintro _ ⟨t, rfl⟩
  clear e0 e1 e2 f0 f1 f2
  go_wp2_with fail
  have HB2 := Lib.hid (onward HB1.out t.is)
  have T2 := T.keep t.is
  have HC2 := hide fun j hj => kept t.is (unhide HC j hj)
  have HT := hide T2
  clear T T2 HC HB1 hN0
  generalize t.to = W at *
  go_loopw [12] (fun i wr => ∃ k : Nat, k ≤ N ∧ i = .int .i64 k ∧ Below W.heap.size W wr) (fun i _ => N - (intOf i).toNat)
  case atStart => exact ⟨0, Nat.zero_le _, rfl, Below.refl _ _⟩
  case round =>
    obtain ⟨k, hk, rfl, hb⟩ := hrel
    obtain ⟨wo, rfl⟩ : ∃ wo : World, wo = wr := ⟨_, rfl⟩
    have HBO := Lib.hid hb
    clear hb
    by_cases hlt : k < N
    · have kl : (k : Int) < (N : Int) := by omega
      have kz : (0 : Int) ≤ (k : Int) := by omega
      have hvk : vld l a ((s + (k : Int)) % 1000000) = true := by
        obtain ⟨v1, v2, v3, v4, v5, v6⟩ := vld_iff.1 hv
        exact vld_iff.2 (by omega)
      have q0 := kept HBO.out (unhide HC2 (k * 3) (by omega))
      have q1 := kept HBO.out (unhide HC2 (k * 3 + 1) (by omega))
      have q2 := kept HBO.out (unhide HC2 (k * 3 + 2) (by omega))
      rw [runC0] at q0
      rw [runC1] at q1
      rw [runC2] at q2
      have u0 := After.cell q0
      have u1 := After.cell q1
      have u2 := After.cell q2
      have f0 := After.cell ((unhide HT).keep HBO.out).1
      have f1 := After.cell ((unhide HT).keep HBO.out).2.1
      have f2 := After.cell ((unhide HT).keep HBO.out).2.2
      clear q0 q1 q2
      go_wp2_with fail
      refine wp_region_after (by kernel_rfl) (by kernel_rfl) ?_
      repeat (go_big_quiet_step ((first | (go_at_call 19; exact After.call (valid_any _ _ _ _)))))
      refine wpQuiet_nil ?_
      rintro _ ⟨t', rfl⟩
      clear u0 u1 u2 f0 f1 f2 hvk
      go_wp2_with fail
      have HBT := Lib.hid (onward HBO.out t'.is)
      have HC3 := hide fun j hj => kept t'.is (kept HBO.out (unhide HC2 j hj))
      have HT3 := hide (((unhide HT).keep HBO.out).keep t'.is)
      clear HBO HT
      generalize t'.to = V at *
      go_loopw [13] (fun i wi => ∃ j : Nat, j ≤ k ∧ i = .int .i64 j ∧ Below V.heap.size V wi) (fun i _ => k - (intOf i).toNat)
      case atStart => exact ⟨0, Nat.zero_le _, rfl, Below.refl _ _⟩
      case round =>
        obtain ⟨j, hj, rfl, hbi⟩ := hrel
        obtain ⟨wi, rfl⟩ : ∃ wi : World, wi = wr := ⟨_, rfl⟩
        have HBI := Lib.hid hbi
        clear hbi
        by_cases hjl : j < k
        · have jl : (j : Int) < (k : Int) := by omega
          have jn : (j : Int) < (N : Int) := by omega
          have jz : (0 : Int) ≤ (j : Int) := by omega
          have hne : ((s + (k : Int)) % 1000000 == (s + (j : Int)) % 1000000) = false := by rw [beq_eq_false_iff_ne]; omega
          have q0 := kept HBI.out (unhide HC3 (k * 3) (by omega))
          have q1 := kept HBI.out (unhide HC3 (k * 3 + 1) (by omega))
          have q2 := kept HBI.out (unhide HC3 (k * 3 + 2) (by omega))
          have r0 := kept HBI.out (unhide HC3 (j * 3) (by omega))
          have r1 := kept HBI.out (unhide HC3 (j * 3 + 1) (by omega))
          have r2 := kept HBI.out (unhide HC3 (j * 3 + 2) (by omega))
          rw [runC0] at q0 r0
          rw [runC1] at q1 r1
          rw [runC2] at q2 r2
          go_wp2_with fail
          go_quiet (fail)
          clear q0 q1 q2 r0 r1 r2
          go_wp2
          go_roundw
          case rel => exact ⟨j + 1, by omega, by go_num, draws HBI.out _⟩
          case measure => simp [intOf]; omega
        · obtain rfl : j = k := by omega
          go_wp2
          go_roundw
          case rel => exact ⟨j + 1, by omega, by go_num, onward HBT.out HBI.out⟩
          case measure => simp [intOf]; omega
    · obtain rfl : k = N := by omega
      go_wp2_with (go_at_call 16; refine (awake_any _).mono ?_; rintro e w3 ⟨rfl, hb3⟩)
      go_ret
      exact ⟨rfl, onward (onward HB2.out HBO.out) hb3⟩

theorem distinct_law (x : Int) (_wx : (Lit.int .i64 x).wf = true) (y : Int) (_wy : (Lit.int .i64 y).wf = true) (z : Int) (_wz : (Lit.int .i64 z).wf = true) (n : Int) (_wn : (Lit.int .i64 n).wf = true) (w : World) :
    Calls Try.prog 7 #[.int .i64 x, .int .i64 y, .int .i64 z, .int .i64 n] w fun e w' => e = .returned (.bool true) ∧ Below w.heap.size w w' := distinct_any x y z n w
end Go.Proofs.Ytaimmohfcjoclaa
