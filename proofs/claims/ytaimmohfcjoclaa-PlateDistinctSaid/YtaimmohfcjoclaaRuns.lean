/-
  PlateRuns: the walk.
-/
import Derived.Test.YtaimmohfcjoclaaRunR
import Derived.Test.YtaimmohfcjoclaaAfter
namespace Go.Proofs.Ytaimmohfcjoclaa
open Go.RowKit

theorem pair_cells (w : World) (x y : Int) (t : TypeId) (k : Nat) (hk : k < 2) : (w.alloc (.cells #[.int .i64 x, .int .i64 y] t)).cell? ⟨w.heap.size, k, none⟩ = some (.int .i64 (if k = 0 then x else y)) := by
  match k, hk with
  | 0, _ => simp [go_sem]
  | 1, _ => simp [go_sem]

theorem good_or {l a s x : Int} : (vld l a s = true ∧ ∃ N : Nat, x = (N : Int) ∧ 1 ≤ N ∧ N ≤ 99) ∨ (vld l a s = false ∨ x < 1 ∨ 99 < x) := by
  cases h : vld l a s with
  | false => exact .inr (.inl rfl)
  | true =>
    by_cases h1 : x < 1
    · exact .inr (.inr (.inl h1))
    · by_cases h2 : 99 < x
      · exact .inr (.inr (.inr h2))
      · exact .inl ⟨rfl, x.toNat, by omega, by omega, by omega⟩

set_option maxHeartbeats 1000000 in
theorem runs_any (l a s n : Int) (w : World) :
    Calls Try.prog 6 #[.agg #[.int .i64 l, .int .i64 a, .int .i64 s], .int .i64 n] w fun e w' => e = .returned (.bool true) ∧ Below w.heap.size w w' := by
  obtain ⟨m1, m2⟩ := modN_range n 102 (by omega)
  go_enter Try.func6, Try.ntmps6
  go_wp2_with (go_at_call 27; refine (mod_any _ _ _ (by omega) (by omega)).mono ?_; rintro e w1 ⟨rfl, rfl⟩)
  have T0 := (Three.new w l a s 23).alloc (.cells #[.int .i64 n, .int .i64 (modN n 102 - 1)] 3)
  have P0 := fun k hk => pair_cells (w.alloc (.cells #[.int .i64 l, .int .i64 a, .int .i64 s] 23)) n (modN n 102 - 1) 3 k hk
  rw [World.size_alloc] at P0
  have HB := Lib.hid (((Below.refl w.heap.size w).alloc (Nat.le_refl _) (.cells #[.int .i64 l, .int .i64 a, .int .i64 s] 23)).alloc (by rw [World.size_alloc]; omega) (.cells #[.int .i64 n, .int .i64 (modN n 102 - 1)] 3))
  generalize (w.alloc (.cells #[.int .i64 l, .int .i64 a, .int .i64 s] 23)).alloc (.cells #[.int .i64 n, .int .i64 (modN n 102 - 1)] 3) = W at *
  have HP := hide P0
  clear P0
  go_loopw [18] (fun i wr => ∃ k : Nat, k ≤ 2 ∧ i = .int .i64 k ∧ Below W.heap.size W wr) (fun i _ => 2 - (intOf i).toNat)
  case atStart => exact ⟨0, Nat.zero_le _, rfl, Below.refl _ _⟩
  case round =>
    obtain ⟨k, hk, rfl, hb⟩ := hrel
    obtain ⟨wo, rfl⟩ : ∃ wo : World, wo = wr := ⟨_, rfl⟩
    obtain ⟨c0, c1, c2⟩ := T0.keep hb
    by_cases hlt : k < 2
    · have hx := kept hb (unhide HP k hlt)
      have hlt2 : (k : Int) < 2 := by omega
      have hk0 : (0 : Int) ≤ (k : Int) := by omega
      generalize (if k = 0 then n else modN n 102 - 1) = x at hx
      have HBO := Lib.hid hb
      clear hb
      rcases good_or (l := l) (a := a) (s := s) (x := x) with ⟨hv, N, rfl, h1, h2⟩ | hbad
      · go_wp2_with (first
          | (go_at_call 28; refine (run_ok l a s N _ hv h1 h2).mono ?_; rintro e w1 ⟨b1, q1, rfl, hb1, _, hq1, hc1⟩; have d0 := kept hb1 c0; have d1 := kept hb1 c1; have d2 := kept hb1 c2; have HB1 := Lib.hid hb1; have HC1 := hide hc1; clear hb1 hc1)
          | (go_at_call 29; refine (rrun_ok l a s N _ hv h1 h2).mono ?_; rintro e w2 ⟨b2, q2, rfl, hb2, _, hq2, hc2⟩; have HB2 := Lib.hid hb2; have HC2 := hide hc2; clear hb2 hc2))
        clear c0 c1 c2 d0 d1 d2 hx
        go_loopw [11] (fun i wi => ∃ j : Nat, j ≤ N ∧ i = .int .i64 j ∧ Below w2.heap.size w2 wi) (fun i _ => N - (intOf i).toNat)
        case atStart => exact ⟨0, Nat.zero_le _, rfl, Below.refl _ _⟩
        case round =>
          obtain ⟨j, hj, rfl, hbi⟩ := hrel
          obtain ⟨wi, rfl⟩ : ∃ wi : World, wi = wr := ⟨_, rfl⟩
          have HBI := Lib.hid hbi
          by_cases hjl : j < N
          · have jl : (j : Int) < (N : Int) := by omega
            have jz : (0 : Int) ≤ (j : Int) := by omega
            have a0 := kept hbi (kept HB2.out (unhide HC1 (j * 3) (by omega)))
            have a1 := kept hbi (kept HB2.out (unhide HC1 (j * 3 + 1) (by omega)))
            have a2 := kept hbi (kept HB2.out (unhide HC1 (j * 3 + 2) (by omega)))
            have b0 := kept hbi (unhide HC2 (j * 3) (by omega))
            have b1' := kept hbi (unhide HC2 (j * 3 + 1) (by omega))
            have b2' := kept hbi (unhide HC2 (j * 3 + 2) (by omega))
            clear hbi
            go_wp2_with fail
            go_quiet (fail)
            go_wp2
            go_roundw
            case rel => exact ⟨j + 1, by omega, by go_num, draws HBI.out _⟩
            case measure => simp [intOf]; omega
          · obtain rfl : j = N := by omega
            clear hbi
            go_wp2
            go_roundw
            case rel => exact ⟨k + 1, by omega, by go_num, onward (onward (onward HBO.out HB1.out) HB2.out) HBI.out⟩
            case measure => simp [intOf]; omega
      · have HBAD := Lib.hid hbad
        clear hbad
        go_wp2_with (first
          | (go_at_call 28; refine (run_bad l a s x _ HBAD.out).mono ?_; rintro e w1 ⟨rfl, hb1⟩; have d0 := kept hb1 c0; have d1 := kept hb1 c1; have d2 := kept hb1 c2; have HB1 := Lib.hid hb1; clear hb1)
          | (go_at_call 29; refine (rrun_bad l a s x _ HBAD.out).mono ?_; rintro e w2 ⟨rfl, hb2⟩; have HB2 := Lib.hid hb2; clear hb2))
        go_rounds 1
        go_roundw
        case rel => exact ⟨k + 1, by omega, by go_num, onward (onward HBO.out HB1.out) HB2.out⟩
        case measure => simp [intOf]; omega
    · obtain rfl : k = 2 := by omega
      have HBO := Lib.hid hb
      clear hb
      go_wp2_with (go_at_call 16; refine (awake_any _).mono ?_; rintro e w3 ⟨rfl, hb3⟩)
      go_ret
      exact ⟨rfl, onward (HB.out.trans (HBO.out.mono HB.out.size)) hb3⟩

theorem runs_law (l a s : Int) (_wl : (Lit.int .i64 l).wf = true) (_wa : (Lit.int .i64 a).wf = true) (_ws : (Lit.int .i64 s).wf = true) (n : Int) (_wn : (Lit.int .i64 n).wf = true) (w : World) :
    Calls Try.prog 6 #[.agg #[.int .i64 l, .int .i64 a, .int .i64 s], .int .i64 n] w fun e w' => e = .returned (.bool true) ∧ Below w.heap.size w w' := runs_any l a s n w
end Go.Proofs.Ytaimmohfcjoclaa
