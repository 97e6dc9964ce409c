/-
  PlateOrder: the walk.
-/
import Derived.Test.YtaimmohfcjoclaaAwake
import Derived.Test.YtaimmohfcjoclaaMathO
namespace Go.Proofs.Ytaimmohfcjoclaa
open Go.RowKit

/-- Two boxed plates, the first two blocks of the call's own, in a later world. -/
structure Two (w W : World) (l a s l' a' s' : Int) : Prop where
  bel : Below w.heap.size w W
  one : Three W w.heap.size l a s
  two : Three W (w.heap.size + 1) l' a' s'
theorem Two.start (w : World) (l a s l' a' s' : Int) (t u : TypeId) : Two w ((w.alloc (.cells #[.int .i64 l, .int .i64 a, .int .i64 s] t)).alloc (.cells #[.int .i64 l', .int .i64 a', .int .i64 s'] u)) l a s l' a' s' := by
  refine ⟨((Below.refl _ _).alloc (Nat.le_refl _) _).alloc (by simp) _, (Three.new w l a s t).alloc _, ?_⟩
  have h := Three.new (w.alloc (.cells #[.int .i64 l, .int .i64 a, .int .i64 s] t)) l' a' s' u
  rw [World.size_alloc] at h
  exact h
theorem Two.step {w W W' : World} {l a s l' a' s' : Int} (h : Two w W l a s l' a' s') (hb : Below W.heap.size W W') : Two w W' l a s l' a' s' :=
  ⟨onward h.bel hb, h.one.keep hb, h.two.keep hb⟩

set_option maxHeartbeats 1000000 in
theorem order_valid (l a s l' a' s' : Int) (w : World) (hv : vld l a s = true) (hv' : vld l' a' s' = true) :
    Calls Try.prog 4 #[.agg #[.int .i64 l, .int .i64 a, .int .i64 s], .agg #[.int .i64 l', .int .i64 a', .int .i64 s']] w fun e w' => e = .returned (.bool true) ∧ Below w.heap.size w w' := by
  have T := Two.start w l a s l' a' s' 23 23
  have hba := fun W => compare_any l' a' s' l a s W
  have haa := fun W => compare_any l a s l a s W
  rw [cmp3_neg l a s l' a' s'] at hba
  rw [cmp3_self] at haa
  have HBA := hide hba
  have HAA := hide haa
  clear hba haa
  obtain ⟨hlt, heq⟩ := txt_less hv hv'
  obtain ⟨b1, b2⟩ := cmp3_bd l a s l' a' s'
  go_enter Try.func4, Try.ntmps4
  go_wp2_with (first
    | (go_at_call 25; (first | ((with_reducible refine (compare_any l a s l' a' s' _).mono ?_)) | ((with_reducible refine (unhide HBA _).mono ?_)) | ((with_reducible refine (unhide HAA _).mono ?_))); rintro e w1 ⟨rfl, hb1⟩; replace T := T.step hb1; obtain ⟨_, ⟨c1, c2, c3⟩, ⟨d1, d2, d3⟩⟩ := id T)
    | (go_at_call 26; refine (rcompare_any _ _ _ _ _ _ _).mono ?_; rintro e w1 ⟨rfl, hb1⟩; replace T := T.step hb1; obtain ⟨_, ⟨c1, c2, c3⟩, ⟨d1, d2, d3⟩⟩ := id T)
    | (go_at_call 19; refine (valid_any _ _ _ _).mono ?_; rintro e w1 ⟨rfl, hb1⟩; replace T := T.step hb1; obtain ⟨_, ⟨c1, c2, c3⟩, ⟨d1, d2, d3⟩⟩ := id T))
  obtain ⟨bel, ⟨e1, e2, e3⟩, ⟨f1, f2, f3⟩⟩ := T
  clear c1 c2 c3 d1 d2 d3 hb1 b1 b2
  replace e1 := After.cell e1
  replace e2 := After.cell e2
  replace e3 := After.cell e3
  replace f1 := After.cell f1
  replace f2 := After.cell f2
  replace f3 := After.cell f3
  refine wp_region_after (by kernel_rfl) (by kernel_rfl) ?_
  repeat (go_big_quiet_step ((first | (go_at_call 21; exact After.call (format_any _ _ _ _)))))
  refine wpQuiet_nil ?_
  rintro _ ⟨t, rfl⟩
  clear e1 e2 e3 f1 f2 f3
  go_wp2_with (go_at_call 16; refine (awake_any _).mono ?_; rintro e w2 ⟨rfl, hb2⟩)
  go_ret
  exact ⟨rfl, onward (onward bel t.is) hb2⟩

set_option maxHeartbeats 1000000 in
theorem order_not1 (l a s l' a' s' : Int) (w : World) (hv : vld l a s = false) :
    Calls Try.prog 4 #[.agg #[.int .i64 l, .int .i64 a, .int .i64 s], .agg #[.int .i64 l', .int .i64 a', .int .i64 s']] w fun e w' => e = .returned (.bool true) ∧ Below w.heap.size w w' := by
  have T := Two.start w l a s l' a' s' 23 23
  have hba := fun W => compare_any l' a' s' l a s W
  have haa := fun W => compare_any l a s l a s W
  rw [cmp3_neg l a s l' a' s'] at hba
  rw [cmp3_self] at haa
  have HBA := hide hba
  have HAA := hide haa
  clear hba haa
  obtain ⟨b1, b2⟩ := cmp3_bd l a s l' a' s'
  go_enter Try.func4, Try.ntmps4
  go_wp2_with (first
    | (go_at_call 25; (first | ((with_reducible refine (compare_any l a s l' a' s' _).mono ?_)) | ((with_reducible refine (unhide HBA _).mono ?_)) | ((with_reducible refine (unhide HAA _).mono ?_))); rintro e w1 ⟨rfl, hb1⟩; replace T := T.step hb1; obtain ⟨_, ⟨c1, c2, c3⟩, ⟨d1, d2, d3⟩⟩ := id T)
    | (go_at_call 26; refine (rcompare_any _ _ _ _ _ _ _).mono ?_; rintro e w1 ⟨rfl, hb1⟩; replace T := T.step hb1; obtain ⟨_, ⟨c1, c2, c3⟩, ⟨d1, d2, d3⟩⟩ := id T)
    | (go_at_call 19; refine (valid_any _ _ _ _).mono ?_; rintro e w1 ⟨rfl, hb1⟩; replace T := T.step hb1; obtain ⟨_, ⟨c1, c2, c3⟩, ⟨d1, d2, d3⟩⟩ := id T)
    | (go_at_call 16; refine (awake_any _).mono ?_; rintro e w2 ⟨rfl, hb2⟩))
  go_ret
  exact ⟨rfl, onward T.bel hb2⟩

set_option maxHeartbeats 1000000 in
theorem order_not2 (l a s l' a' s' : Int) (w : World) (hv : vld l a s = true) (hv' : vld l' a' s' = false) :
    Calls Try.prog 4 #[.agg #[.int .i64 l, .int .i64 a, .int .i64 s], .agg #[.int .i64 l', .int .i64 a', .int .i64 s']] w fun e w' => e = .returned (.bool true) ∧ Below w.heap.size w w' := by
  have T := Two.start w l a s l' a' s' 23 23
  have hba := fun W => compare_any l' a' s' l a s W
  have haa := fun W => compare_any l a s l a s W
  rw [cmp3_neg l a s l' a' s'] at hba
  rw [cmp3_self] at haa
  have HBA := hide hba
  have HAA := hide haa
  clear hba haa
  obtain ⟨b1, b2⟩ := cmp3_bd l a s l' a' s'
  go_enter Try.func4, Try.ntmps4
  go_wp2_with (first
    | (go_at_call 25; (first | ((with_reducible refine (compare_any l a s l' a' s' _).mono ?_)) | ((with_reducible refine (unhide HBA _).mono ?_)) | ((with_reducible refine (unhide HAA _).mono ?_))); rintro e w1 ⟨rfl, hb1⟩; replace T := T.step hb1; obtain ⟨_, ⟨c1, c2, c3⟩, ⟨d1, d2, d3⟩⟩ := id T)
    | (go_at_call 26; refine (rcompare_any _ _ _ _ _ _ _).mono ?_; rintro e w1 ⟨rfl, hb1⟩; replace T := T.step hb1; obtain ⟨_, ⟨c1, c2, c3⟩, ⟨d1, d2, d3⟩⟩ := id T)
    | (go_at_call 19; refine (valid_any _ _ _ _).mono ?_; rintro e w1 ⟨rfl, hb1⟩; replace T := T.step hb1; obtain ⟨_, ⟨c1, c2, c3⟩, ⟨d1, d2, d3⟩⟩ := id T)
    | (go_at_call 16; refine (awake_any _).mono ?_; rintro e w2 ⟨rfl, hb2⟩))
  go_ret
  exact ⟨rfl, onward T.bel hb2⟩

theorem order_law (l a s : Int) (_wl : (Lit.int .i64 l).wf = true) (_wa : (Lit.int .i64 a).wf = true) (_ws : (Lit.int .i64 s).wf = true) (l' a' s' : Int) (_wl' : (Lit.int .i64 l').wf = true) (_wa' : (Lit.int .i64 a').wf = true) (_ws' : (Lit.int .i64 s').wf = true) (w : World) :
    Calls Try.prog 4 #[.agg #[.int .i64 l, .int .i64 a, .int .i64 s], .agg #[.int .i64 l', .int .i64 a', .int .i64 s']] w fun e w' => e = .returned (.bool true) ∧ Below w.heap.size w w' := by
  cases hv : vld l a s with
  | false => exact order_not1 l a s l' a' s' w hv
  | true =>
    cases hv' : vld l' a' s' with
    | false => exact order_not2 l a s l' a' s' w hv hv'
    | true => exact order_valid l a s l' a' s' w hv hv'
end Go.Proofs.Ytaimmohfcjoclaa
