/-
  FlightDays: the walk.
-/
import Derived.Test.YtaimmohfcjoclaaBackF
import Derived.Test.YtaimmohfcjoclaaCmpF
namespace Go.Proofs.Ytaimmohfcjoclaa
open Go.RowKit

theorem sgnS_self (c : ByteArray) : sgnS c c = 0 := by unfold sgnS; rw [less_self]; simp
theorem cmp_days (c : ByteArray) (n : Int) (s : ByteArray) (d d' : Int) : cmpF c n s d c n s d' = sgn d d' := by
  unfold cmpF or4
  rw [sgnS_self, sgnS_self]
  have : sgn n n = 0 := by unfold sgn; simp
  rw [this]; rfl
theorem des_days {c s : ByteArray} {n d d' : Int} (h : fvl c n s d = true) (h' : fvl c n s d' = true) : fdes c n s d' = fdes c n s d := by rw [fdes_yes h, fdes_yes h']
theorem txt_days {c s : ByteArray} {n d d' : Int} (h : fvl c n s d = true) (h' : fvl c n s d' = true) (hne : d ≠ d') : ((ftxt c n s d).toList == (ftxt c n s d').toList) = false := by
  rw [beq_eq_false_iff_ne]
  intro e
  have e2 : ftxt c n s d = ftxt c n s d' := by
    apply ByteArray.ext
    apply Array.toList_inj.1
    rw [ByteArray.toList_eq, ByteArray.toList_eq] at e
    exact e
  have a := (fback h).2.2.2.1
  have b := (fback h').2.2.2.1
  rw [e2, b] at a
  exact hne a.symm

set_option maxHeartbeats 4000000 in
theorem fdays_any (A : Option Addr) (len cap : Nat) (a b : Int) (w : World) (hcap : len ≤ cap) (hA : IntsIn w.heap.size w A len) :
    Calls Try.prog 15 #[.slice A len cap, .int .i64 a, .int .i64 b] w fun e w' => e = .returned (.bool true) ∧ Below w.heap.size w w' := by
  obtain ⟨m0, m1⟩ := modN_range a 100 (by omega)
  obtain ⟨m2, m3⟩ := modN_range b 100 (by omega)
  have hma := fun W => mod_any a 100 W (by omega) (by omega)
  have hmb := fun W => mod_any b 100 W (by omega) (by omega)
  generalize modN a 100 = d1 at *
  generalize modN b 100 = d2 at *
  have HMA := hide hma
  have HMB := hide hmb
  clear hma hmb
  go_enter Try.func15, Try.ntmps15
  go_wp2_with fail
  refine (new_any A len cap w hcap hA).mono ?_
  rintro e w1 ⟨rfl, hs1, hb1⟩
  go_wp2_with fail
  refine (anyflight_any _ _ _ hs1).mono ?_
  rintro e w2 ⟨c, n, s, d, rfl, hF, hs2, hg2⟩
  have v1 := few_day hF m0 (d' := d1) (by omega)
  have v2 := few_day hF m2 (d' := d2) (by omega)
  have B4 := Lib.hid (below_new (below_new (below_reads hb1 hg2 (Nat.le_refl _) hb1.size) (.cells #[.string c, .int .i64 n, .string s, .int .i64 d1] 53)) (.cells #[.string c, .int .i64 n, .string s, .int .i64 d2] 53))
  have F := Lib.hid ((Four.new w2 c n s d1 53).alloc (.cells #[.string c, .int .i64 n, .string s, .int .i64 d2] 53))
  have G := Lib.hid (Four.new (w2.alloc (.cells #[.string c, .int .i64 n, .string s, .int .i64 d1] 53)) c n s d2 53)
  clear hs1 hb1 hs2 hg2 hF
  have z1 := fdes_size v1
  have hd1 := fun W => fdes_any c n s d1 W
  have hd2 := fun W => fdes_any c n s d2 W
  rw [des_days v1 v2] at hd2
  have zi : (6 : Int) ≤ ((fdes c n s d1).size : Int) := by omega
  generalize fdes c n s d1 = X at *
  have HD1 := hide hd1
  have HD2 := hide hd2
  have hf1 := fun W => fformat_any c n s d1 W
  have hf2 := fun W => fformat_any c n s d2 W
  have hc := fun W => fcmp_any c n s d1 c n s d2 W
  rw [cmp_days] at hc
  have ht := Lib.hid (fun h => txt_days v1 v2 h)
  have hq : d1 = d2 → ftxt c n s d1 = ftxt c n s d2 := fun e => by rw [e]
  have HQ := Lib.hid hq
  generalize ftxt c n s d1 = T1 at *
  generalize ftxt c n s d2 = T2 at *
  have HF1 := hide hf1
  have HF2 := hide hf2
  have HC := hide hc
  clear hd1 hd2 hf1 hf2 hc hq v1 v2 z1 m0 m1 m2 m3
  go_wp2_with (go_at_call 27; (first | ((with_reducible refine (unhide HMA _).mono ?_); rintro e w1 ⟨rfl, rfl⟩) | ((with_reducible refine (unhide HMB _).mono ?_); rintro e w1 ⟨rfl, rfl⟩)))
  have F4 := F.out
  have G4 := G.out
  rw [World.size_alloc] at G4
  clear F G
  generalize (w2.alloc (.cells #[.string c, .int .i64 n, .string s, .int .i64 d1] 53)).alloc (.cells #[.string c, .int .i64 n, .string s, .int .i64 d2] 53) = V at *
  obtain ⟨k0, k1, k2, k3⟩ := F4
  obtain ⟨l0, l1, l2, l3⟩ := G4
  replace k0 := After.cell k0
  replace k1 := After.cell k1
  replace k2 := After.cell k2
  replace k3 := After.cell k3
  replace l0 := After.cell l0
  replace l1 := After.cell l1
  replace l2 := After.cell l2
  replace l3 := After.cell l3
  have tri : (d1 < d2 ∧ sgn d1 d2 = -1) ∨ (d1 = d2 ∧ sgn d1 d2 = 0) ∨ (d2 < d1 ∧ sgn d1 d2 = 1) := by
    unfold sgn
    rcases Int.lt_trichotomy d1 d2 with h | h | h
    · left; simp [h]
    · right; left; simp [h]
    · right; right; refine ⟨h, ?_⟩; rw [if_neg (by omega), if_pos h]
  have facts : ∃ (v : Int) (x y : Bool), sgn d1 d2 = v ∧ (T1.toList == T2.toList) = x ∧ (d1 == d2) = x ∧ decide (v < 0) = y ∧ decide (d1 < d2) = y := by
    rcases tri with ⟨h, e⟩ | ⟨h, e⟩ | ⟨h, e⟩
    · refine ⟨-1, false, true, e, ht.out (by omega), ?_, by decide, ?_⟩
      · rw [beq_eq_false_iff_ne]; omega
      · exact decide_eq_true h
    · refine ⟨0, true, false, e, ?_, ?_, by decide, ?_⟩
      · rw [HQ.out h]; exact beq_self_eq_true _
      · rw [h]; exact beq_self_eq_true _
      · exact decide_eq_false (by omega)
    · refine ⟨1, false, false, e, ht.out (by omega), ?_, by decide, ?_⟩
      · rw [beq_eq_false_iff_ne]; omega
      · exact decide_eq_false (by omega)
  obtain ⟨v, x, y, hv, q1, q2, q3, q4⟩ := facts
  clear tri ht HQ
  have hc := unhide HC
  rw [hv] at hc
  have HCV := hide hc
  clear hc HC hv
  refine wp_region_after (by kernel_rfl) (by kernel_rfl) ?_
  cases x <;> cases y
  all_goals
    repeat (go_big_quiet_step ((first
      | (go_at_call 46; (first | (with_reducible exact After.call (unhide HD1 _)) | (with_reducible exact After.call (unhide HD2 _))))
      | (go_at_call 48; (first | (with_reducible exact After.call (unhide HF1 _)) | (with_reducible exact After.call (unhide HF2 _))))
      | (go_at_call 51; exact After.call (unhide HCV _))
      | (go_at_call 41; exact After.call (fawake_any _)))))
    refine wpQuiet_nil ?_
    rintro _ ⟨t, rfl⟩
    clear k0 k1 k2 k3 l0 l1 l2 l3
    go_wp2
    go_ret
    exact ⟨rfl, onward B4.out t.is⟩

theorem fdays_law (A : Option Addr) (len cap : Nat) (hcap : len ≤ cap) {w : World} (hA : IntsIn w.heap.size w A len) (a : Int) (_wa : (Lit.int .i64 a).wf = true) (b : Int) (_wb : (Lit.int .i64 b).wf = true) :
    Calls Try.prog 15 #[.slice A len cap, .int .i64 a, .int .i64 b] w fun e w' => e = .returned (.bool true) ∧ Below w.heap.size w w' := fdays_any A len cap a b w hcap hA
end Go.Proofs.Ytaimmohfcjoclaa
