/-
  Early (layer 19): isTime and Hold (both), the program's collect.
-/
import Derived.Test.YtbajmbegkacbbaaEarI
namespace Go.Proofs.Ytbajmbegkacbbaa
open Go.RowKit

theorem time_any (x : Int) (w : World) : Calls Try.prog 19 #[.int .i64 x] w fun e w' => e = .returned (.bool (timS x)) ∧ w = w' := by
  by_cases h1 : 0 ≤ x <;> by_cases h2 : x ≤ 1048576
  all_goals
    go_enter Try.func19, Try.ntmps19
    go_wp2
    go_ret
    refine ⟨ret_bool ?_, rfl⟩
    unfold timS
    simp [h1, h2]
set_option maxHeartbeats 1000000 in
theorem hold_any (a b c d : Int) (w : World) : Calls Try.prog 9 #[.int .i64 a, .int .i64 b, .int .i64 c, .int .i64 d] w fun e w' => e = .returned (.bool (hldB a b c d)) ∧ w = w' := by
  cases ha : timS a with
  | false =>
    have HH := hide (show hldB a b c d = false by unfold hldB; rw [ha]; rfl)
    go_enter Try.func9, Try.ntmps9
    go_wp2_with (go_at_call 19; refine (time_any _ _).mono ?_; rintro e w1 ⟨rfl, rfl⟩)
    go_ret
    exact ⟨ret_bool (unhide HH).symm, rfl⟩
  | true =>
    cases hb : timS b with
    | false =>
      have HH := hide (show hldB a b c d = false by unfold hldB; rw [ha, hb]; rfl)
      go_enter Try.func9, Try.ntmps9
      go_wp2_with (go_at_call 19; refine (time_any _ _).mono ?_; rintro e w1 ⟨rfl, rfl⟩)
      go_ret
      exact ⟨ret_bool (unhide HH).symm, rfl⟩
    | true =>
      cases hc : timS c with
      | false =>
        have HH := hide (show hldB a b c d = false by unfold hldB; rw [ha, hb, hc]; rfl)
        go_enter Try.func9, Try.ntmps9
        go_wp2_with (go_at_call 19; refine (time_any _ _).mono ?_; rintro e w1 ⟨rfl, rfl⟩)
        go_ret
        exact ⟨ret_bool (unhide HH).symm, rfl⟩
      | true =>
        cases hd : timS d with
        | false =>
          have HH := hide (show hldB a b c d = false by unfold hldB; rw [ha, hb, hc, hd]; rfl)
          go_enter Try.func9, Try.ntmps9
          go_wp2_with (go_at_call 19; refine (time_any _ _).mono ?_; rintro e w1 ⟨rfl, rfl⟩)
          go_ret
          exact ⟨ret_bool (unhide HH).symm, rfl⟩
        | true =>
          have HH := hide (show hldB a b c d = decide (a + c + d < b) by unfold hldB; rw [ha, hb, hc, hd]; rfl)
          have hS : (0 ≤ a ∧ a ≤ 1048576) ∧ (0 ≤ c ∧ c ≤ 1048576) ∧ (0 ≤ d ∧ d ≤ 1048576) := by unfold timS at ha hc hd; simp at ha hc hd; omega
          have w1 : IntKind.i64.wrap (a + c) = a + c := by rw [IntKind.wrap_i64]; omega
          have w2 : IntKind.i64.wrap (a + c + d) = a + c + d := by rw [IntKind.wrap_i64]; omega
          clear hS
          by_cases hq : a + c + d < b
          · have HQ := hide (show decide (a + c + d < b) = true by simp [hq])
            go_enter Try.func9, Try.ntmps9
            go_wp2_with (go_at_call 19; refine (time_any _ _).mono ?_; rintro e w1 ⟨rfl, rfl⟩)
            go_ret
            exact ⟨ret_bool (by rw [unhide HH, unhide HQ]), rfl⟩
          · have HQ := hide (show decide (a + c + d < b) = false by simp [hq])
            go_enter Try.func9, Try.ntmps9
            go_wp2_with (go_at_call 19; refine (time_any _ _).mono ?_; rintro e w1 ⟨rfl, rfl⟩)
            go_ret
            exact ⟨ret_bool (by rw [unhide HH, unhide HQ]), rfl⟩
theorem rtime_any (x : Int) (w : World) : Calls Try.prog 20 #[.int .i64 x] w fun e w' => e = .returned (.bool (timS x)) ∧ w = w' := by
  by_cases h1 : 0 ≤ x <;> by_cases h2 : x ≤ 1048576
  all_goals
    go_enter Try.func20, Try.ntmps20
    go_wp2
    go_ret
    refine ⟨ret_bool ?_, rfl⟩
    unfold timS
    simp [h1, h2]
set_option maxHeartbeats 1000000 in
theorem rhold_any (a b c d : Int) (w : World) : Calls Try.prog 10 #[.int .i64 a, .int .i64 b, .int .i64 c, .int .i64 d] w fun e w' => e = .returned (.bool (hldB a b c d)) ∧ w = w' := by
  cases ha : timS a with
  | false =>
    have HH := hide (show hldB a b c d = false by unfold hldB; rw [ha]; rfl)
    go_enter Try.func10, Try.ntmps10
    go_wp2_with (go_at_call 20; refine (rtime_any _ _).mono ?_; rintro e w1 ⟨rfl, rfl⟩)
    go_ret
    exact ⟨ret_bool (unhide HH).symm, rfl⟩
  | true =>
    cases hb : timS b with
    | false =>
      have HH := hide (show hldB a b c d = false by unfold hldB; rw [ha, hb]; rfl)
      go_enter Try.func10, Try.ntmps10
      go_wp2_with (go_at_call 20; refine (rtime_any _ _).mono ?_; rintro e w1 ⟨rfl, rfl⟩)
      go_ret
      exact ⟨ret_bool (unhide HH).symm, rfl⟩
    | true =>
      cases hc : timS c with
      | false =>
        have HH := hide (show hldB a b c d = false by unfold hldB; rw [ha, hb, hc]; rfl)
        go_enter Try.func10, Try.ntmps10
        go_wp2_with (go_at_call 20; refine (rtime_any _ _).mono ?_; rintro e w1 ⟨rfl, rfl⟩)
        go_ret
        exact ⟨ret_bool (unhide HH).symm, rfl⟩
      | true =>
        cases hd : timS d with
        | false =>
          have HH := hide (show hldB a b c d = false by unfold hldB; rw [ha, hb, hc, hd]; rfl)
          go_enter Try.func10, Try.ntmps10
          go_wp2_with (go_at_call 20; refine (rtime_any _ _).mono ?_; rintro e w1 ⟨rfl, rfl⟩)
          go_ret
          exact ⟨ret_bool (unhide HH).symm, rfl⟩
        | true =>
          have HH := hide (show hldB a b c d = decide (a + c + d < b) by unfold hldB; rw [ha, hb, hc, hd]; rfl)
          have hS : (0 ≤ a ∧ a ≤ 1048576) ∧ (0 ≤ c ∧ c ≤ 1048576) ∧ (0 ≤ d ∧ d ≤ 1048576) := by unfold timS at ha hc hd; simp at ha hc hd; omega
          have w1 : IntKind.i64.wrap (a + c) = a + c := by rw [IntKind.wrap_i64]; omega
          have w2 : IntKind.i64.wrap (a + c + d) = a + c + d := by rw [IntKind.wrap_i64]; omega
          clear hS
          by_cases hq : a + c + d < b
          · have HQ := hide (show decide (a + c + d < b) = true by simp [hq])
            go_enter Try.func10, Try.ntmps10
            go_wp2_with (go_at_call 20; refine (rtime_any _ _).mono ?_; rintro e w1 ⟨rfl, rfl⟩)
            go_ret
            exact ⟨ret_bool (by rw [unhide HH, unhide HQ]), rfl⟩
          · have HQ := hide (show decide (a + c + d < b) = false by simp [hq])
            go_enter Try.func10, Try.ntmps10
            go_wp2_with (go_at_call 20; refine (rtime_any _ _).mono ?_; rintro e w1 ⟨rfl, rfl⟩)
            go_ret
            exact ⟨ret_bool (by rw [unhide HH, unhide HQ]), rfl⟩
theorem filt_yes {l : List Sb} {k : Nat} {o : List Sb} (hk : k < l.length) (h : o.Perm ((l.take k).filter cntS)) (hc : cntS (l.getD k (0, 0)) = true) : (o ++ [l.getD k (0, 0)]).Perm ((l.take (k + 1)).filter cntS) := by
  rw [List.take_succ_eq_append_getElem hk, List.filter_append, ← at_k (d := (0, 0)) hk, List.filter_cons_of_pos (by exact hc), List.filter_nil]
  exact h.append_right _
theorem filt_no {l : List Sb} {k : Nat} {o : List Sb} (hk : k < l.length) (h : o.Perm ((l.take k).filter cntS)) (hc : cntS (l.getD k (0, 0)) = false) : o.Perm ((l.take (k + 1)).filter cntS) := by
  rw [List.take_succ_eq_append_getElem hk, List.filter_append, ← at_k (d := (0, 0)) hk, List.filter_cons_of_neg (by rw [hc]; decide), List.filter_nil, List.append_nil]
  exact h
/-- The heap while the list is gone through. -/
def ColI (w : World) (l : List Sb) (k : Nat) (A : Option Addr) (c : Nat) (o : List Sb) (wr : World) : Prop :=
  HpB ⟨w, none⟩ w.heap.size w.heap.size wr A c o ∧ o.Perm ((l.take k).filter cntS) ∧ HpF leS (0, 0) 0 o.length o ∧ o.length ≤ k
set_option maxHeartbeats 1000000 in
set_option maxRecDepth 100000 in
theorem collect_any (b : Nat) (l : List Sb) (A : Option Addr) (c : Nat) (w : World) (hz : l.length ≤ 1000) (h : SbIn b w A l) :
    Calls Try.prog 21 #[.slice A l.length c] w fun e w' => ∃ (A' : Option Addr) (c' : Nat) (o : List Sb), e = .returned (.slice A' o.length c') ∧ HpB ⟨w, none⟩ w.heap.size w.heap.size w' A' c' o ∧ o.Perm (l.filter cntS) ∧ HpF leS (0, 0) 0 o.length o := by
  have b1 := (Below.refl w.heap.size w).alloc (Nat.le_refl _) (.cells #[.slice none 0 0] 39)
  have H0 := hide (show ColI w l 0 none 0 [] (w.alloc (.cells #[.slice none 0 0] 39)) from
    ⟨⟨b1, Nat.zero_le _, heap_alloc_new w _, World.ownsRow_nil _ _ _ _, (fun _ _ e => by cases e), Nat.le_refl _, fun _ _ e => by cases e⟩, List.Perm.refl _, fun c h0 h1 _ => absurd h1 (Nat.not_lt_zero _), Nat.le_refl _⟩)
  have HSb := hide h
  clear b1 h
  go_enter Try.func21, Try.ntmps21
  go_wp2_with fail
  go_loopw [8] (fun s8 wr => ∃ (k c : Nat) (A : Option Addr) (o : List Sb), k ≤ l.length ∧ s8 = .int .i64 k ∧ Hid (ColI w l k A c o wr)) (fun s8 _ => l.length - (intOf s8).toNat)
  case atStart => exact ⟨0, 0, none, [], Nat.zero_le _, rfl, H0⟩
  case round =>
    clear H0
    obtain ⟨k, c2, A2, o, hk, rfl, HS⟩ := hrel
    obtain ⟨wo, rfl⟩ : ∃ wo : World, wo = wr := ⟨_, rfl⟩
    by_cases hlt : k < l.length
    · have kl : (k : Int) < (l.length : Int) := by omega
      have k0 : (0 : Int) ≤ (k : Int) := by omega
      obtain ⟨g, off, rfl, hld⟩ := sb_get ((unhide HSb).keep (unhide HS).1.bel) hlt
      obtain ⟨x, hx⟩ : ∃ x, l.getD k (0, 0) = x := ⟨_, rfl⟩
      have HYes := hide (fun hc => filt_yes hlt (unhide HS).2.1 hc)
      have HNo := hide (fun hc => filt_no hlt (unhide HS).2.1 hc)
      rw [hx] at hld HYes HNo
      have e0 : wo.cell? ⟨g, off + k * 2, none⟩ = some (.int .i64 x.1) := hld 0 _ rfl
      have e1 : wo.cell? ⟨g, off + k * 2 + 1, none⟩ = some (.int .i64 x.2) := hld 1 _ rfl
      obtain ⟨W1, hW1⟩ : ∃ W1 : World, wo.alloc (.cells (sbA x) 33) = W1 := ⟨_, rfl⟩
      have hb1 := (Below.refl wo.heap.size wo).alloc (Nat.le_refl _) (.cells (sbA x) 33)
      have hn1 := heap_alloc_new wo (.cells (sbA x) 33)
      rw [hW1] at hb1 hn1
      have HP := hide ((unhide HS).1.below hb1)
      have n0 : W1.cell? ⟨wo.heap.size, 0, none⟩ = some (.int .i64 x.1) := by rw [Lib.cell_of_heap hn1]; rfl
      have n1 : W1.cell? ⟨wo.heap.size, 1, none⟩ = some (.int .i64 x.2) := by rw [Lib.cell_of_heap hn1]; rfl
      have HLt := hide hlt
      have HLs := hide (show o.length < 1000 by have := (unhide HS).2.2.2; omega)
      clear hx hld hb1 hn1 hlt
      by_cases c1 : 1 ≤ x.1
      · by_cases c2 : x.1 ≤ 40
        · have HC := hide (unhide HYes (by unfold cntS; rw [decide_eq_true_eq]; omega))
          have HPu := hide (hpush_any ⟨w, none⟩ w.heap.size w.heap.size W1 A2 _ o x (unhide HP) (unhide HLs) (unhide HS).2.2.1)
          go_wp2_with (go_at_call 25; refine (unhide HPu).mono ?_; rintro e w2 ⟨rfl, A3, c3, o3, hs3, hp3, hf3⟩)
          go_roundw
          case rel => exact ⟨k + 1, c3, A3, o3, by have := unhide HLt; omega, by go_num, hide ⟨hs3, hp3.trans (unhide HC), hf3, by have := hp3.length_eq; rw [List.length_append] at this; have := (unhide HS).2.2.2; simp at *; omega⟩⟩
          case measure => have := unhide HLt; simp [intOf]; omega
        · have HC := hide (unhide HNo (by unfold cntS; rw [decide_eq_false_iff_not]; omega))
          go_wp2
          go_roundw
          case rel => exact ⟨k + 1, _, A2, o, by have := unhide HLt; omega, by go_num, hide ⟨unhide HP, unhide HC, (unhide HS).2.2.1, by have := (unhide HS).2.2.2; omega⟩⟩
          case measure => have := unhide HLt; simp [intOf]; omega
      · have HC := hide (unhide HNo (by unfold cntS; rw [decide_eq_false_iff_not]; omega))
        go_wp2
        go_roundw
        case rel => exact ⟨k + 1, _, A2, o, by have := unhide HLt; omega, by go_num, hide ⟨unhide HP, unhide HC, (unhide HS).2.2.1, by have := (unhide HS).2.2.2; omega⟩⟩
        case measure => have := unhide HLt; simp [intOf]; omega
    · obtain rfl : k = l.length := by omega
      have kl : ¬ (l.length : Int) < (l.length : Int) := by omega
      have bx := (unhide HS).1.cell
      go_wp2
      go_ret
      have hp := (unhide HS).2.1
      rw [List.take_length] at hp
      exact ⟨A2, c2, o, rfl, (unhide HS).1, hp, (unhide HS).2.2.1⟩
end Go.Proofs.Ytbajmbegkacbbaa
