/-
  Contracts of messages: threeDigits, number, writeLoad, find; the program's table of words.
-/
import Derived.Test.YtglgobmmmghdoaaGreatDoorMsgI
namespace Go.Proofs.YtglgobmmmghdoaaGreatDoor
open Go.RowKit

theorem array3_row {w1 : World} (t : TypeId) : (w1.alloc (.cells #[.int .u8 0, .int .u8 0, .int .u8 0] t)).rowIs w1.heap.size t 3 (u8f fun _ => 0) :=
  World.rowIs_alloc _ _ _ _ fun i hi => by
    have : i < 3 := hi
    match i, this with
    | 0, _ | 1, _ | 2, _ => rfl
set_option maxHeartbeats 1000000 in
theorem three_any (n : Int) (w : World) (h0 : 0 ≤ n) (h1 : n ≤ 1000000) :
    Calls Tryz.prog 46 #[.int .i64 n] w fun e w' => e = .returned (.string (three n)) ∧ Below w.heap.size w w' := by
  have hr := array3_row (w1 := w) 120
  have hg := World.grownBy_alloc w (.cells #[.int .u8 0, .int .u8 0, .int .u8 0] 120) (some w.heap.size)
  have HR := hide hr
  have HG := hide hg
  clear hr hg
  go_enter Tryz.func46, Tryz.ntmps46
  go_wp2_with (go_at_call 75; refine (write_any w.heap.size 0 3 3 n (fun _ => 0) 120 3 _ (by omega) (by omega) (unhide HR) (by omega) (by omega) (by omega)).mono ?_; rintro e w3 ⟨rfl, hr3, hg3⟩; have hcv := conv_row (off := 0) (K := 3) (cap := 3) hr3 (by omega); have HG3 := hide hg3; clear hg3 hr3)
  go_ret
  have hg := Lib.grownBy_trans (unhide HG) (unhide HG3)
  exact ⟨rfl, hg.os, hg.tape, hg.output, hg.size, fun k hk => hg.block k hk (by simp; omega)⟩

theorem mnumber_any (s : ByteArray) (w : World) :
    Calls Tryz.prog 51 #[.string s] w fun e w' => e = .returned (.int .i64 (numV s)) ∧ w = w' := by
  go_enter Tryz.func51, Tryz.ntmps51
  go_wp2_with (go_at_call 78; refine (value_any _ _).mono ?_; rintro e w1 ⟨rfl, rfl⟩)
  go_ret
  exact ⟨rfl, rfl⟩

theorem wload_any (b : Bool) (w : World) :
    Calls Tryz.prog 47 #[.bool b] w fun e w' => e = .returned (.string (wLoad b)) ∧ w = w' := by
  cases b <;> (go_enter Tryz.func47, Tryz.ntmps47; go_wp2; go_ret; exact ⟨rfl, rfl⟩)

/-- The program's table of words. -/
def wordS (r : Nat) (k : Int) : ByteArray := if r = 0 then wKind k else if r = 1 then wAct k else if r = 2 then wSta k else wExc k
def Words (w : World) : Prop := ∀ r i : Nat, r < 4 → i < 6 → w.cell? ⟨0, r * 6 + i, none⟩ = some (.string (wordS r (i : Int)))
theorem Words.keep {w w1 : World} (h : Words w) (hb : Below w.heap.size w w1) : Words w1 := fun r i hr hi => kept hb (h r i hr hi)
theorem find_at {f : Int → ByteArray} {z : Int} {s : ByteArray} {k : Nat} (h5 : k ≤ 5) (hn : ∀ j : Nat, j < k → s ≠ f j) (he : s = f k) : findW f z s = k := by
  have : k = 0 ∨ k = 1 ∨ k = 2 ∨ k = 3 ∨ k = 4 ∨ k = 5 := by omega
  rcases this with rfl | rfl | rfl | rfl | rfl | rfl
  · unfold findW; rw [if_pos (by simpa using he)]; rfl
  · unfold findW; rw [if_neg (show ¬ s = f 0 from hn 0 (by omega)), if_pos (by simpa using he)]; rfl
  · unfold findW; rw [if_neg (show ¬ s = f 0 from hn 0 (by omega)), if_neg (show ¬ s = f 1 from hn 1 (by omega)), if_pos (by simpa using he)]; rfl
  · unfold findW; rw [if_neg (show ¬ s = f 0 from hn 0 (by omega)), if_neg (show ¬ s = f 1 from hn 1 (by omega)), if_neg (show ¬ s = f 2 from hn 2 (by omega)), if_pos (by simpa using he)]; rfl
  · unfold findW; rw [if_neg (show ¬ s = f 0 from hn 0 (by omega)), if_neg (show ¬ s = f 1 from hn 1 (by omega)), if_neg (show ¬ s = f 2 from hn 2 (by omega)), if_neg (show ¬ s = f 3 from hn 3 (by omega)), if_pos (by simpa using he)]; rfl
  · unfold findW; rw [if_neg (show ¬ s = f 0 from hn 0 (by omega)), if_neg (show ¬ s = f 1 from hn 1 (by omega)), if_neg (show ¬ s = f 2 from hn 2 (by omega)), if_neg (show ¬ s = f 3 from hn 3 (by omega)), if_neg (show ¬ s = f 4 from hn 4 (by omega)), if_pos (by simpa using he)]; rfl
theorem find_no {f : Int → ByteArray} {z : Int} {s : ByteArray} (hn : ∀ j : Nat, j < 6 → s ≠ f j) : findW f z s = z := by
  unfold findW; rw [if_neg (show ¬ s = f 0 from hn 0 (by omega)), if_neg (show ¬ s = f 1 from hn 1 (by omega)), if_neg (show ¬ s = f 2 from hn 2 (by omega)), if_neg (show ¬ s = f 3 from hn 3 (by omega)), if_neg (show ¬ s = f 4 from hn 4 (by omega)), if_neg (show ¬ s = f 5 from hn 5 (by omega))]


set_option maxHeartbeats 4000000 in
set_option maxRecDepth 100000 in
theorem find_0 (s : ByteArray) (w : World) (hW : Words w) :
    Calls Tryz.prog 23 #[.int .i64 0, .string s] w fun e w' => e = .returned (.int .i64 (findW (wordS 0) (-1) s)) ∧ w = w' := by
  have c0 := hW 0 0 (by omega) (by omega)
  have c1 := hW 0 1 (by omega) (by omega)
  have c2 := hW 0 2 (by omega) (by omega)
  have c3 := hW 0 3 (by omega) (by omega)
  have c4 := hW 0 4 (by omega) (by omega)
  have c5 := hW 0 5 (by omega) (by omega)
  simp only [Nat.reduceMul, Nat.reduceAdd] at c0 c1 c2 c3 c4 c5
  have HF := hide (fun (k : Nat) (h5 : k ≤ 5) hn he => find_at (f := wordS 0) (z := -1) (s := s) (k := k) h5 hn he)
  have HN := hide (fun hn => find_no (f := wordS 0) (z := -1) (s := s) hn)
  generalize hv0 : wordS 0 ((0 : Nat) : Int) = v0 at *
  have V0 := hide hv0
  clear hv0
  generalize hv1 : wordS 0 ((1 : Nat) : Int) = v1 at *
  have V1 := hide hv1
  clear hv1
  generalize hv2 : wordS 0 ((2 : Nat) : Int) = v2 at *
  have V2 := hide hv2
  clear hv2
  generalize hv3 : wordS 0 ((3 : Nat) : Int) = v3 at *
  have V3 := hide hv3
  clear hv3
  generalize hv4 : wordS 0 ((4 : Nat) : Int) = v4 at *
  have V4 := hide hv4
  clear hv4
  generalize hv5 : wordS 0 ((5 : Nat) : Int) = v5 at *
  have V5 := hide hv5
  clear hv5
  have i0 : ∀ w : World, (Instr.index 65 (.agg #[.string v0, .string v1, .string v2, .string v3, .string v4, .string v5]) (.int .i64 0)).run Tryz.prog w = .ok (.string v0) w := fun _ => by kernel_rfl
  have i1 : ∀ w : World, (Instr.index 65 (.agg #[.string v0, .string v1, .string v2, .string v3, .string v4, .string v5]) (.int .i64 1)).run Tryz.prog w = .ok (.string v1) w := fun _ => by kernel_rfl
  have i2 : ∀ w : World, (Instr.index 65 (.agg #[.string v0, .string v1, .string v2, .string v3, .string v4, .string v5]) (.int .i64 2)).run Tryz.prog w = .ok (.string v2) w := fun _ => by kernel_rfl
  have i3 : ∀ w : World, (Instr.index 65 (.agg #[.string v0, .string v1, .string v2, .string v3, .string v4, .string v5]) (.int .i64 3)).run Tryz.prog w = .ok (.string v3) w := fun _ => by kernel_rfl
  have i4 : ∀ w : World, (Instr.index 65 (.agg #[.string v0, .string v1, .string v2, .string v3, .string v4, .string v5]) (.int .i64 4)).run Tryz.prog w = .ok (.string v4) w := fun _ => by kernel_rfl
  have i5 : ∀ w : World, (Instr.index 65 (.agg #[.string v0, .string v1, .string v2, .string v3, .string v4, .string v5]) (.int .i64 5)).run Tryz.prog w = .ok (.string v5) w := fun _ => by kernel_rfl
  clear hW
  go_enter Tryz.func23, Tryz.ntmps23
  go_wp2
  go_loop [5, 6, 10] (fun _ _ i => ∃ k : Nat, k ≤ 6 ∧ i = .int .i64 k ∧ Hid (∀ j : Nat, j < k → s ≠ wordS 0 j)) (fun _ _ i => 6 - (intOf i).toNat)
  case atStart => exact ⟨0, Nat.zero_le _, rfl, Lib.hid (fun j hj => by omega)⟩
  case round =>
    obtain ⟨k, hk, rfl, hd⟩ := hrel
    clear c0 c1 c2 c3 c4 c5
    have hkk : k = 0 ∨ k = 1 ∨ k = 2 ∨ k = 3 ∨ k = 4 ∨ k = 5 ∨ k = 6 := by omega
    rcases hkk with rfl | rfl | rfl | rfl | rfl | rfl | rfl
    · cases he : (v0.toList == s.toList) with
      | true =>
        have HE := hide (show s = wordS 0 ((0 : Nat) : Int) by rw [unhide V0]; have := he; rw [toList_eq, decide_eq_true_eq] at this; exact this.symm)
        go_wp2
        go_ret
        exact ⟨ret_int (unhide HF 0 (by omega) hd.out (unhide HE)).symm, rfl⟩
      | false =>
        have HE := hide (show s ≠ wordS 0 ((0 : Nat) : Int) by rw [unhide V0]; have := he; rw [toList_eq, decide_eq_false_iff_not] at this; exact fun e => this e.symm)
        go_wp2
        go_round
        case rel => exact ⟨1, by omega, rfl, Lib.hid (fun j hj => by
          by_cases e : j = 0
          · subst e; exact unhide HE
          · exact hd.out j (by omega))⟩
        case measure => simp [intOf]
    · cases he : (v1.toList == s.toList) with
      | true =>
        have HE := hide (show s = wordS 0 ((1 : Nat) : Int) by rw [unhide V1]; have := he; rw [toList_eq, decide_eq_true_eq] at this; exact this.symm)
        go_wp2
        go_ret
        exact ⟨ret_int (unhide HF 1 (by omega) hd.out (unhide HE)).symm, rfl⟩
      | false =>
        have HE := hide (show s ≠ wordS 0 ((1 : Nat) : Int) by rw [unhide V1]; have := he; rw [toList_eq, decide_eq_false_iff_not] at this; exact fun e => this e.symm)
        go_wp2
        go_round
        case rel => exact ⟨2, by omega, rfl, Lib.hid (fun j hj => by
          by_cases e : j = 1
          · subst e; exact unhide HE
          · exact hd.out j (by omega))⟩
        case measure => simp [intOf]
    · cases he : (v2.toList == s.toList) with
      | true =>
        have HE := hide (show s = wordS 0 ((2 : Nat) : Int) by rw [unhide V2]; have := he; rw [toList_eq, decide_eq_true_eq] at this; exact this.symm)
        go_wp2
        go_ret
        exact ⟨ret_int (unhide HF 2 (by omega) hd.out (unhide HE)).symm, rfl⟩
      | false =>
        have HE := hide (show s ≠ wordS 0 ((2 : Nat) : Int) by rw [unhide V2]; have := he; rw [toList_eq, decide_eq_false_iff_not] at this; exact fun e => this e.symm)
        go_wp2
        go_round
        case rel => exact ⟨3, by omega, rfl, Lib.hid (fun j hj => by
          by_cases e : j = 2
          · subst e; exact unhide HE
          · exact hd.out j (by omega))⟩
        case measure => simp [intOf]
    · cases he : (v3.toList == s.toList) with
      | true =>
        have HE := hide (show s = wordS 0 ((3 : Nat) : Int) by rw [unhide V3]; have := he; rw [toList_eq, decide_eq_true_eq] at this; exact this.symm)
        go_wp2
        go_ret
        exact ⟨ret_int (unhide HF 3 (by omega) hd.out (unhide HE)).symm, rfl⟩
      | false =>
        have HE := hide (show s ≠ wordS 0 ((3 : Nat) : Int) by rw [unhide V3]; have := he; rw [toList_eq, decide_eq_false_iff_not] at this; exact fun e => this e.symm)
        go_wp2
        go_round
        case rel => exact ⟨4, by omega, rfl, Lib.hid (fun j hj => by
          by_cases e : j = 3
          · subst e; exact unhide HE
          · exact hd.out j (by omega))⟩
        case measure => simp [intOf]
    · cases he : (v4.toList == s.toList) with
      | true =>
        have HE := hide (show s = wordS 0 ((4 : Nat) : Int) by rw [unhide V4]; have := he; rw [toList_eq, decide_eq_true_eq] at this; exact this.symm)
        go_wp2
        go_ret
        exact ⟨ret_int (unhide HF 4 (by omega) hd.out (unhide HE)).symm, rfl⟩
      | false =>
        have HE := hide (show s ≠ wordS 0 ((4 : Nat) : Int) by rw [unhide V4]; have := he; rw [toList_eq, decide_eq_false_iff_not] at this; exact fun e => this e.symm)
        go_wp2
        go_round
        case rel => exact ⟨5, by omega, rfl, Lib.hid (fun j hj => by
          by_cases e : j = 4
          · subst e; exact unhide HE
          · exact hd.out j (by omega))⟩
        case measure => simp [intOf]
    · cases he : (v5.toList == s.toList) with
      | true =>
        have HE := hide (show s = wordS 0 ((5 : Nat) : Int) by rw [unhide V5]; have := he; rw [toList_eq, decide_eq_true_eq] at this; exact this.symm)
        go_wp2
        go_ret
        exact ⟨ret_int (unhide HF 5 (by omega) hd.out (unhide HE)).symm, rfl⟩
      | false =>
        have HE := hide (show s ≠ wordS 0 ((5 : Nat) : Int) by rw [unhide V5]; have := he; rw [toList_eq, decide_eq_false_iff_not] at this; exact fun e => this e.symm)
        go_wp2
        go_round
        case rel => exact ⟨6, by omega, rfl, Lib.hid (fun j hj => by
          by_cases e : j = 5
          · subst e; exact unhide HE
          · exact hd.out j (by omega))⟩
        case measure => simp [intOf]
    · go_wp2
      go_ret
      exact ⟨ret_int (unhide HN hd.out).symm, rfl⟩


set_option maxHeartbeats 4000000 in
set_option maxRecDepth 100000 in
theorem find_1 (s : ByteArray) (w : World) (hW : Words w) :
    Calls Tryz.prog 23 #[.int .i64 1, .string s] w fun e w' => e = .returned (.int .i64 (findW (wordS 1) (-1) s)) ∧ w = w' := by
  have c0 := hW 1 0 (by omega) (by omega)
  have c1 := hW 1 1 (by omega) (by omega)
  have c2 := hW 1 2 (by omega) (by omega)
  have c3 := hW 1 3 (by omega) (by omega)
  have c4 := hW 1 4 (by omega) (by omega)
  have c5 := hW 1 5 (by omega) (by omega)
  simp only [Nat.reduceMul, Nat.reduceAdd] at c0 c1 c2 c3 c4 c5
  have HF := hide (fun (k : Nat) (h5 : k ≤ 5) hn he => find_at (f := wordS 1) (z := -1) (s := s) (k := k) h5 hn he)
  have HN := hide (fun hn => find_no (f := wordS 1) (z := -1) (s := s) hn)
  generalize hv0 : wordS 1 ((0 : Nat) : Int) = v0 at *
  have V0 := hide hv0
  clear hv0
  generalize hv1 : wordS 1 ((1 : Nat) : Int) = v1 at *
  have V1 := hide hv1
  clear hv1
  generalize hv2 : wordS 1 ((2 : Nat) : Int) = v2 at *
  have V2 := hide hv2
  clear hv2
  generalize hv3 : wordS 1 ((3 : Nat) : Int) = v3 at *
  have V3 := hide hv3
  clear hv3
  generalize hv4 : wordS 1 ((4 : Nat) : Int) = v4 at *
  have V4 := hide hv4
  clear hv4
  generalize hv5 : wordS 1 ((5 : Nat) : Int) = v5 at *
  have V5 := hide hv5
  clear hv5
  have i0 : ∀ w : World, (Instr.index 65 (.agg #[.string v0, .string v1, .string v2, .string v3, .string v4, .string v5]) (.int .i64 0)).run Tryz.prog w = .ok (.string v0) w := fun _ => by kernel_rfl
  have i1 : ∀ w : World, (Instr.index 65 (.agg #[.string v0, .string v1, .string v2, .string v3, .string v4, .string v5]) (.int .i64 1)).run Tryz.prog w = .ok (.string v1) w := fun _ => by kernel_rfl
  have i2 : ∀ w : World, (Instr.index 65 (.agg #[.string v0, .string v1, .string v2, .string v3, .string v4, .string v5]) (.int .i64 2)).run Tryz.prog w = .ok (.string v2) w := fun _ => by kernel_rfl
  have i3 : ∀ w : World, (Instr.index 65 (.agg #[.string v0, .string v1, .string v2, .string v3, .string v4, .string v5]) (.int .i64 3)).run Tryz.prog w = .ok (.string v3) w := fun _ => by kernel_rfl
  have i4 : ∀ w : World, (Instr.index 65 (.agg #[.string v0, .string v1, .string v2, .string v3, .string v4, .string v5]) (.int .i64 4)).run Tryz.prog w = .ok (.string v4) w := fun _ => by kernel_rfl
  have i5 : ∀ w : World, (Instr.index 65 (.agg #[.string v0, .string v1, .string v2, .string v3, .string v4, .string v5]) (.int .i64 5)).run Tryz.prog w = .ok (.string v5) w := fun _ => by kernel_rfl
  clear hW
  go_enter Tryz.func23, Tryz.ntmps23
  go_wp2
  go_loop [5, 6, 10] (fun _ _ i => ∃ k : Nat, k ≤ 6 ∧ i = .int .i64 k ∧ Hid (∀ j : Nat, j < k → s ≠ wordS 1 j)) (fun _ _ i => 6 - (intOf i).toNat)
  case atStart => exact ⟨0, Nat.zero_le _, rfl, Lib.hid (fun j hj => by omega)⟩
  case round =>
    obtain ⟨k, hk, rfl, hd⟩ := hrel
    clear c0 c1 c2 c3 c4 c5
    have hkk : k = 0 ∨ k = 1 ∨ k = 2 ∨ k = 3 ∨ k = 4 ∨ k = 5 ∨ k = 6 := by omega
    rcases hkk with rfl | rfl | rfl | rfl | rfl | rfl | rfl
    · cases he : (v0.toList == s.toList) with
      | true =>
        have HE := hide (show s = wordS 1 ((0 : Nat) : Int) by rw [unhide V0]; have := he; rw [toList_eq, decide_eq_true_eq] at this; exact this.symm)
        go_wp2
        go_ret
        exact ⟨ret_int (unhide HF 0 (by omega) hd.out (unhide HE)).symm, rfl⟩
      | false =>
        have HE := hide (show s ≠ wordS 1 ((0 : Nat) : Int) by rw [unhide V0]; have := he; rw [toList_eq, decide_eq_false_iff_not] at this; exact fun e => this e.symm)
        go_wp2
        go_round
        case rel => exact ⟨1, by omega, rfl, Lib.hid (fun j hj => by
          by_cases e : j = 0
          · subst e; exact unhide HE
          · exact hd.out j (by omega))⟩
        case measure => simp [intOf]
    · cases he : (v1.toList == s.toList) with
      | true =>
        have HE := hide (show s = wordS 1 ((1 : Nat) : Int) by rw [unhide V1]; have := he; rw [toList_eq, decide_eq_true_eq] at this; exact this.symm)
        go_wp2
        go_ret
        exact ⟨ret_int (unhide HF 1 (by omega) hd.out (unhide HE)).symm, rfl⟩
      | false =>
        have HE := hide (show s ≠ wordS 1 ((1 : Nat) : Int) by rw [unhide V1]; have := he; rw [toList_eq, decide_eq_false_iff_not] at this; exact fun e => this e.symm)
        go_wp2
        go_round
        case rel => exact ⟨2, by omega, rfl, Lib.hid (fun j hj => by
          by_cases e : j = 1
          · subst e; exact unhide HE
          · exact hd.out j (by omega))⟩
        case measure => simp [intOf]
    · cases he : (v2.toList == s.toList) with
      | true =>
        have HE := hide (show s = wordS 1 ((2 : Nat) : Int) by rw [unhide V2]; have := he; rw [toList_eq, decide_eq_true_eq] at this; exact this.symm)
        go_wp2
        go_ret
        exact ⟨ret_int (unhide HF 2 (by omega) hd.out (unhide HE)).symm, rfl⟩
      | false =>
        have HE := hide (show s ≠ wordS 1 ((2 : Nat) : Int) by rw [unhide V2]; have := he; rw [toList_eq, decide_eq_false_iff_not] at this; exact fun e => this e.symm)
        go_wp2
        go_round
        case rel => exact ⟨3, by omega, rfl, Lib.hid (fun j hj => by
          by_cases e : j = 2
          · subst e; exact unhide HE
          · exact hd.out j (by omega))⟩
        case measure => simp [intOf]
    · cases he : (v3.toList == s.toList) with
      | true =>
        have HE := hide (show s = wordS 1 ((3 : Nat) : Int) by rw [unhide V3]; have := he; rw [toList_eq, decide_eq_true_eq] at this; exact this.symm)
        go_wp2
        go_ret
        exact ⟨ret_int (unhide HF 3 (by omega) hd.out (unhide HE)).symm, rfl⟩
      | false =>
        have HE := hide (show s ≠ wordS 1 ((3 : Nat) : Int) by rw [unhide V3]; have := he; rw [toList_eq, decide_eq_false_iff_not] at this; exact fun e => this e.symm)
        go_wp2
        go_round
        case rel => exact ⟨4, by omega, rfl, Lib.hid (fun j hj => by
          by_cases e : j = 3
          · subst e; exact unhide HE
          · exact hd.out j (by omega))⟩
        case measure => simp [intOf]
    · cases he : (v4.toList == s.toList) with
      | true =>
        have HE := hide (show s = wordS 1 ((4 : Nat) : Int) by rw [unhide V4]; have := he; rw [toList_eq, decide_eq_true_eq] at this; exact this.symm)
        go_wp2
        go_ret
        exact ⟨ret_int (unhide HF 4 (by omega) hd.out (unhide HE)).symm, rfl⟩
      | false =>
        have HE := hide (show s ≠ wordS 1 ((4 : Nat) : Int) by rw [unhide V4]; have := he; rw [toList_eq, decide_eq_false_iff_not] at this; exact fun e => this e.symm)
        go_wp2
        go_round
        case rel => exact ⟨5, by omega, rfl, Lib.hid (fun j hj => by
          by_cases e : j = 4
          · subst e; exact unhide HE
          · exact hd.out j (by omega))⟩
        case measure => simp [intOf]
    · cases he : (v5.toList == s.toList) with
      | true =>
        have HE := hide (show s = wordS 1 ((5 : Nat) : Int) by rw [unhide V5]; have := he; rw [toList_eq, decide_eq_true_eq] at this; exact this.symm)
        go_wp2
        go_ret
        exact ⟨ret_int (unhide HF 5 (by omega) hd.out (unhide HE)).symm, rfl⟩
      | false =>
        have HE := hide (show s ≠ wordS 1 ((5 : Nat) : Int) by rw [unhide V5]; have := he; rw [toList_eq, decide_eq_false_iff_not] at this; exact fun e => this e.symm)
        go_wp2
        go_round
        case rel => exact ⟨6, by omega, rfl, Lib.hid (fun j hj => by
          by_cases e : j = 5
          · subst e; exact unhide HE
          · exact hd.out j (by omega))⟩
        case measure => simp [intOf]
    · go_wp2
      go_ret
      exact ⟨ret_int (unhide HN hd.out).symm, rfl⟩


set_option maxHeartbeats 4000000 in
set_option maxRecDepth 100000 in
theorem find_2 (s : ByteArray) (w : World) (hW : Words w) :
    Calls Tryz.prog 23 #[.int .i64 2, .string s] w fun e w' => e = .returned (.int .i64 (findW (wordS 2) (-1) s)) ∧ w = w' := by
  have c0 := hW 2 0 (by omega) (by omega)
  have c1 := hW 2 1 (by omega) (by omega)
  have c2 := hW 2 2 (by omega) (by omega)
  have c3 := hW 2 3 (by omega) (by omega)
  have c4 := hW 2 4 (by omega) (by omega)
  have c5 := hW 2 5 (by omega) (by omega)
  simp only [Nat.reduceMul, Nat.reduceAdd] at c0 c1 c2 c3 c4 c5
  have HF := hide (fun (k : Nat) (h5 : k ≤ 5) hn he => find_at (f := wordS 2) (z := -1) (s := s) (k := k) h5 hn he)
  have HN := hide (fun hn => find_no (f := wordS 2) (z := -1) (s := s) hn)
  generalize hv0 : wordS 2 ((0 : Nat) : Int) = v0 at *
  have V0 := hide hv0
  clear hv0
  generalize hv1 : wordS 2 ((1 : Nat) : Int) = v1 at *
  have V1 := hide hv1
  clear hv1
  generalize hv2 : wordS 2 ((2 : Nat) : Int) = v2 at *
  have V2 := hide hv2
  clear hv2
  generalize hv3 : wordS 2 ((3 : Nat) : Int) = v3 at *
  have V3 := hide hv3
  clear hv3
  generalize hv4 : wordS 2 ((4 : Nat) : Int) = v4 at *
  have V4 := hide hv4
  clear hv4
  generalize hv5 : wordS 2 ((5 : Nat) : Int) = v5 at *
  have V5 := hide hv5
  clear hv5
  have i0 : ∀ w : World, (Instr.index 65 (.agg #[.string v0, .string v1, .string v2, .string v3, .string v4, .string v5]) (.int .i64 0)).run Tryz.prog w = .ok (.string v0) w := fun _ => by kernel_rfl
  have i1 : ∀ w : World, (Instr.index 65 (.agg #[.string v0, .string v1, .string v2, .string v3, .string v4, .string v5]) (.int .i64 1)).run Tryz.prog w = .ok (.string v1) w := fun _ => by kernel_rfl
  have i2 : ∀ w : World, (Instr.index 65 (.agg #[.string v0, .string v1, .string v2, .string v3, .string v4, .string v5]) (.int .i64 2)).run Tryz.prog w = .ok (.string v2) w := fun _ => by kernel_rfl
  have i3 : ∀ w : World, (Instr.index 65 (.agg #[.string v0, .string v1, .string v2, .string v3, .string v4, .string v5]) (.int .i64 3)).run Tryz.prog w = .ok (.string v3) w := fun _ => by kernel_rfl
  have i4 : ∀ w : World, (Instr.index 65 (.agg #[.string v0, .string v1, .string v2, .string v3, .string v4, .string v5]) (.int .i64 4)).run Tryz.prog w = .ok (.string v4) w := fun _ => by kernel_rfl
  have i5 : ∀ w : World, (Instr.index 65 (.agg #[.string v0, .string v1, .string v2, .string v3, .string v4, .string v5]) (.int .i64 5)).run Tryz.prog w = .ok (.string v5) w := fun _ => by kernel_rfl
  clear hW
  go_enter Tryz.func23, Tryz.ntmps23
  go_wp2
  go_loop [5, 6, 10] (fun _ _ i => ∃ k : Nat, k ≤ 6 ∧ i = .int .i64 k ∧ Hid (∀ j : Nat, j < k → s ≠ wordS 2 j)) (fun _ _ i => 6 - (intOf i).toNat)
  case atStart => exact ⟨0, Nat.zero_le _, rfl, Lib.hid (fun j hj => by omega)⟩
  case round =>
    obtain ⟨k, hk, rfl, hd⟩ := hrel
    clear c0 c1 c2 c3 c4 c5
    have hkk : k = 0 ∨ k = 1 ∨ k = 2 ∨ k = 3 ∨ k = 4 ∨ k = 5 ∨ k = 6 := by omega
    rcases hkk with rfl | rfl | rfl | rfl | rfl | rfl | rfl
    · cases he : (v0.toList == s.toList) with
      | true =>
        have HE := hide (show s = wordS 2 ((0 : Nat) : Int) by rw [unhide V0]; have := he; rw [toList_eq, decide_eq_true_eq] at this; exact this.symm)
        go_wp2
        go_ret
        exact ⟨ret_int (unhide HF 0 (by omega) hd.out (unhide HE)).symm, rfl⟩
      | false =>
        have HE := hide (show s ≠ wordS 2 ((0 : Nat) : Int) by rw [unhide V0]; have := he; rw [toList_eq, decide_eq_false_iff_not] at this; exact fun e => this e.symm)
        go_wp2
        go_round
        case rel => exact ⟨1, by omega, rfl, Lib.hid (fun j hj => by
          by_cases e : j = 0
          · subst e; exact unhide HE
          · exact hd.out j (by omega))⟩
        case measure => simp [intOf]
    · cases he : (v1.toList == s.toList) with
      | true =>
        have HE := hide (show s = wordS 2 ((1 : Nat) : Int) by rw [unhide V1]; have := he; rw [toList_eq, decide_eq_true_eq] at this; exact this.symm)
        go_wp2
        go_ret
        exact ⟨ret_int (unhide HF 1 (by omega) hd.out (unhide HE)).symm, rfl⟩
      | false =>
        have HE := hide (show s ≠ wordS 2 ((1 : Nat) : Int) by rw [unhide V1]; have := he; rw [toList_eq, decide_eq_false_iff_not] at this; exact fun e => this e.symm)
        go_wp2
        go_round
        case rel => exact ⟨2, by omega, rfl, Lib.hid (fun j hj => by
          by_cases e : j = 1
          · subst e; exact unhide HE
          · exact hd.out j (by omega))⟩
        case measure => simp [intOf]
    · cases he : (v2.toList == s.toList) with
      | true =>
        have HE := hide (show s = wordS 2 ((2 : Nat) : Int) by rw [unhide V2]; have := he; rw [toList_eq, decide_eq_true_eq] at this; exact this.symm)
        go_wp2
        go_ret
        exact ⟨ret_int (unhide HF 2 (by omega) hd.out (unhide HE)).symm, rfl⟩
      | false =>
        have HE := hide (show s ≠ wordS 2 ((2 : Nat) : Int) by rw [unhide V2]; have := he; rw [toList_eq, decide_eq_false_iff_not] at this; exact fun e => this e.symm)
        go_wp2
        go_round
        case rel => exact ⟨3, by omega, rfl, Lib.hid (fun j hj => by
          by_cases e : j = 2
          · subst e; exact unhide HE
          · exact hd.out j (by omega))⟩
        case measure => simp [intOf]
    · cases he : (v3.toList == s.toList) with
      | true =>
        have HE := hide (show s = wordS 2 ((3 : Nat) : Int) by rw [unhide V3]; have := he; rw [toList_eq, decide_eq_true_eq] at this; exact this.symm)
        go_wp2
        go_ret
        exact ⟨ret_int (unhide HF 3 (by omega) hd.out (unhide HE)).symm, rfl⟩
      | false =>
        have HE := hide (show s ≠ wordS 2 ((3 : Nat) : Int) by rw [unhide V3]; have := he; rw [toList_eq, decide_eq_false_iff_not] at this; exact fun e => this e.symm)
        go_wp2
        go_round
        case rel => exact ⟨4, by omega, rfl, Lib.hid (fun j hj => by
          by_cases e : j = 3
          · subst e; exact unhide HE
          · exact hd.out j (by omega))⟩
        case measure => simp [intOf]
    · cases he : (v4.toList == s.toList) with
      | true =>
        have HE := hide (show s = wordS 2 ((4 : Nat) : Int) by rw [unhide V4]; have := he; rw [toList_eq, decide_eq_true_eq] at this; exact this.symm)
        go_wp2
        go_ret
        exact ⟨ret_int (unhide HF 4 (by omega) hd.out (unhide HE)).symm, rfl⟩
      | false =>
        have HE := hide (show s ≠ wordS 2 ((4 : Nat) : Int) by rw [unhide V4]; have := he; rw [toList_eq, decide_eq_false_iff_not] at this; exact fun e => this e.symm)
        go_wp2
        go_round
        case rel => exact ⟨5, by omega, rfl, Lib.hid (fun j hj => by
          by_cases e : j = 4
          · subst e; exact unhide HE
          · exact hd.out j (by omega))⟩
        case measure => simp [intOf]
    · cases he : (v5.toList == s.toList) with
      | true =>
        have HE := hide (show s = wordS 2 ((5 : Nat) : Int) by rw [unhide V5]; have := he; rw [toList_eq, decide_eq_true_eq] at this; exact this.symm)
        go_wp2
        go_ret
        exact ⟨ret_int (unhide HF 5 (by omega) hd.out (unhide HE)).symm, rfl⟩
      | false =>
        have HE := hide (show s ≠ wordS 2 ((5 : Nat) : Int) by rw [unhide V5]; have := he; rw [toList_eq, decide_eq_false_iff_not] at this; exact fun e => this e.symm)
        go_wp2
        go_round
        case rel => exact ⟨6, by omega, rfl, Lib.hid (fun j hj => by
          by_cases e : j = 5
          · subst e; exact unhide HE
          · exact hd.out j (by omega))⟩
        case measure => simp [intOf]
    · go_wp2
      go_ret
      exact ⟨ret_int (unhide HN hd.out).symm, rfl⟩


set_option maxHeartbeats 4000000 in
set_option maxRecDepth 100000 in
theorem find_3 (s : ByteArray) (w : World) (hW : Words w) :
    Calls Tryz.prog 23 #[.int .i64 3, .string s] w fun e w' => e = .returned (.int .i64 (findW (wordS 3) (-1) s)) ∧ w = w' := by
  have c0 := hW 3 0 (by omega) (by omega)
  have c1 := hW 3 1 (by omega) (by omega)
  have c2 := hW 3 2 (by omega) (by omega)
  have c3 := hW 3 3 (by omega) (by omega)
  have c4 := hW 3 4 (by omega) (by omega)
  have c5 := hW 3 5 (by omega) (by omega)
  simp only [Nat.reduceMul, Nat.reduceAdd] at c0 c1 c2 c3 c4 c5
  have HF := hide (fun (k : Nat) (h5 : k ≤ 5) hn he => find_at (f := wordS 3) (z := -1) (s := s) (k := k) h5 hn he)
  have HN := hide (fun hn => find_no (f := wordS 3) (z := -1) (s := s) hn)
  generalize hv0 : wordS 3 ((0 : Nat) : Int) = v0 at *
  have V0 := hide hv0
  clear hv0
  generalize hv1 : wordS 3 ((1 : Nat) : Int) = v1 at *
  have V1 := hide hv1
  clear hv1
  generalize hv2 : wordS 3 ((2 : Nat) : Int) = v2 at *
  have V2 := hide hv2
  clear hv2
  generalize hv3 : wordS 3 ((3 : Nat) : Int) = v3 at *
  have V3 := hide hv3
  clear hv3
  generalize hv4 : wordS 3 ((4 : Nat) : Int) = v4 at *
  have V4 := hide hv4
  clear hv4
  generalize hv5 : wordS 3 ((5 : Nat) : Int) = v5 at *
  have V5 := hide hv5
  clear hv5
  have i0 : ∀ w : World, (Instr.index 65 (.agg #[.string v0, .string v1, .string v2, .string v3, .string v4, .string v5]) (.int .i64 0)).run Tryz.prog w = .ok (.string v0) w := fun _ => by kernel_rfl
  have i1 : ∀ w : World, (Instr.index 65 (.agg #[.string v0, .string v1, .string v2, .string v3, .string v4, .string v5]) (.int .i64 1)).run Tryz.prog w = .ok (.string v1) w := fun _ => by kernel_rfl
  have i2 : ∀ w : World, (Instr.index 65 (.agg #[.string v0, .string v1, .string v2, .string v3, .string v4, .string v5]) (.int .i64 2)).run Tryz.prog w = .ok (.string v2) w := fun _ => by kernel_rfl
  have i3 : ∀ w : World, (Instr.index 65 (.agg #[.string v0, .string v1, .string v2, .string v3, .string v4, .string v5]) (.int .i64 3)).run Tryz.prog w = .ok (.string v3) w := fun _ => by kernel_rfl
  have i4 : ∀ w : World, (Instr.index 65 (.agg #[.string v0, .string v1, .string v2, .string v3, .string v4, .string v5]) (.int .i64 4)).run Tryz.prog w = .ok (.string v4) w := fun _ => by kernel_rfl
  have i5 : ∀ w : World, (Instr.index 65 (.agg #[.string v0, .string v1, .string v2, .string v3, .string v4, .string v5]) (.int .i64 5)).run Tryz.prog w = .ok (.string v5) w := fun _ => by kernel_rfl
  clear hW
  go_enter Tryz.func23, Tryz.ntmps23
  go_wp2
  go_loop [5, 6, 10] (fun _ _ i => ∃ k : Nat, k ≤ 6 ∧ i = .int .i64 k ∧ Hid (∀ j : Nat, j < k → s ≠ wordS 3 j)) (fun _ _ i => 6 - (intOf i).toNat)
  case atStart => exact ⟨0, Nat.zero_le _, rfl, Lib.hid (fun j hj => by omega)⟩
  case round =>
    obtain ⟨k, hk, rfl, hd⟩ := hrel
    clear c0 c1 c2 c3 c4 c5
    have hkk : k = 0 ∨ k = 1 ∨ k = 2 ∨ k = 3 ∨ k = 4 ∨ k = 5 ∨ k = 6 := by omega
    rcases hkk with rfl | rfl | rfl | rfl | rfl | rfl | rfl
    · cases he : (v0.toList == s.toList) with
      | true =>
        have HE := hide (show s = wordS 3 ((0 : Nat) : Int) by rw [unhide V0]; have := he; rw [toList_eq, decide_eq_true_eq] at this; exact this.symm)
        go_wp2
        go_ret
        exact ⟨ret_int (unhide HF 0 (by omega) hd.out (unhide HE)).symm, rfl⟩
      | false =>
        have HE := hide (show s ≠ wordS 3 ((0 : Nat) : Int) by rw [unhide V0]; have := he; rw [toList_eq, decide_eq_false_iff_not] at this; exact fun e => this e.symm)
        go_wp2
        go_round
        case rel => exact ⟨1, by omega, rfl, Lib.hid (fun j hj => by
          by_cases e : j = 0
          · subst e; exact unhide HE
          · exact hd.out j (by omega))⟩
        case measure => simp [intOf]
    · cases he : (v1.toList == s.toList) with
      | true =>
        have HE := hide (show s = wordS 3 ((1 : Nat) : Int) by rw [unhide V1]; have := he; rw [toList_eq, decide_eq_true_eq] at this; exact this.symm)
        go_wp2
        go_ret
        exact ⟨ret_int (unhide HF 1 (by omega) hd.out (unhide HE)).symm, rfl⟩
      | false =>
        have HE := hide (show s ≠ wordS 3 ((1 : Nat) : Int) by rw [unhide V1]; have := he; rw [toList_eq, decide_eq_false_iff_not] at this; exact fun e => this e.symm)
        go_wp2
        go_round
        case rel => exact ⟨2, by omega, rfl, Lib.hid (fun j hj => by
          by_cases e : j = 1
          · subst e; exact unhide HE
          · exact hd.out j (by omega))⟩
        case measure => simp [intOf]
    · cases he : (v2.toList == s.toList) with
      | true =>
        have HE := hide (show s = wordS 3 ((2 : Nat) : Int) by rw [unhide V2]; have := he; rw [toList_eq, decide_eq_true_eq] at this; exact this.symm)
        go_wp2
        go_ret
        exact ⟨ret_int (unhide HF 2 (by omega) hd.out (unhide HE)).symm, rfl⟩
      | false =>
        have HE := hide (show s ≠ wordS 3 ((2 : Nat) : Int) by rw [unhide V2]; have := he; rw [toList_eq, decide_eq_false_iff_not] at this; exact fun e => this e.symm)
        go_wp2
        go_round
        case rel => exact ⟨3, by omega, rfl, Lib.hid (fun j hj => by
          by_cases e : j = 2
          · subst e; exact unhide HE
          · exact hd.out j (by omega))⟩
        case measure => simp [intOf]
    · cases he : (v3.toList == s.toList) with
      | true =>
        have HE := hide (show s = wordS 3 ((3 : Nat) : Int) by rw [unhide V3]; have := he; rw [toList_eq, decide_eq_true_eq] at this; exact this.symm)
        go_wp2
        go_ret
        exact ⟨ret_int (unhide HF 3 (by omega) hd.out (unhide HE)).symm, rfl⟩
      | false =>
        have HE := hide (show s ≠ wordS 3 ((3 : Nat) : Int) by rw [unhide V3]; have := he; rw [toList_eq, decide_eq_false_iff_not] at this; exact fun e => this e.symm)
        go_wp2
        go_round
        case rel => exact ⟨4, by omega, rfl, Lib.hid (fun j hj => by
          by_cases e : j = 3
          · subst e; exact unhide HE
          · exact hd.out j (by omega))⟩
        case measure => simp [intOf]
    · cases he : (v4.toList == s.toList) with
      | true =>
        have HE := hide (show s = wordS 3 ((4 : Nat) : Int) by rw [unhide V4]; have := he; rw [toList_eq, decide_eq_true_eq] at this; exact this.symm)
        go_wp2
        go_ret
        exact ⟨ret_int (unhide HF 4 (by omega) hd.out (unhide HE)).symm, rfl⟩
      | false =>
        have HE := hide (show s ≠ wordS 3 ((4 : Nat) : Int) by rw [unhide V4]; have := he; rw [toList_eq, decide_eq_false_iff_not] at this; exact fun e => this e.symm)
        go_wp2
        go_round
        case rel => exact ⟨5, by omega, rfl, Lib.hid (fun j hj => by
          by_cases e : j = 4
          · subst e; exact unhide HE
          · exact hd.out j (by omega))⟩
        case measure => simp [intOf]
    · cases he : (v5.toList == s.toList) with
      | true =>
        have HE := hide (show s = wordS 3 ((5 : Nat) : Int) by rw [unhide V5]; have := he; rw [toList_eq, decide_eq_true_eq] at this; exact this.symm)
        go_wp2
        go_ret
        exact ⟨ret_int (unhide HF 5 (by omega) hd.out (unhide HE)).symm, rfl⟩
      | false =>
        have HE := hide (show s ≠ wordS 3 ((5 : Nat) : Int) by rw [unhide V5]; have := he; rw [toList_eq, decide_eq_false_iff_not] at this; exact fun e => this e.symm)
        go_wp2
        go_round
        case rel => exact ⟨6, by omega, rfl, Lib.hid (fun j hj => by
          by_cases e : j = 5
          · subst e; exact unhide HE
          · exact hd.out j (by omega))⟩
        case measure => simp [intOf]
    · go_wp2
      go_ret
      exact ⟨ret_int (unhide HN hd.out).symm, rfl⟩

end Go.Proofs.YtglgobmmmghdoaaGreatDoor
