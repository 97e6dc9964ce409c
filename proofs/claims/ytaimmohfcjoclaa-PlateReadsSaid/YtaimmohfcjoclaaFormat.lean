/-
  Contracts of Format (both): the text of a plate.
-/
import Derived.Test.YtaimmohfcjoclaaDigits
import Derived.StillTailTactics
import Derived.Deep.RegionHeld3
import Derived.BigQuiet
namespace Go.Proofs.Ytaimmohfcjoclaa
open Go.RowKit

theorem digits10 (n : Int) (w : World) (hn : 0 ≤ n) (hn2 : n ≤ 1000000000000) :
    Calls Try.prog 62 #[.int .i64 n, .int .i64 10] w fun e w' => e = .returned (.string (strOfNums (dgs n 10))) ∧ Below w.heap.size w w' :=
  digits_any n 10 w hn hn2 (by omega) (by omega)

/-- The cells of a boxed plate, in a later world. -/
theorem box_cells {w w1 : World} {l a s : Int} {t : TypeId} (hb : Below (w.alloc (.cells #[.int .i64 l, .int .i64 a, .int .i64 s] t)).heap.size (w.alloc (.cells #[.int .i64 l, .int .i64 a, .int .i64 s] t)) w1) :
    w1.cell? ⟨w.heap.size, 0, none⟩ = some (.int .i64 l) ∧ w1.cell? ⟨w.heap.size, 1, none⟩ = some (.int .i64 a) ∧ w1.cell? ⟨w.heap.size, 2, none⟩ = some (.int .i64 s) := by
  refine ⟨?_, ?_, ?_⟩ <;> (rw [hb.cell (by simp)]; simp [go_sem])

theorem num_bd {l a s : Int} (h : vld l a s = true) : 0 ≤ num l a s ∧ num l a s ≤ 1000000000000 := by
  obtain ⟨h1, h2, h3, h4, h5, h6⟩ := vld_iff.1 h
  unfold num; omega

/-- What a call that boxes its plate, and then calls others, has left of the world. -/
theorem boxed {w w1 : World} {o : Obj} (hb : Below (w.alloc o).heap.size (w.alloc o) w1) : Below w.heap.size w w1 :=
  ((Below.refl _ _).alloc (Nat.le_refl _) o).trans (hb.mono (by simp))
theorem onward {w w1 w2 : World} (h : Below w.heap.size w w1) (k : Below w1.heap.size w1 w2) : Below w.heap.size w w2 := h.trans (k.mono h.size)

set_option maxHeartbeats 400000 in
theorem rformat_any (l a s : Int) (w : World) :
    Calls Try.prog 22 #[.agg #[.int .i64 l, .int .i64 a, .int .i64 s]] w fun e w' => e = .returned (.string (txt l a s)) ∧ Below w.heap.size w w' := by
  cases hv : vld l a s with
  | false =>
    go_enter Try.func22, Try.ntmps22
    go_wp2_with (go_at_call 20; refine (rvalid_any l a s _).mono ?_; rintro e w1 ⟨rfl, hb1⟩)
    go_ret
    exact ⟨ret_str (by unfold txt; rw [hv]; rfl), boxed hb1⟩
  | true =>
    obtain ⟨hn1, hn2⟩ := num_bd hv
    go_enter Try.func22, Try.ntmps22
    go_wp2_with (first | (go_at_call 20; refine (rvalid_any l a s _).mono ?_; rintro e w1 ⟨rfl, hb1⟩; obtain ⟨hc0, hc1, hc2⟩ := box_cells hb1) | (go_at_call 63; refine (number_any l a s _ hv).mono ?_; rintro e w2 ⟨rfl, hb2⟩) | (go_at_call 62; refine (digits10 _ _ hn1 hn2).mono ?_; rintro e w3 ⟨rfl, hb3⟩))
    go_ret
    exact ⟨ret_str (by unfold txt; rw [hv]; rfl), onward (onward (boxed hb1) hb2) hb3⟩

theorem array_row {w1 : World} (t : TypeId) :
    (w1.alloc (.cells #[.int .u8 0, .int .u8 0, .int .u8 0, .int .u8 0, .int .u8 0, .int .u8 0, .int .u8 0, .int .u8 0, .int .u8 0, .int .u8 0] t)).rowIs w1.heap.size t 10 (u8f fun _ => 0) :=
  World.rowIs_alloc _ _ _ _ fun i hi => by
    have : i < 10 := hi
    match i, this with
    | 0, _ | 1, _ | 2, _ | 3, _ | 4, _ | 5, _ | 6, _ | 7, _ | 8, _ | 9, _ => rfl

theorem World.grownBy.trans_drew {a w : World} {row : Option Nat} (h : a.grownBy w row) : a.grownBy w.drew row := ⟨h.os, h.tape, h.output, h.size, h.block⟩

theorem text_at {l a s : Int} (h : vld l a s = true) (i : Nat) (hi : i < 10) : wrd (wrd (wrd (fun _ => 0) 0 1 l 1) 1 3 a 3) 4 6 s 6 i = (dgs (num l a s) 10).getD i 0 := by
  obtain ⟨h1, h2, h3, h4, h5, h6⟩ := vld_iff.1 h
  rw [dgs_at _ _ i hi]
  unfold num
  match i, hi with
  | 0, _ | 1, _ | 2, _ | 3, _ | 4, _ | 5, _ | 6, _ | 7, _ | 8, _ | 9, _ => simp [wrd]; omega

theorem conv_text {l a s : Int} (h : vld l a s = true) {wr : World} {b : Nat} {t : TypeId} {cap : Nat} (hr : wr.rowIs b t 10 (u8f (wrd (wrd (wrd (fun _ => 0) 0 1 l 1) 1 3 a 3) 4 6 s 6))) :
    (convert 48 9 (.slice (some ⟨b, 0, none⟩) 10 cap)).run Try.prog wr = .ok (.string (txt l a s)) wr := by
  have e : txt l a s = strOfNums (dgs (num l a s) 10) := by unfold txt; rw [h]; rfl
  rw [e]
  refine run_convert_bytes_arg (P := Try.prog) wr 48 5 Try.underlying48 Try.underlying5 b 0 10 cap (dgs (num l a s) 10) (dgs_length _ _) (fun i hi => ?_) 9 Try.underlying9
  rw [Nat.zero_add, hr.cell (by omega), ← text_at h i hi]
  rfl

set_option maxHeartbeats 1000000 in
theorem format_any (l a s : Int) (w : World) :
    Calls Try.prog 21 #[.agg #[.int .i64 l, .int .i64 a, .int .i64 s]] w fun e w' => e = .returned (.string (txt l a s)) ∧ Below w.heap.size w w' := by
  cases hv : vld l a s with
  | false =>
    go_enter Try.func21, Try.ntmps21
    go_wp2_with (go_at_call 19; refine (valid_any l a s _).mono ?_; rintro e w1 ⟨rfl, hb1⟩)
    go_ret
    exact ⟨ret_str (by unfold txt; rw [hv]; rfl), boxed hb1⟩
  | true =>
    obtain ⟨h1, h2, h3, h4, h5, h6⟩ := vld_iff.1 hv
    go_enter Try.func21, Try.ntmps21
    go_wp2_with (first | (go_at_call 19; refine (valid_any l a s _).mono ?_; rintro e w1 ⟨rfl, hb1⟩; obtain ⟨hc0, hc1, hc2⟩ := box_cells hb1))
    have hz1 : w.heap.size < w1.heap.size := by have := hb1.size; simp at this; omega
    have HB := Lib.hid (boxed hb1)
    have hr := array_row (w1 := w1) 74
    have hg := World.grownBy_alloc w1 (.cells #[.int .u8 0, .int .u8 0, .int .u8 0, .int .u8 0, .int .u8 0, .int .u8 0, .int .u8 0, .int .u8 0, .int .u8 0, .int .u8 0] 74) (some w1.heap.size)
    rw [← World.cell?_alloc_lt w1 (.cells #[.int .u8 0, .int .u8 0, .int .u8 0, .int .u8 0, .int .u8 0, .int .u8 0, .int .u8 0, .int .u8 0, .int .u8 0, .int .u8 0] 74) _ hz1] at hc0 hc1 hc2
    clear hb1
    generalize w1.alloc (.cells #[.int .u8 0, .int .u8 0, .int .u8 0, .int .u8 0, .int .u8 0, .int .u8 0, .int .u8 0, .int .u8 0, .int .u8 0, .int .u8 0] 74) = w2 at *
    generalize hB : w1.heap.size = B at *
    have HBB := Lib.hid hB
    clear hB
    have hne : some w.heap.size ≠ some B := by simp; omega
    go_region_held3 (fun x => x.cell? ⟨w.heap.size, 0, none⟩ = some (.int .i64 l) ∧ x.cell? ⟨w.heap.size, 1, none⟩ = some (.int .i64 a) ∧ x.cell? ⟨w.heap.size, 2, none⟩ = some (.int .i64 s)) (first | exact ⟨hc0, hc1, hc2⟩ | exact ⟨hd0, hd1, hd2⟩)
      (first | (go_at_call 61; refine (write_any B 0 1 10 l (fun _ => 0) 74 10 _ (by omega) (by omega) (by exact hr.drew) (by omega) (by omega) (by omega)).mono ?_; rintro e w3 ⟨rfl, hr3, hg3⟩; have hd0 := hg3.cell (v := .int .i64 l) (a := ⟨w.heap.size, 0, none⟩) hc0 hne; have hd1 := hg3.cell (v := .int .i64 a) (a := ⟨w.heap.size, 1, none⟩) hc1 hne; have hd2 := hg3.cell (v := .int .i64 s) (a := ⟨w.heap.size, 2, none⟩) hc2 hne))
    have hg3' := Lib.grownBy_trans (World.grownBy.trans_drew hg) hg3
    clear hc0 hc1 hc2 hr hg hg3
    go_wp2_with fail
    go_region_held3 (fun x => x.cell? ⟨w.heap.size, 0, none⟩ = some (.int .i64 l) ∧ x.cell? ⟨w.heap.size, 1, none⟩ = some (.int .i64 a) ∧ x.cell? ⟨w.heap.size, 2, none⟩ = some (.int .i64 s)) (first | exact ⟨hd0, hd1, hd2⟩ | exact ⟨hc0, hc1, hc2⟩)
      (first | (go_at_call 61; refine (write_any B 1 3 9 a _ 74 10 _ (by omega) (by omega) (by exact hr3.drew) (by omega) (by omega) (by omega)).mono ?_; rintro e w4 ⟨rfl, hr4, hg4⟩; have hc0 := hg4.cell (v := .int .i64 l) (a := ⟨w.heap.size, 0, none⟩) hd0 hne; have hc1 := hg4.cell (v := .int .i64 a) (a := ⟨w.heap.size, 1, none⟩) hd1 hne; have hc2 := hg4.cell (v := .int .i64 s) (a := ⟨w.heap.size, 2, none⟩) hd2 hne))
    have hg4' := Lib.grownBy_trans (World.grownBy.trans_drew hg3') hg4
    clear hd0 hd1 hd2 hr3 hg3' hg4
    go_wp2_with fail
    go_region_held3 (fun x => x.cell? ⟨w.heap.size, 0, none⟩ = some (.int .i64 l) ∧ x.cell? ⟨w.heap.size, 1, none⟩ = some (.int .i64 a) ∧ x.cell? ⟨w.heap.size, 2, none⟩ = some (.int .i64 s)) (first | exact ⟨hc0, hc1, hc2⟩ | exact ⟨hd0, hd1, hd2⟩)
      (first | (go_at_call 61; refine (write_any B 4 6 6 s _ 74 10 _ (by omega) (by omega) (by exact hr4.drew) (by omega) (by omega) (by omega)).mono ?_; rintro e w5 ⟨rfl, hr5, hg5⟩; have hd0 := hg5.cell (v := .int .i64 l) (a := ⟨w.heap.size, 0, none⟩) hc0 hne; have hd1 := hg5.cell (v := .int .i64 a) (a := ⟨w.heap.size, 1, none⟩) hc1 hne; have hd2 := hg5.cell (v := .int .i64 s) (a := ⟨w.heap.size, 2, none⟩) hc2 hne))
    have hg5' := Lib.grownBy_trans (World.grownBy.trans_drew hg4') hg5
    clear hc0 hc1 hc2 hd0 hd1 hd2 hr4 hg4' hg5
    have hcv := conv_text (cap := 10) hv hr5
    clear hr5
    go_wp2
    go_ret
    refine ⟨rfl, (HB.out.trans ⟨hg5'.os, hg5'.tape, hg5'.output, hg5'.size, fun k hk => hg5'.block k ?_ ?_⟩)⟩
    · have := HB.out.size; omega
    · simp; omega
end Go.Proofs.Ytaimmohfcjoclaa
