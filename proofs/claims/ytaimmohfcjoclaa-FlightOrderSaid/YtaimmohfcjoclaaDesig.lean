/-
  Contracts of Designator and Format of a flight (the program's).
-/
import Derived.Test.YtaimmohfcjoclaaFlight
import Derived.Test.YtaimmohfcjoclaaDigits
import Derived.StillTailTactics
import Derived.Deep.RegionHeld3
namespace Go.Proofs.Ytaimmohfcjoclaa
open Go.RowKit

/-- The four cells of a boxed flight. -/
def Four (w : World) (b : Nat) (c : ByteArray) (n : Int) (s : ByteArray) (d : Int) : Prop := w.cell? ⟨b, 0, none⟩ = some (.string c) ∧ w.cell? ⟨b, 1, none⟩ = some (.int .i64 n) ∧ w.cell? ⟨b, 2, none⟩ = some (.string s) ∧ w.cell? ⟨b, 3, none⟩ = some (.int .i64 d)
theorem Four.keep {w w1 : World} {b : Nat} {c s : ByteArray} {n d : Int} (h : Four w b c n s d) (hb : Below w.heap.size w w1) : Four w1 b c n s d := ⟨kept hb h.1, kept hb h.2.1, kept hb h.2.2.1, kept hb h.2.2.2⟩
theorem Four.new (w : World) (c : ByteArray) (n : Int) (s : ByteArray) (d : Int) (t : TypeId) : Four (w.alloc (.cells #[.string c, .int .i64 n, .string s, .int .i64 d] t)) w.heap.size c n s d := ⟨by simp [go_sem], by simp [go_sem], by simp [go_sem], by simp [go_sem]⟩
theorem Four.alloc {w : World} {b : Nat} {c s : ByteArray} {n d : Int} (h : Four w b c n s d) (o : Obj) : Four (w.alloc o) b c n s d := h.keep ((Below.refl _ _).alloc (Nat.le_refl _) o)
theorem Four.drew {w : World} {b : Nat} {c s : ByteArray} {n d : Int} (h : Four w b c n s d) : Four w.drew b c n s d := h
theorem Four.grown {w w1 : World} {b B : Nat} {c s : ByteArray} {n d : Int} (h : Four w b c n s d) (hg : w.grownBy w1 (some B)) (hne : some b ≠ some B) : Four w1 b c n s d :=
  ⟨hg.cell h.1 hne, hg.cell h.2.1 hne, hg.cell h.2.2.1 hne, hg.cell h.2.2.2 hne⟩

theorem array4_row {w1 : World} (t : TypeId) : (w1.alloc (.cells #[.int .u8 0, .int .u8 0, .int .u8 0, .int .u8 0] t)).rowIs w1.heap.size t 4 (u8f fun _ => 0) :=
  World.rowIs_alloc _ _ _ _ fun i hi => by
    have : i < 4 := hi
    match i, this with
    | 0, _ | 1, _ | 2, _ | 3, _ => rfl
theorem array2_row {w1 : World} (t : TypeId) : (w1.alloc (.cells #[.int .u8 0, .int .u8 0] t)).rowIs w1.heap.size t 2 (u8f fun _ => 0) :=
  World.rowIs_alloc _ _ _ _ fun i hi => by
    have : i < 2 := hi
    match i, this with
    | 0, _ | 1, _ => rfl
theorem conv_after {W : World} {b : Nat} {t : TypeId} {n : Int} {K cap : Nat} {g : Nat → Int} (hr : W.rowIs b t K (u8f (wrd g 0 K n K))) (x : After W) :
    (convert 48 9 (.slice (some ⟨b, 0, none⟩) K cap)).run Try.prog x.to = .ok (.string (strOfNums (dgs n K))) x.to := by
  refine run_convert_bytes_arg (P := Try.prog) x.to 48 5 Try.underlying48 Try.underlying5 b 0 K cap (dgs n K) (dgs_length _ _) (fun i hi => ?_) 9 Try.underlying9
  rw [kept x.is (hr.cell (i := 0 + i) (by omega)), dgs_at n K i hi]
  unfold u8f wrd
  rw [if_pos (by omega), show 0 + K - 1 - (0 + i) = K - 1 - i by omega]

set_option maxHeartbeats 1000000 in
theorem fdes_any (c : ByteArray) (n : Int) (s : ByteArray) (d : Int) (w : World) :
    Calls Try.prog 46 #[.agg #[.string c, .int .i64 n, .string s, .int .i64 d]] w fun e w' => e = .returned (.string (fdes c n s d)) ∧ Below w.heap.size w w' := by
  cases hv : fvl c n s d with
  | false =>
    go_enter Try.func46, Try.ntmps46
    go_wp2_with (go_at_call 44; refine (fvalid_any c n s d _).mono ?_; rintro e w1 ⟨rfl, hb1⟩)
    go_ret
    exact ⟨ret_str (fdes_no hv).symm, boxed hb1⟩
  | true =>
    obtain ⟨h1, ⟨h2, h3⟩, h4, h5, h6⟩ := fvl_iff.1 hv
    obtain ⟨z1, z2⟩ := fvl_sizes hv
    rw [fdes_yes hv]
    have zD : (strOfNums (dgs n 4)).size = 4 := by rw [strOfNums_size, dgs_length]
    generalize hD : strOfNums (dgs n 4) = D at *
    have HDE := Lib.hid hD
    clear hD
    go_enter Try.func46, Try.ntmps46
    go_wp2_with (first | (go_at_call 44; refine (fvalid_any c n s d _).mono ?_; rintro e w1 ⟨rfl, hb1⟩; have F := (Four.new w c n s d _).keep hb1))
    have hz1 : w.heap.size < w1.heap.size := by have := hb1.size; simp at this; omega
    have HB := Lib.hid (boxed hb1)
    have hr := array4_row (w1 := w1) 82
    have hg := World.grownBy_alloc w1 (.cells #[.int .u8 0, .int .u8 0, .int .u8 0, .int .u8 0] 82) (some w1.heap.size)
    have F2 := F.alloc (.cells #[.int .u8 0, .int .u8 0, .int .u8 0, .int .u8 0] 82)
    clear hb1 F
    generalize w1.alloc (.cells #[.int .u8 0, .int .u8 0, .int .u8 0, .int .u8 0] 82) = w2 at *
    generalize hB : w1.heap.size = B at *
    have HBB := Lib.hid hB
    clear hB
    have hne : some w.heap.size ≠ some B := by simp; omega
    obtain ⟨c0, c1, c2, c3⟩ := id F2
    go_region_held3 (fun x => x.cell? ⟨w.heap.size, 1, none⟩ = some (.int .i64 n)) (first | exact c1 | exact k1)
      (first | (go_at_call 61; refine (write_any B 0 4 4 n (fun _ => 0) 82 4 _ (by omega) (by omega) (by exact hr.drew) (by omega) (by omega) (by omega)).mono ?_; rintro e w3 ⟨rfl, hr3, hg3⟩; have k1 := (F2.drew.grown hg3 hne).2.1))
    have F3 := F2.drew.grown hg3 hne
    have hg3' := Lib.grownBy_trans (World.grownBy.trans_drew hg) hg3
    clear c0 c1 c2 c3 hr hg hg3 F2
    obtain ⟨k0, _, k2, _⟩ := F3
    go_wp2_with fail
    have m0 := After.cell k0
    have m2 := After.cell k2
    have hcv := conv_after (cap := 4) hr3
    rw [HDE.out] at hcv
    refine wp_region_after (by kernel_rfl) (by kernel_rfl) ?_
    repeat (go_big_quiet_step (fail))
    refine wpQuiet_nil ?_
    rintro _ ⟨t, rfl⟩
    go_wp2
    go_ret
    exact ⟨rfl, onward (HB.out.trans ⟨hg3'.os, hg3'.tape, hg3'.output, hg3'.size, fun k hk => hg3'.block k (by have := HB.out.size; omega) (by simp; omega)⟩) t.is⟩

set_option maxHeartbeats 1000000 in
theorem fformat_any (c : ByteArray) (n : Int) (s : ByteArray) (d : Int) (w : World) :
    Calls Try.prog 48 #[.agg #[.string c, .int .i64 n, .string s, .int .i64 d]] w fun e w' => e = .returned (.string (ftxt c n s d)) ∧ Below w.heap.size w w' := by
  cases hv : fvl c n s d with
  | false =>
    go_enter Try.func48, Try.ntmps48
    go_wp2_with (go_at_call 44; refine (fvalid_any c n s d _).mono ?_; rintro e w1 ⟨rfl, hb1⟩)
    go_ret
    exact ⟨ret_str (ftxt_no hv).symm, boxed hb1⟩
  | true =>
    obtain ⟨h1, ⟨h2, h3⟩, h4, h5, h6⟩ := fvl_iff.1 hv
    obtain ⟨z1, z2⟩ := fdes_size hv
    rw [ftxt_yes hv]
    have zD : (strOfNums (dgs d 2)).size = 2 := by rw [strOfNums_size, dgs_length]
    generalize hD : strOfNums (dgs d 2) = D at *
    have HDE := Lib.hid hD
    clear hD
    have hde := fun W => fdes_any c n s d W
    generalize fdes c n s d = X at *
    have HD := hide hde
    clear hde
    go_enter Try.func48, Try.ntmps48
    go_wp2_with (first | (go_at_call 44; refine (fvalid_any c n s d _).mono ?_; rintro e w1 ⟨rfl, hb1⟩; have F := (Four.new w c n s d _).keep hb1))
    have hz1 : w.heap.size < w1.heap.size := by have := hb1.size; simp at this; omega
    have HB := Lib.hid (boxed hb1)
    have hr := array2_row (w1 := w1) 83
    have hg := World.grownBy_alloc w1 (.cells #[.int .u8 0, .int .u8 0] 83) (some w1.heap.size)
    have F2 := F.alloc (.cells #[.int .u8 0, .int .u8 0] 83)
    clear hb1 F
    generalize w1.alloc (.cells #[.int .u8 0, .int .u8 0] 83) = w2 at *
    generalize hB : w1.heap.size = B at *
    have HBB := Lib.hid hB
    clear hB
    have hne : some w.heap.size ≠ some B := by simp; omega
    obtain ⟨c0, c1, c2, c3⟩ := id F2
    go_region_held3 (fun x => x.cell? ⟨w.heap.size, 3, none⟩ = some (.int .i64 d)) (first | exact c3 | exact k1)
      (first | (go_at_call 61; refine (write_any B 0 2 2 d (fun _ => 0) 83 2 _ (by omega) (by omega) (by exact hr.drew) (by omega) (by omega) (by omega)).mono ?_; rintro e w3 ⟨rfl, hr3, hg3⟩; have k1 := (F2.drew.grown hg3 hne).2.2.2))
    have F3 := F2.drew.grown hg3 hne
    have hg3' := Lib.grownBy_trans (World.grownBy.trans_drew hg) hg3
    clear c0 c1 c2 c3 hr hg hg3 F2
    obtain ⟨k0, k3, k2, k4⟩ := F3
    go_wp2_with fail
    have m0 := After.cell k0
    have m1 := After.cell k3
    have m2 := After.cell k2
    have m3 := After.cell k4
    have hcv := conv_after (cap := 2) hr3
    rw [HDE.out] at hcv
    refine wp_region_after (by kernel_rfl) (by kernel_rfl) ?_
    repeat (go_big_quiet_step ((first | (go_at_call 46; exact After.call (unhide HD _)))))
    refine wpQuiet_nil ?_
    rintro _ ⟨t, rfl⟩
    go_wp2
    go_ret
    exact ⟨rfl, onward (HB.out.trans ⟨hg3'.os, hg3'.tape, hg3'.output, hg3'.size, fun k hk => hg3'.block k (by have := HB.out.size; omega) (by simp; omega)⟩) t.is⟩
end Go.Proofs.Ytaimmohfcjoclaa
