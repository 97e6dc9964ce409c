/-
  Flights: plain mathematics, contracts of Valid, Designator, Format, Compare, ports and legs (both), strings.Cut at a slash.
-/
import Derived.Test.YtglgobmmmghdoaaGreatDoorLibA
import Derived.Sort.Walk0
import Derived.StillTailTactics
import Derived.Deep.RegionHeld3
import Derived.Lib.IndexLaws
import Derived.Lib.Bytealg
import Derived.Laws.StandIn
import Derived.BigCall
import Derived.BigQuiet

/- MathF: Plain mathematics for the flights: valid parts, texts, the order. -/
namespace Go.Proofs.YtglgobmmmghdoaaGreatDoor

/-- A carrier; a suffix; a valid flight; its designator and its text. -/
def carB (s : ByteArray) : Bool := decide (s.size = 2) && ((isLe (bat s 0) || isD (bat s 0)) && (isLe (bat s 1) || isD (bat s 1)) && (isLe (bat s 0) || isLe (bat s 1)))
def sufB (s : ByteArray) : Bool := s.toList.isEmpty || letN s 1
def fvl (c : ByteArray) (n : Int) (s : ByteArray) (d : Int) : Bool := carB c && (decide (1 ≤ n ∧ n ≤ 9999) && (sufB s && decide (0 ≤ d ∧ d ≤ 99)))
def fdes (c : ByteArray) (n : Int) (s : ByteArray) (d : Int) : ByteArray := if fvl c n s d then c ++ strOfNums (dgs n 4) ++ s else ByteArray.empty
def ftxt (c : ByteArray) (n : Int) (s : ByteArray) (d : Int) : ByteArray := if fvl c n s d then c ++ strOfNums (dgs n 4) ++ s ++ ⟨#[47]⟩ ++ strOfNums (dgs d 2) else ByteArray.empty

theorem fvl_iff {c s : ByteArray} {n d : Int} : fvl c n s d = true ↔ carB c = true ∧ (1 ≤ n ∧ n ≤ 9999) ∧ sufB s = true ∧ 0 ≤ d ∧ d ≤ 99 := by
  unfold fvl; simp
theorem carB_size {s : ByteArray} (h : carB s = true) : s.size = 2 := by
  unfold carB at h
  rw [Bool.and_eq_true] at h
  exact of_decide_eq_true h.1
theorem empty_size {s : ByteArray} (h : s.toList.isEmpty = true) : s.size = 0 := by
  rw [ByteArray.toList_eq] at h
  have e : s.data.toList = [] := List.isEmpty_iff.1 h
  have : s.data.toList.length = s.size := by simp
  rw [e] at this
  exact this.symm
theorem size_empty {s : ByteArray} (h : s.size = 0) : s.toList.isEmpty = true := by
  rw [ByteArray.toList_eq]
  have : s.data.toList.length = s.size := by simp
  rw [h] at this
  rw [List.length_eq_zero_iff.1 this]; rfl
theorem letN_size {s : ByteArray} {n : Int} (h : letN s n = true) : (s.size : Int) = n := by
  unfold letN at h
  rw [Bool.and_eq_true] at h
  exact of_decide_eq_true h.1
theorem sufB_size {s : ByteArray} (h : sufB s = true) : s.size ≤ 1 := by
  unfold sufB at h
  rcases Bool.or_eq_true _ _ |>.mp h with h | h
  · have := empty_size h; omega
  · have := letN_size h; omega
theorem fvl_sizes {c s : ByteArray} {n d : Int} (h : fvl c n s d = true) : c.size = 2 ∧ s.size ≤ 1 := ⟨carB_size (fvl_iff.1 h).1, sufB_size (fvl_iff.1 h).2.2.1⟩
theorem fdes_yes {c s : ByteArray} {n d : Int} (h : fvl c n s d = true) : fdes c n s d = c ++ strOfNums (dgs n 4) ++ s := by unfold fdes; rw [h]; rfl
theorem fdes_no {c s : ByteArray} {n d : Int} (h : fvl c n s d = false) : fdes c n s d = ByteArray.empty := by unfold fdes; rw [h]; rfl
theorem ftxt_yes {c s : ByteArray} {n d : Int} (h : fvl c n s d = true) : ftxt c n s d = fdes c n s d ++ ⟨#[47]⟩ ++ strOfNums (dgs d 2) := by rw [fdes_yes h]; unfold ftxt; rw [h]; rfl
theorem ftxt_no {c s : ByteArray} {n d : Int} (h : fvl c n s d = false) : ftxt c n s d = ByteArray.empty := by unfold ftxt; rw [h]; rfl
theorem fdes_size {c s : ByteArray} {n d : Int} (h : fvl c n s d = true) : 6 ≤ (fdes c n s d).size ∧ (fdes c n s d).size ≤ 7 := by
  obtain ⟨h1, h2⟩ := fvl_sizes h
  rw [fdes_yes h]
  simp only [ByteArray.size_append, strOfNums_size, dgs_length]
  omega

/-- The order of strings, and of flights. -/
def sgnS (a b : ByteArray) : Int := if Op.bytesLess a.toList b.toList then -1 else if a.toList == b.toList then 0 else 1
def or4 (x y z t : Int) : Int := if x ≠ 0 then x else if y ≠ 0 then y else if z ≠ 0 then z else t
def cmpF (c : ByteArray) (n : Int) (s : ByteArray) (d : Int) (c' : ByteArray) (n' : Int) (s' : ByteArray) (d' : Int) : Int := or4 (sgnS c c') (sgn n n') (sgnS s s') (sgn d d')
theorem less_self (x : List UInt8) : Op.bytesLess x x = false := by
  induction x with
  | nil => rfl
  | cons a x ih => unfold Op.bytesLess; rw [ih]; simp
theorem sgnS_bd (a b : ByteArray) : -1 ≤ sgnS a b ∧ sgnS a b ≤ 1 := by unfold sgnS; split <;> (try split) <;> omega
theorem sgn_bds (a b : Int) : -1 ≤ sgn a b ∧ sgn a b ≤ 1 := by unfold sgn; split <;> (try split) <;> omega
theorem cmpF_bd (c : ByteArray) (n : Int) (s : ByteArray) (d : Int) (c' : ByteArray) (n' : Int) (s' : ByteArray) (d' : Int) : -1 ≤ cmpF c n s d c' n' s' d' ∧ cmpF c n s d c' n' s' d' ≤ 1 := by
  have h1 := sgnS_bd c c'
  have h2 := sgn_bds n n'
  have h3 := sgnS_bd s s'
  have h4 := sgn_bds d d'
  unfold cmpF or4
  split <;> (try split) <;> (try split) <;> omega
end Go.Proofs.YtglgobmmmghdoaaGreatDoor

/- Flight: Contracts of flight: validCarrier, validSuffix, Valid, ValidPort, validClass; and the document's own. -/
namespace Go.Proofs.YtglgobmmmghdoaaGreatDoor
open Go.RowKit

theorem carB_of {s : ByteArray} (hz : s.size = 2) {l0 d0 l1 d1 : Bool} (e0 : isLe (s[0].toNat : Int) = l0) (f0 : isD (s[0].toNat : Int) = d0) (e1 : isLe (s[1].toNat : Int) = l1) (f1 : isD (s[1].toNat : Int) = d1) :
    carB s = ((l0 || d0) && (l1 || d1) && (l0 || l1)) := by
  unfold carB
  rw [← bat_at s 0 (by omega), ← bat_at s 1 (by omega), e0, f0, e1, f1]
  simp [hz]
theorem carB_no {s : ByteArray} (hz : s.size ≠ 2) : carB s = false := by unfold carB; simp [hz]

set_option maxHeartbeats 1000000 in
theorem carrier_any (s : ByteArray) (w : World) :
    Calls Tryz.prog 94 #[.string s] w fun e w' => e = .returned (.bool (carB s)) ∧ w = w' := by
  by_cases hz : s.size = 2
  · have p0 : 0 < s.size := by omega
    have p1 : 1 < s.size := by omega
    have hb : ((s.size : Int) != 2) = false := by rw [bne_eq_false_iff_eq]; omega
    cases l0 : isLe (s[0].toNat : Int) <;> cases d0 : isD (s[0].toNat : Int) <;> cases l1 : isLe (s[1].toNat : Int) <;> cases d1 : isD (s[1].toNat : Int)
    all_goals
      rw [carB_of hz l0 d0 l1 d1]
      go_enter Tryz.func94, Tryz.ntmps94
      go_wp2_with (first | (go_at_call 88; refine (letter_any _ _).mono ?_; rintro e w1 ⟨rfl, rfl⟩) | (go_at_call 89; refine (digit_any _ _).mono ?_; rintro e w1 ⟨rfl, rfl⟩))
      go_ret
      exact ⟨rfl, rfl⟩
  · have hb : ((s.size : Int) != 2) = true := by rw [bne_iff_ne]; omega
    rw [carB_no hz]
    go_enter Tryz.func94, Tryz.ntmps94
    go_wp2
    go_ret
    exact ⟨rfl, rfl⟩

set_option maxHeartbeats 400000 in
theorem suffix_any (s : ByteArray) (w : World) :
    Calls Tryz.prog 95 #[.string s] w fun e w' => e = .returned (.bool (sufB s)) ∧ w = w' := by
  unfold sufB
  cases h1 : s.toList.isEmpty <;> cases h2 : letN s 1
  all_goals
    go_enter Tryz.func95, Tryz.ntmps95
    go_wp2_with (go_at_call 81; refine (letters_any _ _ _ (by omega)).mono ?_; rintro e w1 ⟨rfl, rfl⟩)
    go_ret
    exact ⟨rfl, rfl⟩

theorem letN_one {s : ByteArray} (hz : s.size = 1) {l0 : Bool} (e0 : isLe (s[0].toNat : Int) = l0) : letN s 1 = l0 := by
  rw [letN_of (by omega)]
  have h := take_snoc s 0 (by omega)
  rw [List.take_of_length_le (by simp; omega)] at h
  rw [h]
  unfold allLet
  simp [isLet, e0]
set_option maxHeartbeats 1000000 in
theorem fvalid_any (c : ByteArray) (n : Int) (s : ByteArray) (d : Int) (w : World) :
    Calls Tryz.prog 86 #[.agg #[.string c, .int .i64 n, .string s, .int .i64 d]] w fun e w' => e = .returned (.bool (fvl c n s d)) ∧ Below w.heap.size w w' := by
  cases hc : carB c <;> cases hs : sufB s
  all_goals
    go_enter Tryz.func86, Tryz.ntmps86
    go_wp2_with (first | (go_at_call 94; refine (carrier_any _ _).mono ?_; rintro e w1 ⟨rfl, rfl⟩) | (go_at_call 95; refine (suffix_any _ _).mono ?_; rintro e w1 ⟨rfl, rfl⟩))
  all_goals
    go_ret
    refine ⟨ret_bool (Bool.eq_iff_iff.2 (Iff.trans ?_ fvl_iff.symm)), (Below.refl _ _).alloc (Nat.le_refl _) _⟩
    rw [hc, hs]
    first | (simp; omega) | simp | (simp only [Bool.false_eq_true]; omega)

end Go.Proofs.YtglgobmmmghdoaaGreatDoor

/- Desig: Contracts of Designator and Format of a flight (the program's). -/
namespace Go.Proofs.YtglgobmmmghdoaaGreatDoor
open Go.RowKit

/-- The four cells of a boxed flight. -/
def Four (w : World) (b : Nat) (c : ByteArray) (n : Int) (s : ByteArray) (d : Int) : Prop := w.cell? ⟨b, 0, none⟩ = some (.string c) ∧ w.cell? ⟨b, 1, none⟩ = some (.int .i64 n) ∧ w.cell? ⟨b, 2, none⟩ = some (.string s) ∧ w.cell? ⟨b, 3, none⟩ = some (.int .i64 d)
theorem Four.keep {w w1 : World} {b : Nat} {c s : ByteArray} {n d : Int} (h : Four w b c n s d) (hb : Below w.heap.size w w1) : Four w1 b c n s d := ⟨kept hb h.1, kept hb h.2.1, kept hb h.2.2.1, kept hb h.2.2.2⟩
theorem Four.new (w : World) (c : ByteArray) (n : Int) (s : ByteArray) (d : Int) (t : TypeId) : Four (w.alloc (.cells #[.string c, .int .i64 n, .string s, .int .i64 d] t)) w.heap.size c n s d := ⟨by simp [go_sem], by simp [go_sem], by simp [go_sem], by simp [go_sem]⟩
theorem Four.alloc {w : World} {b : Nat} {c s : ByteArray} {n d : Int} (h : Four w b c n s d) (o : Obj) : Four (w.alloc o) b c n s d := h.keep ((Below.refl _ _).alloc (Nat.le_refl _) o)
theorem Four.drew {w : World} {b : Nat} {c s : ByteArray} {n d : Int} (h : Four w b c n s d) : Four w.drew b c n s d := h
theorem Four.grown {w w1 : World} {b B : Nat} {c s : ByteArray} {n d : Int} (h : Four w b c n s d) (hg : w.grownBy w1 (some B)) (hne : some b ≠ some B) : Four w1 b c n s d :=
  ⟨hg.cell h.1 hne, hg.cell h.2.1 hne, hg.cell h.2.2.1 hne, hg.cell h.2.2.2 hne⟩

theorem array4_row {w1 : World} (t : TypeId) : (w1.alloc (.cells #[.int .u8 0, .int .u8 0, .int .u8 0, .int .u8 0] t)).rowIs w1.heap.size t 4 (u8f fun _ => 0) :=
  World.rowIs_alloc _ _ _ _ fun i hi => by
    have : i < 4 := hi
    match i, this with
    | 0, _ | 1, _ | 2, _ | 3, _ => rfl
theorem array2_row {w1 : World} (t : TypeId) : (w1.alloc (.cells #[.int .u8 0, .int .u8 0] t)).rowIs w1.heap.size t 2 (u8f fun _ => 0) :=
  World.rowIs_alloc _ _ _ _ fun i hi => by
    have : i < 2 := hi
    match i, this with
    | 0, _ | 1, _ => rfl
theorem conv_after {W : World} {b : Nat} {t : TypeId} {n : Int} {K cap : Nat} {g : Nat → Int} (hr : W.rowIs b t K (u8f (wrd g 0 K n K))) (x : After W) :
    (convert 86 9 (.slice (some ⟨b, 0, none⟩) K cap)).run Tryz.prog x.to = .ok (.string (strOfNums (dgs n K))) x.to := by
  refine run_convert_bytes_arg (P := Tryz.prog) x.to 86 5 Tryz.underlying86 Tryz.underlying5 b 0 K cap (dgs n K) (dgs_length _ _) (fun i hi => ?_) 9 Tryz.underlying9
  rw [kept x.is (hr.cell (i := 0 + i) (by omega)), dgs_at n K i hi]
  unfold u8f wrd
  rw [if_pos (by omega), show 0 + K - 1 - (0 + i) = K - 1 - i by omega]

set_option maxHeartbeats 1000000 in
theorem fdes_any (c : ByteArray) (n : Int) (s : ByteArray) (d : Int) (w : World) :
    Calls Tryz.prog 91 #[.agg #[.string c, .int .i64 n, .string s, .int .i64 d]] w fun e w' => e = .returned (.string (fdes c n s d)) ∧ Below w.heap.size w w' := by
  cases hv : fvl c n s d with
  | false =>
    go_enter Tryz.func91, Tryz.ntmps91
    go_wp2_with (go_at_call 86; refine (fvalid_any c n s d _).mono ?_; rintro e w1 ⟨rfl, hb1⟩)
    go_ret
    exact ⟨ret_str (fdes_no hv).symm, boxed hb1⟩
  | true =>
    obtain ⟨h1, ⟨h2, h3⟩, h4, h5, h6⟩ := fvl_iff.1 hv
    obtain ⟨z1, z2⟩ := fvl_sizes hv
    rw [fdes_yes hv]
    have zD : (strOfNums (dgs n 4)).size = 4 := by rw [strOfNums_size, dgs_length]
    generalize hD : strOfNums (dgs n 4) = D at *
    have HDE := Lib.hid hD
    clear hD
    go_enter Tryz.func91, Tryz.ntmps91
    go_wp2_with (first | (go_at_call 86; refine (fvalid_any c n s d _).mono ?_; rintro e w1 ⟨rfl, hb1⟩; have F := (Four.new w c n s d _).keep hb1))
    have hz1 : w.heap.size < w1.heap.size := by have := hb1.size; simp at this; omega
    have HB := Lib.hid (boxed hb1)
    have hr := array4_row (w1 := w1) 151
    have hg := World.grownBy_alloc w1 (.cells #[.int .u8 0, .int .u8 0, .int .u8 0, .int .u8 0] 151) (some w1.heap.size)
    have F2 := F.alloc (.cells #[.int .u8 0, .int .u8 0, .int .u8 0, .int .u8 0] 151)
    clear hb1 F
    generalize w1.alloc (.cells #[.int .u8 0, .int .u8 0, .int .u8 0, .int .u8 0] 151) = w2 at *
    generalize hB : w1.heap.size = B at *
    have HBB := Lib.hid hB
    clear hB
    have hne : some w.heap.size ≠ some B := by simp; omega
    obtain ⟨c0, c1, c2, c3⟩ := id F2
    go_region_held3 (fun x => x.cell? ⟨w.heap.size, 1, none⟩ = some (.int .i64 n)) (first | exact c1 | exact k1)
      (first | (go_at_call 75; refine (write_any B 0 4 4 n (fun _ => 0) 151 4 _ (by omega) (by omega) (by exact hr.drew) (by omega) (by omega) (by omega)).mono ?_; rintro e w3 ⟨rfl, hr3, hg3⟩; have k1 := (F2.drew.grown hg3 hne).2.1))
    have F3 := F2.drew.grown hg3 hne
    have hg3' := Lib.grownBy_trans (World.grownBy.trans_drew hg) hg3
    clear c0 c1 c2 c3 hr hg hg3 F2
    obtain ⟨k0, _, k2, _⟩ := F3
    go_wp2_with fail
    have m0 := After.cell k0
    have m2 := After.cell k2
    have hcv := conv_after (cap := 4) hr3
    rw [HDE.out] at hcv
    refine wp_region_after (by kernel_rfl) (by kernel_rfl) ?_
    repeat (go_big_quiet_step (fail))
    refine wpQuiet_nil ?_
    rintro _ ⟨t, rfl⟩
    go_wp2
    go_ret
    exact ⟨rfl, onward (HB.out.trans ⟨hg3'.os, hg3'.tape, hg3'.output, hg3'.size, fun k hk => hg3'.block k (by have := HB.out.size; omega) (by simp; omega)⟩) t.is⟩

set_option maxHeartbeats 1000000 in
theorem fformat_any (c : ByteArray) (n : Int) (s : ByteArray) (d : Int) (w : World) :
    Calls Tryz.prog 74 #[.agg #[.string c, .int .i64 n, .string s, .int .i64 d]] w fun e w' => e = .returned (.string (ftxt c n s d)) ∧ Below w.heap.size w w' := by
  cases hv : fvl c n s d with
  | false =>
    go_enter Tryz.func74, Tryz.ntmps74
    go_wp2_with (go_at_call 86; refine (fvalid_any c n s d _).mono ?_; rintro e w1 ⟨rfl, hb1⟩)
    go_ret
    exact ⟨ret_str (ftxt_no hv).symm, boxed hb1⟩
  | true =>
    obtain ⟨h1, ⟨h2, h3⟩, h4, h5, h6⟩ := fvl_iff.1 hv
    obtain ⟨z1, z2⟩ := fdes_size hv
    rw [ftxt_yes hv]
    have zD : (strOfNums (dgs d 2)).size = 2 := by rw [strOfNums_size, dgs_length]
    generalize hD : strOfNums (dgs d 2) = D at *
    have HDE := Lib.hid hD
    clear hD
    have hde := fun W => fdes_any c n s d W
    generalize fdes c n s d = X at *
    have HD := hide hde
    clear hde
    go_enter Tryz.func74, Tryz.ntmps74
    go_wp2_with (first | (go_at_call 86; refine (fvalid_any c n s d _).mono ?_; rintro e w1 ⟨rfl, hb1⟩; have F := (Four.new w c n s d _).keep hb1))
    have hz1 : w.heap.size < w1.heap.size := by have := hb1.size; simp at this; omega
    have HB := Lib.hid (boxed hb1)
    have hr := array2_row (w1 := w1) 136
    have hg := World.grownBy_alloc w1 (.cells #[.int .u8 0, .int .u8 0] 136) (some w1.heap.size)
    have F2 := F.alloc (.cells #[.int .u8 0, .int .u8 0] 136)
    clear hb1 F
    generalize w1.alloc (.cells #[.int .u8 0, .int .u8 0] 136) = w2 at *
    generalize hB : w1.heap.size = B at *
    have HBB := Lib.hid hB
    clear hB
    have hne : some w.heap.size ≠ some B := by simp; omega
    obtain ⟨c0, c1, c2, c3⟩ := id F2
    go_region_held3 (fun x => x.cell? ⟨w.heap.size, 3, none⟩ = some (.int .i64 d)) (first | exact c3 | exact k1)
      (first | (go_at_call 75; refine (write_any B 0 2 2 d (fun _ => 0) 136 2 _ (by omega) (by omega) (by exact hr.drew) (by omega) (by omega) (by omega)).mono ?_; rintro e w3 ⟨rfl, hr3, hg3⟩; have k1 := (F2.drew.grown hg3 hne).2.2.2))
    have F3 := F2.drew.grown hg3 hne
    have hg3' := Lib.grownBy_trans (World.grownBy.trans_drew hg) hg3
    clear c0 c1 c2 c3 hr hg hg3 F2
    obtain ⟨k0, k3, k2, k4⟩ := F3
    go_wp2_with fail
    have m0 := After.cell k0
    have m1 := After.cell k3
    have m2 := After.cell k2
    have m3 := After.cell k4
    have hcv := conv_after (cap := 2) hr3
    rw [HDE.out] at hcv
    refine wp_region_after (by kernel_rfl) (by kernel_rfl) ?_
    repeat (go_big_quiet_step ((first | (go_at_call 91; exact After.call (unhide HD _)))))
    refine wpQuiet_nil ?_
    rintro _ ⟨t, rfl⟩
    go_wp2
    go_ret
    exact ⟨rfl, onward (HB.out.trans ⟨hg3'.os, hg3'.tape, hg3'.output, hg3'.size, fun k hk => hg3'.block k (by have := HB.out.size; omega) (by simp; omega)⟩) t.is⟩
end Go.Proofs.YtglgobmmmghdoaaGreatDoor

/- DesigR: Contracts of the document's own Designator and Format. -/
namespace Go.Proofs.YtglgobmmmghdoaaGreatDoor
open Go.RowKit

end Go.Proofs.YtglgobmmmghdoaaGreatDoor

/- MathG: Plain mathematics: what Parse of a flight comes to; the place of the slash. -/
namespace Go.Proofs.YtglgobmmmghdoaaGreatDoor

theorem ext_data (s : ByteArray) (a b : Nat) : (s.extract a b).data.toList = (s.data.toList.drop a).take (b - a) := by
  rw [ByteArray.data_extract, Array.toList_extract]
theorem data_len (s : ByteArray) : s.data.toList.length = s.size := by simp
theorem bat_ext (s : ByteArray) (a b i : Nat) (h : a + i < b) : bat (s.extract a b) i = bat s (a + i) := by
  unfold bat
  rw [ext_data, List.getD_eq_getElem?_getD, List.getElem?_take_of_lt (by omega), List.getElem?_drop, List.getD_eq_getElem?_getD]
theorem bat_some {s : ByteArray} {k : Nat} {c : UInt8} (h : s.data.toList[k]? = some c) : bat s k = (c.toNat : Int) ∧ k < s.size := by
  unfold bat
  rw [List.getD_eq_getElem?_getD, h]
  refine ⟨rfl, ?_⟩
  have := (List.getElem?_eq_some_iff.1 h).1
  rw [data_len] at this
  exact this
theorem some_bat {s : ByteArray} {k : Nat} (hk : k < s.size) (h : bat s k = 47) : s.data.toList[k]? = some 47 := by
  have hl : k < s.data.toList.length := by rw [data_len]; exact hk
  rw [List.getElem?_eq_getElem hl]
  unfold bat at h
  rw [List.getD_eq_getElem?_getD, List.getElem?_eq_getElem hl] at h
  congr 1
  apply UInt8.toNat_inj.1
  have : (47 : UInt8).toNat = 47 := rfl
  rw [this]
  exact Int.ofNat.inj h

/-- Where the first slash is, or -1. -/
def cutI (s : ByteArray) : Int := Lib.indexByte s.data.toList 47
theorem cutI_cases (s : ByteArray) : cutI s = -1 ∨ ∃ k : Nat, cutI s = k ∧ k + 1 ≤ s.size := by
  have h := Lib.indexByte_ge s.data.toList 47
  by_cases e : cutI s = -1
  · exact .inl e
  · right
    have e' : Lib.indexByte s.data.toList 47 ≠ -1 := e
    have hk : Lib.indexByte s.data.toList 47 = ((Lib.indexByte s.data.toList 47).toNat : Int) := by omega
    have := (bat_some (Lib.indexByte_some hk).1).2
    exact ⟨_, hk, this⟩
theorem cutI_none {s : ByteArray} (h : cutI s = -1) (k : Nat) (hk : k < s.size) : bat s k ≠ 47 := fun e => Lib.indexByte_none h k (some_bat hk e)
theorem cutI_at {s : ByteArray} {k : Nat} (h : cutI s = (k : Int)) : bat s k = 47 := (bat_some (Lib.indexByte_some h).1).1
theorem cutI_before {s : ByteArray} {k : Nat} (h : cutI s = (k : Int)) (j : Nat) (hj : j < k) (hs : j < s.size) : bat s j ≠ 47 := fun e => (Lib.indexByte_some h).2 j hj (some_bat hs e)

theorem allDig_bat {s : ByteArray} (h : allDig s.data.toList = true) (k : Nat) (hk : k < s.size) : 48 ≤ bat s k ∧ bat s k ≤ 57 := by
  rw [← bat_at s k hk]; exact allDig_at h hk
theorem letN_bat {s : ByteArray} {n : Int} (h : letN s n = true) (k : Nat) (hk : k < s.size) : 65 ≤ bat s k ∧ bat s k ≤ 90 := by
  unfold letN at h
  rw [Bool.and_eq_true] at h
  have h1 := h.2
  unfold allLet at h1
  have := List.all_eq_true.1 h1 (s.data.toList[k]'(by rw [data_len]; exact hk)) (List.getElem_mem _)
  have e : s.data.toList[k]'(by rw [data_len]; exact hk) = s[k] := rfl
  rw [e] at this
  rw [← bat_at s k hk]
  exact isLe_iff.1 this
theorem carB_bat {s : ByteArray} (h : carB s = true) : bat s 0 ≠ 47 ∧ bat s 1 ≠ 47 := by
  unfold carB isLe isD at h
  simp only [Bool.and_eq_true, Bool.or_eq_true, decide_eq_true_eq] at h
  omega

/-- The form of a text; the parts of the flight, and the error. -/
def fForm (s : ByteArray) : Bool := decide (s.size = 9 ∨ s.size = 10) && (decide (bat s (s.size - 3) = 47) && (carB (s.extract 0 2) && (allDig (s.extract 2 6).data.toList && (sufB (s.extract 6 (s.size - 3)) && allDig (s.extract (s.size - 2) s.size).data.toList))))
def fC0 (s : ByteArray) : ByteArray := s.extract 0 2
def fN0 (s : ByteArray) : Int := valN (s.extract 2 6).data.toList
def fS0 (s : ByteArray) : ByteArray := s.extract 6 (s.size - 3)
def fD0 (s : ByteArray) : Int := valN (s.extract (s.size - 2) s.size).data.toList
def fOk (s : ByteArray) : Bool := fForm s && decide (fN0 s ≠ 0)
def fC (s : ByteArray) : ByteArray := if fOk s then fC0 s else ByteArray.empty
def fN (s : ByteArray) : Int := if fOk s then fN0 s else 0
def fS (s : ByteArray) : ByteArray := if fOk s then fS0 s else ByteArray.empty
def fD (s : ByteArray) : Int := if fOk s then fD0 s else 0
def fE (s : ByteArray) : Int := if fForm s then (if fOk s then 0 else 1) else 3

theorem fForm_iff {s : ByteArray} : fForm s = true ↔ (s.size = 9 ∨ s.size = 10) ∧ bat s (s.size - 3) = 47 ∧ carB (s.extract 0 2) = true ∧ allDig (s.extract 2 6).data.toList = true ∧ sufB (s.extract 6 (s.size - 3)) = true ∧ allDig (s.extract (s.size - 2) s.size).data.toList = true := by
  unfold fForm; simp only [Bool.and_eq_true, decide_eq_true_eq]

/-- No slash stands before the one of the form. -/
theorem fForm_before {s : ByteArray} (h : fForm s = true) (j : Nat) (hj : j < s.size - 3) : bat s j ≠ 47 := by
  obtain ⟨h1, h2, h3, h4, h5, h6⟩ := fForm_iff.1 h
  have c := carB_bat h3
  rw [bat_ext s 0 2 0 (by omega), bat_ext s 0 2 1 (by omega)] at c
  by_cases j0 : j = 0
  · subst j0; exact c.1
  by_cases j1 : j = 1
  · subst j1; exact c.2
  by_cases j6 : j < 6
  · have := allDig_bat h4 (j - 2) (by rw [size_ext]; omega)
    rw [bat_ext s 2 6 (j - 2) (by omega), show 2 + (j - 2) = j by omega] at this
    omega
  · have hj6 : j = 6 := by omega
    subst hj6
    have hz : (s.extract 6 (s.size - 3)).size = 1 := by rw [size_ext]; omega
    unfold sufB at h5
    rcases Bool.or_eq_true _ _ |>.mp h5 with h5 | h5
    · have := empty_size h5; omega
    · have := letN_bat h5 0 (by omega)
      rw [bat_ext s 6 (s.size - 3) 0 (by omega), Nat.add_zero] at this
      omega
theorem fForm_cut {s : ByteArray} (h : fForm s = true) : cutI s = ((s.size - 3 : Nat) : Int) := by
  obtain ⟨h1, h2, _⟩ := fForm_iff.1 h
  rcases cutI_cases s with e | ⟨k, e, hk⟩
  · exact absurd h2 (cutI_none e _ (by omega))
  · rw [e]
    have a := cutI_at e
    by_cases l : k < s.size - 3
    · exact absurd a (fForm_before h k l)
    · by_cases g : s.size - 3 < k
      · exact absurd h2 (cutI_before e _ g (by omega))
      · congr 1; omega

/-- The form, by the two parts of a cut. -/
def dForm (D G : ByteArray) : Bool := decide (6 ≤ D.size ∧ G.size = 2) && (carB (D.extract 0 2) && (numB (D.extract 2 6) && (sufB (D.extract 6 D.size) && numB G)))
theorem dForm_iff {D G : ByteArray} : dForm D G = true ↔ (6 ≤ D.size ∧ G.size = 2) ∧ carB (D.extract 0 2) = true ∧ numB (D.extract 2 6) = true ∧ sufB (D.extract 6 D.size) = true ∧ numB G = true := by
  unfold dForm; simp only [Bool.and_eq_true, decide_eq_true_eq]
theorem cut_ext (s : ByteArray) (k a b : Nat) (hb : b ≤ k) : (s.extract 0 k).extract a b = s.extract a b := by
  rw [ByteArray.extract_extract]
  congr 1
  · omega
  · omega
theorem cut_form {s : ByteArray} {k : Nat} (h : cutI s = (k : Int)) (hk : k + 1 ≤ s.size) (hd : dForm (s.extract 0 k) (s.extract (k + 1) s.size) = true) : fForm s = true := by
  obtain ⟨⟨h1, h2⟩, h3, h4, h5, h6⟩ := dForm_iff.1 hd
  rw [size_ext] at h1 h2
  have h7 := sufB_size h5
  rw [size_ext, size_ext] at h7
  have ek : s.size - 3 = k := by omega
  have ek2 : s.size - 2 = k + 1 := by omega
  rw [cut_ext s k 0 2 (by omega)] at h3
  rw [cut_ext s k 2 6 (by omega), numB_of (by rw [size_ext]; omega)] at h4
  rw [show (s.extract 0 k).size = k by rw [size_ext]; omega, cut_ext s k 6 k (by omega)] at h5
  rw [numB_of (by rw [size_ext]; omega)] at h6
  refine fForm_iff.2 ⟨by omega, by rw [ek]; exact cutI_at h, h3, h4, by rw [ek]; exact h5, by rw [ek2]; exact h6⟩
theorem noform_none {s : ByteArray} (h : cutI s = -1) : fForm s = false := by
  cases e : fForm s with
  | false => rfl
  | true => rw [fForm_cut e] at h; omega

theorem fN0_bd {s : ByteArray} (h : fForm s = true) : 0 ≤ fN0 s ∧ fN0 s ≤ 9999 ∧ 0 ≤ fD0 s ∧ fD0 s ≤ 99 := by
  obtain ⟨h1, h2, h3, h4, h5, h6⟩ := fForm_iff.1 h
  have a := valN_bd _ h4 4 (by rw [size_ext]; omega)
  have b := valN_bd _ h6 2 (by rw [size_ext]; omega)
  rw [List.take_of_length_le (by rw [data_len, size_ext]; omega)] at a b
  unfold fN0 fD0
  omega
theorem fvl_form {s : ByteArray} (h : fForm s = true) : fvl (fC0 s) (fN0 s) (fS0 s) (fD0 s) = decide (fN0 s ≠ 0) := by
  have b := fN0_bd h
  obtain ⟨h1, h2, h3, h4, h5, h6⟩ := fForm_iff.1 h
  rw [Bool.eq_iff_iff, fvl_iff, decide_eq_true_eq]
  constructor
  · intro k; omega
  · intro k; exact ⟨h3, by omega, h5, by omega⟩
theorem f_no {s : ByteArray} (h : fForm s = false) : fC s = ByteArray.empty ∧ fN s = 0 ∧ fS s = ByteArray.empty ∧ fD s = 0 ∧ fE s = 3 := by
  have h1 : fOk s = false := by unfold fOk; rw [h]; rfl
  unfold fC fN fS fD fE; rw [h1, h]; simp
theorem f_range {s : ByteArray} (h : fForm s = true) (hv : fN0 s = 0) : fC s = ByteArray.empty ∧ fN s = 0 ∧ fS s = ByteArray.empty ∧ fD s = 0 ∧ fE s = 1 := by
  have h1 : fOk s = false := by unfold fOk; rw [h, hv]; rfl
  unfold fC fN fS fD fE; rw [h1, h]; simp
theorem f_yes {s : ByteArray} (h : fForm s = true) (hv : fN0 s ≠ 0) : fC s = fC0 s ∧ fN s = fN0 s ∧ fS s = fS0 s ∧ fD s = fD0 s ∧ fE s = 0 := by
  have h1 : fOk s = true := by unfold fOk; rw [h]; simp [hv]
  unfold fC fN fS fD fE; rw [h1, h]; simp
end Go.Proofs.YtglgobmmmghdoaaGreatDoor

/- Cut: Contracts of strings.Cut at the separator '/', whatever the string's length. -/
namespace Go.Proofs.YtglgobmmmghdoaaGreatDoor
open Go.RowKit

set_option maxRecDepth 100000 in
theorem ixb_any (s : ByteArray) (c : Int) (w : World) :
    Calls Tryz.prog 97 #[.string s, .int .u8 c] w fun e w' => e = .returned (.int .i64 (Lib.indexByte s.data.toList c.toNat.toUInt8)) ∧ w = w' := by
  go_enter Tryz.func97, Tryz.ntmps97
  go_wp2
  rw [run_callFunc_extern Tryz.func107 (by kernel_rfl) (by kernel_rfl) (by kernel_rfl) (e := Extern.BytealgIndexByte.indexByte) (by kernel_rfl), Lib.run_indexByteString]
  simp only [Result.andThen]
  rw [Oper.upon_value]
  go_wp2
  go_ret
  exact ⟨rfl, rfl⟩

set_option maxHeartbeats 400000 in
theorem index_any (s : ByteArray) (w : World) :
    Calls Tryz.prog 84 #[.string s, .string ⟨#[47]⟩] w fun e w' => e = .returned (.int .i64 (cutI s)) ∧ w = w' := by
  go_enter Tryz.func84, Tryz.ntmps84
  go_wp2_with (go_at_call 97; refine (ixb_any _ _ _).mono ?_; rintro e w' ⟨rfl, rfl⟩)
  · have h : ([47] == s.toList) = true := by assumption
    go_ret
    refine ⟨ret_int ?_, rfl⟩
    have e : s.data.toList = [47] := by rw [← ByteArray.toList_eq]; exact (beq_iff_eq.1 h).symm
    unfold cutI
    rw [e]
    rfl
  · go_ret
    exact ⟨rfl, rfl⟩

set_option maxHeartbeats 400000 in
theorem lcut_miss (s : ByteArray) (w : World) (h : cutI s = -1) :
    Calls Tryz.prog 62 #[.string s, .string ⟨#[47]⟩] w fun e w' => e = .returned (.tuple #[.string s, .string ByteArray.empty, .bool false]) ∧ Below w.heap.size w w' := by
  go_enter Tryz.func62, Tryz.ntmps62
  go_wp2_with (go_at_call 84; refine (index_any s _).mono ?_; rw [h]; rintro e w' ⟨rfl, rfl⟩)
  go_returns
  exact ⟨rfl, Below.refl _ _⟩

set_option maxHeartbeats 400000 in
theorem lcut_hit (s : ByteArray) (k : Nat) (w : World) (hs : s.size ≤ maxLen) (h : cutI s = (k : Int)) (hk : k + 1 ≤ s.size) :
    Calls Tryz.prog 62 #[.string s, .string ⟨#[47]⟩] w fun e w' => e = .returned (.tuple #[.string (s.extract 0 k), .string (s.extract (k + 1) s.size), .bool true]) ∧ Below w.heap.size w w' := by
  unfold maxLen at hs
  have c1 : (0 : Int) ≤ (k : Int) := by omega
  have c2 : (k : Int) ≤ (s.size : Int) := by omega
  have c3 : (0 : Int) ≤ (k : Int) + 1 := by omega
  have c4 : (k : Int) + 1 ≤ (s.size : Int) := by omega
  go_enter Tryz.func62, Tryz.ntmps62
  go_wp2_with (go_at_call 84; refine (index_any s _).mono ?_; rw [h]; rintro e w' ⟨rfl, rfl⟩)
  go_quiet (fail)
  go_wp2
  go_returns
  exact ⟨rfl, draws (Below.refl _ _) _⟩

set_option maxHeartbeats 400000 in
theorem cut_miss (s : ByteArray) (w : World) (h : cutI s = -1) :
    Calls Tryz.prog 29 #[.string s, .string ⟨#[47]⟩] w fun e w' => e = .returned (.tuple #[.string s, .string ByteArray.empty, .bool false]) ∧ Below w.heap.size w w' := by
  go_enter Tryz.func29, Tryz.ntmps29
  go_wp2_with (go_at_call 62; refine (lcut_miss s _ h).mono ?_; rintro e w' ⟨rfl, hb⟩)
  go_returns
  exact ⟨rfl, hb⟩

set_option maxHeartbeats 400000 in
theorem cut_hit (s : ByteArray) (k : Nat) (w : World) (hs : s.size ≤ maxLen) (h : cutI s = (k : Int)) (hk : k + 1 ≤ s.size) :
    Calls Tryz.prog 29 #[.string s, .string ⟨#[47]⟩] w fun e w' => e = .returned (.tuple #[.string (s.extract 0 k), .string (s.extract (k + 1) s.size), .bool true]) ∧ Below w.heap.size w w' := by
  go_enter Tryz.func29, Tryz.ntmps29
  go_wp2_with (go_at_call 62; refine (lcut_hit s k _ hs h hk).mono ?_; rintro e w' ⟨rfl, hb⟩)
  go_returns
  exact ⟨rfl, hb⟩
end Go.Proofs.YtglgobmmmghdoaaGreatDoor

/- Leg: Contracts of ports, classes and legs (both). -/
namespace Go.Proofs.YtglgobmmmghdoaaGreatDoor
open Go.RowKit

/-- A port; a class; a leg. -/
def portB (s : ByteArray) : Bool := letN s 3
def clsB (s : ByteArray) : Bool := (s.toList == [70]) || ((s.toList == [67]) || (s.toList == [89]))
def legB (c : ByteArray) (n : Int) (s : ByteArray) (d : Int) (p k : ByteArray) : Bool := fvl c n s d && (portB p && clsB k)

theorem port_any (s : ByteArray) (w : World) :
    Calls Tryz.prog 66 #[.string s] w fun e w' => e = .returned (.bool (portB s)) ∧ w = w' := by
  go_enter Tryz.func66, Tryz.ntmps66
  go_wp2_with (go_at_call 81; refine (letters_any _ _ _ (by omega)).mono ?_; rintro e w1 ⟨rfl, rfl⟩)
  go_ret
  exact ⟨rfl, rfl⟩

theorem letN_three {s : ByteArray} (hz : s.size = 3) {l0 l1 l2 : Bool} (e0 : isLe (s[0].toNat : Int) = l0) (e1 : isLe (s[1].toNat : Int) = l1) (e2 : isLe (s[2].toNat : Int) = l2) : letN s 3 = (l0 && (l1 && l2)) := by
  rw [letN_of (by omega)]
  have h := take_snoc s 2 (by omega)
  rw [List.take_of_length_le (by simp; omega), take_snoc s 1 (by omega), take_snoc s 0 (by omega)] at h
  rw [h]
  unfold allLet
  simp [isLet, e0, e1, e2]
theorem class_any (s : ByteArray) (w : World) :
    Calls Tryz.prog 87 #[.string s] w fun e w' => e = .returned (.bool (clsB s)) ∧ w = w' := by
  unfold clsB
  cases e0 : (s.toList == [70]) <;> cases e1 : (s.toList == [67]) <;> cases e2 : (s.toList == [89])
  all_goals
    go_enter Tryz.func87, Tryz.ntmps87
    go_wp2
    go_ret
    exact ⟨rfl, rfl⟩
/-- The cells of a boxed leg. -/
theorem leg_cells {w w1 : World} {c s p k : ByteArray} {n d : Int} {t : TypeId} (hb : Below (w.alloc (.cells #[.string c, .int .i64 n, .string s, .int .i64 d, .string p, .string k] t)).heap.size (w.alloc (.cells #[.string c, .int .i64 n, .string s, .int .i64 d, .string p, .string k] t)) w1) :
    w1.cell? ⟨w.heap.size, 4, none⟩ = some (.string p) ∧ w1.cell? ⟨w.heap.size, 5, none⟩ = some (.string k) := by
  refine ⟨?_, ?_⟩ <;> exact kept hb (by simp [go_sem])

set_option maxHeartbeats 1000000 in
theorem leg_any (c : ByteArray) (n : Int) (s : ByteArray) (d : Int) (p k : ByteArray) (w : World) :
    Calls Tryz.prog 67 #[.agg #[.string c, .int .i64 n, .string s, .int .i64 d, .string p, .string k]] w fun e w' => e = .returned (.bool (legB c n s d p k)) ∧ Below w.heap.size w w' := by
  unfold legB
  cases h0 : fvl c n s d <;> cases h1 : portB p <;> cases h2 : clsB k
  all_goals
    go_enter Tryz.func67, Tryz.ntmps67
    go_wp2_with (first
      | (go_at_call 86; refine (fvalid_any c n s d _).mono ?_; rintro e w1 ⟨rfl, hb1⟩; obtain ⟨c4, c5⟩ := leg_cells hb1; have HB := Lib.hid (boxed hb1); clear hb1)
      | (go_at_call 66; refine (port_any _ _).mono ?_; rintro e w2 ⟨rfl, rfl⟩)
      | (go_at_call 87; refine (class_any _ _).mono ?_; rintro e w2 ⟨rfl, rfl⟩))
    go_ret
    exact ⟨rfl, HB.out⟩

end Go.Proofs.YtglgobmmmghdoaaGreatDoor

/- OrderF: Contracts of the order of flights: cmp.Compare of strings, cmp.Or, Compare (both). -/
namespace Go.Proofs.YtglgobmmmghdoaaGreatDoor
open Go.RowKit

end Go.Proofs.YtglgobmmmghdoaaGreatDoor

/- CmpF: Contracts of Compare of flights (both). -/
namespace Go.Proofs.YtglgobmmmghdoaaGreatDoor
open Go.RowKit

theorem below_two (w : World) (o o' : Obj) : Below w.heap.size w ((w.alloc o).alloc o') := ((Below.refl _ _).alloc (Nat.le_refl _) _).alloc (by simp) _

end Go.Proofs.YtglgobmmmghdoaaGreatDoor
