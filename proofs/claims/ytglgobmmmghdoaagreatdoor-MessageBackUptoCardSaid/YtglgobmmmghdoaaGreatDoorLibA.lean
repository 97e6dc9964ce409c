/-
  Plain mathematics of digits and letters; contracts of the smallest functions, of package ascii, of the writers of digits, of Format of a plate; regions that draw; the reader of numbers.
-/
import Derived.Test.YtglgobmmmghdoaaGreatDoorLibB
import Derived.WalkKit
import Derived.Laws.BytesArg
import Derived.Test.YtglgobmmmghdoaaGreatDoorRows
import Derived.WalkSpells
import Derived.WalkLawsBesides
import Derived.Handy
import Derived.Lib.Hide
import Derived.ProofKit
import Derived.Deep.OwnRows
import Derived.Lib.BufferOwn
import Derived.StillTailTactics
import Derived.Deep.RegionHeld3
import Derived.BigQuiet
import Derived.StillTail

/- Leaf: Contracts of the smallest functions: Valid (both), sign, cmp.Compare, Compare (both), Mod, Number. -/
namespace Go.Proofs.YtglgobmmmghdoaaGreatDoor
open Go.RowKit

set_option maxHeartbeats 400000 in
theorem valid_any (l a s : Int) (w : World) :
    Calls Tryz.prog 71 #[.agg #[.int .i64 l, .int .i64 a, .int .i64 s]] w fun e w' => e = .returned (.bool (vld l a s)) ∧ Below w.heap.size w w' := by
  go_enter Tryz.func71, Tryz.ntmps71
  go_wp2
  all_goals (go_ret; refine ⟨ret_bool (Bool.eq_iff_iff.2 (Iff.trans ?_ vld_iff.symm)), (Below.refl _ _).alloc (Nat.le_refl _) _⟩; first | (simp; omega) | (simp only [Bool.false_eq_true]; omega))

/-- A box of a plate. -/
def box3 (l a s : Int) : Obj := .cells #[.int .i64 l, .int .i64 a, .int .i64 s] 33

end Go.Proofs.YtglgobmmmghdoaaGreatDoor

/- Ascii: Contracts of package ascii: Letter, Digit, Letters, Value; the document's Letter, Digit. -/
namespace Go.Proofs.YtglgobmmmghdoaaGreatDoor
open Go.RowKit

/-- What a call of Value comes to. -/
def Valued (s : ByteArray) (w : World) (e : Ending) (w' : World) : Prop := e = .returned (.tuple #[.int .i64 (numV s), .bool (numB s)]) ∧ w = w'
theorem Valued.no {s : ByteArray} {w : World} (h : numB s = false) : Valued s w (.returned (.tuple #[.int .i64 0, .bool false])) w := ⟨by rw [h, numV_no h], rfl⟩

set_option maxHeartbeats 1000000 in
theorem value_any (s : ByteArray) (w : World) :
    Calls Tryz.prog 78 #[.string s] w (Valued s w) := by
  by_cases hz : 1 ≤ s.size ∧ s.size ≤ 9
  · have h0 : s.toList.isEmpty = false := not_empty hz.1
    have h9 : ¬ (9 : Int) < (s.size : Int) := by omega
    have i9 := hz.2
    go_enter Tryz.func78, Tryz.ntmps78
    go_wp2
    go_loop [4, 15] (fun n i => ∃ k : Nat, k ≤ s.size ∧ i = .int .i64 k ∧ n = .int .i64 (valN (s.data.toList.take k)) ∧ Hid (allDig (s.data.toList.take k) = true)) (fun _ i => s.size - (intOf i).toNat)
    case atStart => exact ⟨0, Nat.zero_le _, rfl, rfl, Lib.hid rfl⟩
    case round =>
      obtain ⟨k, hk, rfl, rfl, hd⟩ := hrel
      have hb := valN_pre9 s i9 k hk hd.out
      by_cases hlt : k < s.size
      · cases hl : isD (s[k].toNat : Int) with
        | true =>
          have hc := isD_iff.1 hl
          go_wp2_with (go_at_call 89; refine (digit_any _ _).mono ?_; rintro e w1 ⟨rfl, rfl⟩)
          go_round
          case rel => exact ⟨k + 1, by omega, by go_num, by rw [valN_step s k hlt], Lib.hid (allDig_step hlt hd.out hc.1 hc.2)⟩
          case measure => simp [intOf]; omega
        | false =>
          go_wp2_with (go_at_call 89; refine (digit_any _ _).mono ?_; rintro e w1 ⟨rfl, rfl⟩)
          go_returns
          refine Valued.no (numB_no2 (allDig_no hlt ?_))
          unfold isD at hl
          have := decide_eq_false_iff_not.1 hl
          omega
      · go_wp2
        go_returns
        have ha := allDig_all s k (by omega) hd.out
        have hn : numB s = true := by rw [numB_of hz]; exact ha
        refine ⟨?_, rfl⟩
        rw [hn, numV_yes hn, ← valN_all s k (by omega)]
        rfl
  · have hn := numB_no1 hz
    by_cases h0 : s.size = 0
    · have he : s.toList.isEmpty = true := by
        rw [ByteArray.toList_eq]
        have : s.data.toList.length = s.size := by simp
        rw [h0] at this
        rw [List.length_eq_zero_iff.1 this]; rfl
      clear hz
      go_enter Tryz.func78, Tryz.ntmps78
      go_wp2
      go_returns
      exact Valued.no hn
    · have he : s.toList.isEmpty = false := not_empty (by omega)
      have h9 : (9 : Int) < (s.size : Int) := by omega
      clear hz
      go_enter Tryz.func78, Tryz.ntmps78
      go_wp2
      go_returns
      exact Valued.no hn
end Go.Proofs.YtglgobmmmghdoaaGreatDoor

/- Str: Contracts of the functions on digits: All, Value. -/
namespace Go.Proofs.YtglgobmmmghdoaaGreatDoor
open Go.RowKit

end Go.Proofs.YtglgobmmmghdoaaGreatDoor

/- MathB: Plain mathematics: what Parse comes to, as functions on byte strings. -/
namespace Go.Proofs.YtglgobmmmghdoaaGreatDoor
/-- What Parse returns: Lead, Airline, Serial, and the error. -/
def pForm (s : ByteArray) : Bool := decide (s.size = 10) && allDig s.data.toList
def pL0 (s : ByteArray) : Int := valN (s.extract 0 1).data.toList
def pA0 (s : ByteArray) : Int := valN (s.extract 1 4).data.toList
def pS0 (s : ByteArray) : Int := valN (s.extract 4 s.size).data.toList
def pOk (s : ByteArray) : Bool := pForm s && vld (pL0 s) (pA0 s) (pS0 s)
def pL (s : ByteArray) : Int := if pOk s then pL0 s else 0
def pA (s : ByteArray) : Int := if pOk s then pA0 s else 0
def pS (s : ByteArray) : Int := if pOk s then pS0 s else 0
def pE (s : ByteArray) : Int := if pForm s then (if pOk s then 0 else 1) else 3

theorem allDig_ext (s : ByteArray) (a b : Nat) (h : allDig s.data.toList = true) : allDig (s.extract a b).data.toList = true := by
  unfold allDig at *
  rw [List.all_eq_true] at *
  intro x hx
  apply h
  have e : (s.extract a b).data.toList = (s.data.toList.drop a).take (b - a) := by
    rw [ByteArray.data_extract, Array.toList_extract]
  rw [e] at hx
  exact List.mem_of_mem_drop (List.mem_of_mem_take hx)
theorem pForm_yes {s : ByteArray} (h : s.size = 10) (hd : allDig s.data.toList = true) : pForm s = true := by unfold pForm; rw [hd]; simp [h]
theorem pForm_no1 {s : ByteArray} (h : s.size ≠ 10) : pForm s = false := by unfold pForm; simp [h]
theorem pForm_no2 {s : ByteArray} (hd : allDig s.data.toList = false) : pForm s = false := by unfold pForm; rw [hd]; simp
theorem p_no {s : ByteArray} (h : pForm s = false) : pL s = 0 ∧ pA s = 0 ∧ pS s = 0 ∧ pE s = 3 := by
  have h1 : pOk s = false := by unfold pOk; rw [h]; rfl
  unfold pL pA pS pE; rw [h1, h]; simp
theorem p_range {s : ByteArray} (h : pForm s = true) (hv : vld (pL0 s) (pA0 s) (pS0 s) = false) : pL s = 0 ∧ pA s = 0 ∧ pS s = 0 ∧ pE s = 1 := by
  have h1 : pOk s = false := by unfold pOk; rw [h, hv]; rfl
  unfold pL pA pS pE; rw [h1, h]; simp
theorem p_yes {s : ByteArray} (h : pForm s = true) (hv : vld (pL0 s) (pA0 s) (pS0 s) = true) : pL s = pL0 s ∧ pA s = pA0 s ∧ pS s = pS0 s ∧ pE s = 0 := by
  have h1 : pOk s = true := by unfold pOk; rw [h, hv]; rfl
  unfold pL pA pS pE; rw [h1, h]; simp
end Go.Proofs.YtglgobmmmghdoaaGreatDoor

/- Write: Contracts of the functions that write digits: write (into a slice that came in), Digits (a string). -/
namespace Go.Proofs.YtglgobmmmghdoaaGreatDoor
open Go.RowKit

def u8f (g : Nat → Int) : Nat → Value := fun j => .int .u8 (g j)

theorem put_step {wr : World} {b : Nat} {t : TypeId} {N : Nat} {g : Nat → Int} {off len : Nat} {n m : Int} {k : Nat} (hk : k < len) (hm : m = n / ((10 ^ k : Nat) : Int))
    (hr : wr.rowIs b t N (u8f (wrd g off len n k))) : (wr.setCell ⟨b, off + (len - 1 - k), none⟩ (.int .u8 (48 + m % 10))).rowIs b t N (u8f (wrd g off len n (k + 1))) :=
  (hr.set _ _).congr fun j _ => by
    have h := wrd_step g off len n m k hk hm j
    unfold u8f
    rw [← h]
    split <;> rfl

set_option maxHeartbeats 400000 in
theorem write_any (b off len cap : Nat) (n : Int) (g : Nat → Int) (t : TypeId) (N : Nat) (w : World) (hn : 0 ≤ n) (hn2 : n ≤ 1000000000000) (hrow : w.rowIs b t N (u8f g)) (hlen : off + len ≤ N) (h1 : 1 ≤ len) (h2 : len ≤ 1000) :
    Calls Tryz.prog 75 #[.slice (some ⟨b, off, none⟩) len cap, .int .i64 n] w fun e w' => e = .returned (.tuple #[]) ∧ w'.rowIs b t N (u8f (wrd g off len n len)) ∧ w.grownBy w' (some b) := by
  go_enter Tryz.func75, Tryz.ntmps75
  go_wp2
  go_loopw [1, 7] (fun x i wr => ∃ (k : Nat) (m : Int), k ≤ len ∧ 0 ≤ m ∧ m ≤ n ∧ Hid (m = n / ((10 ^ k : Nat) : Int)) ∧ x = .int .i64 m ∧ i = .int .i64 k ∧ wr.rowIs b t N (u8f (wrd g off len n k)) ∧ w.grownBy wr (some b)) (fun _ i _ => len - (intOf i).toNat)
  case atStart => exact ⟨0, n, Nat.zero_le _, hn, Int.le_refl _, Lib.hid (by simp), rfl, rfl, hrow.congr fun j _ => congrArg _ (wrd_zero g off len n j), World.grownBy.refl _ _⟩
  case round =>
    obtain ⟨k, m, hk, hm0, hm1, hm, rfl, rfl, hr, hg⟩ := hrel
    by_cases hlt : k < len
    · have hc := hr.cell (i := off + (len - 1 - k)) (by omega)
      have hf := hr.frozen (off + (len - 1 - k))
      have hp := put_step (off := off) hlt hm.out hr
      have HP := Lib.hid hp
      have HR := Lib.hid hr
      have HG := Lib.hid hg
      clear hp hr hg
      go_wp2
      go_roundw
      case rel => exact ⟨k + 1, m / 10, by omega, by omega, by omega, Lib.hid (by rw [hm.out]; exact div_step n k), rfl, by go_num, HP.out, Lib.grownBy_setB HG.out _ _⟩
      case measure => simp [intOf]; omega
    · have e : k = len := by omega
      have HR := Lib.hid hr
      have HG := Lib.hid hg
      clear hr hg
      go_wp2
      go_end0
      refine ⟨rfl, ?_, HG.out⟩
      have := HR.out
      rw [e] at this
      exact this
end Go.Proofs.YtglgobmmmghdoaaGreatDoor

/- Digits: Contract of Digits: a number with a fixed number of decimal digits, as a string. -/
namespace Go.Proofs.YtglgobmmmghdoaaGreatDoor
open Go.RowKit

theorem info_u8 : (Tryz.prog.info? 5).map (fun i => (i.zero, i.size, i.bytes)) = some (some (.int .u8 0), 1, 1) := by kernel_rfl

/-- A row that holds the digits, as a string. -/
theorem conv_row {wr : World} {b N : Nat} {t : TypeId} {n : Int} {K off cap : Nat} {g : Nat → Int} (hr : wr.rowIs b t N (u8f (wrd g off K n K))) (hN : off + K ≤ N) :
    (convert 86 9 (.slice (some ⟨b, off, none⟩) K cap)).run Tryz.prog wr = .ok (.string (strOfNums (dgs n K))) wr := by
  refine run_convert_bytes_arg (P := Tryz.prog) wr 86 5 Tryz.underlying86 Tryz.underlying5 b off K cap (dgs n K) (dgs_length _ _) (fun i hi => ?_) 9 Tryz.underlying9
  rw [hr.cell (by omega), dgs_at n K i hi]
  unfold u8f wrd
  rw [if_pos (by omega), show off + K - 1 - (off + i) = K - 1 - i by omega]

end Go.Proofs.YtglgobmmmghdoaaGreatDoor

/- Format: Contracts of Format (both): the text of a plate. -/
namespace Go.Proofs.YtglgobmmmghdoaaGreatDoor
open Go.RowKit

/-- The cells of a boxed plate, in a later world. -/
theorem box_cells {w w1 : World} {l a s : Int} {t : TypeId} (hb : Below (w.alloc (.cells #[.int .i64 l, .int .i64 a, .int .i64 s] t)).heap.size (w.alloc (.cells #[.int .i64 l, .int .i64 a, .int .i64 s] t)) w1) :
    w1.cell? ⟨w.heap.size, 0, none⟩ = some (.int .i64 l) ∧ w1.cell? ⟨w.heap.size, 1, none⟩ = some (.int .i64 a) ∧ w1.cell? ⟨w.heap.size, 2, none⟩ = some (.int .i64 s) := by
  refine ⟨?_, ?_, ?_⟩ <;> (rw [hb.cell (by simp)]; simp [go_sem])

theorem num_bd {l a s : Int} (h : vld l a s = true) : 0 ≤ num l a s ∧ num l a s ≤ 1000000000000 := by
  obtain ⟨h1, h2, h3, h4, h5, h6⟩ := vld_iff.1 h
  unfold num; omega

theorem array_row {w1 : World} (t : TypeId) :
    (w1.alloc (.cells #[.int .u8 0, .int .u8 0, .int .u8 0, .int .u8 0, .int .u8 0, .int .u8 0, .int .u8 0, .int .u8 0, .int .u8 0, .int .u8 0] t)).rowIs w1.heap.size t 10 (u8f fun _ => 0) :=
  World.rowIs_alloc _ _ _ _ fun i hi => by
    have : i < 10 := hi
    match i, this with
    | 0, _ | 1, _ | 2, _ | 3, _ | 4, _ | 5, _ | 6, _ | 7, _ | 8, _ | 9, _ => rfl

theorem text_at {l a s : Int} (h : vld l a s = true) (i : Nat) (hi : i < 10) : wrd (wrd (wrd (fun _ => 0) 0 1 l 1) 1 3 a 3) 4 6 s 6 i = (dgs (num l a s) 10).getD i 0 := by
  obtain ⟨h1, h2, h3, h4, h5, h6⟩ := vld_iff.1 h
  rw [dgs_at _ _ i hi]
  unfold num
  match i, hi with
  | 0, _ | 1, _ | 2, _ | 3, _ | 4, _ | 5, _ | 6, _ | 7, _ | 8, _ | 9, _ => simp [wrd]; omega

theorem conv_text {l a s : Int} (h : vld l a s = true) {wr : World} {b : Nat} {t : TypeId} {cap : Nat} (hr : wr.rowIs b t 10 (u8f (wrd (wrd (wrd (fun _ => 0) 0 1 l 1) 1 3 a 3) 4 6 s 6))) :
    (convert 86 9 (.slice (some ⟨b, 0, none⟩) 10 cap)).run Tryz.prog wr = .ok (.string (txt l a s)) wr := by
  have e : txt l a s = strOfNums (dgs (num l a s) 10) := by unfold txt; rw [h]; rfl
  rw [e]
  refine run_convert_bytes_arg (P := Tryz.prog) wr 86 5 Tryz.underlying86 Tryz.underlying5 b 0 10 cap (dgs (num l a s) 10) (dgs_length _ _) (fun i hi => ?_) 9 Tryz.underlying9
  rw [Nat.zero_add, hr.cell (by omega), ← text_at h i hi]
  rfl

set_option maxHeartbeats 1000000 in
theorem format_any (l a s : Int) (w : World) :
    Calls Tryz.prog 45 #[.agg #[.int .i64 l, .int .i64 a, .int .i64 s]] w fun e w' => e = .returned (.string (txt l a s)) ∧ Below w.heap.size w w' := by
  cases hv : vld l a s with
  | false =>
    go_enter Tryz.func45, Tryz.ntmps45
    go_wp2_with (go_at_call 71; refine (valid_any l a s _).mono ?_; rintro e w1 ⟨rfl, hb1⟩)
    go_ret
    exact ⟨ret_str (by unfold txt; rw [hv]; rfl), boxed hb1⟩
  | true =>
    obtain ⟨h1, h2, h3, h4, h5, h6⟩ := vld_iff.1 hv
    go_enter Tryz.func45, Tryz.ntmps45
    go_wp2_with (first | (go_at_call 71; refine (valid_any l a s _).mono ?_; rintro e w1 ⟨rfl, hb1⟩; obtain ⟨hc0, hc1, hc2⟩ := box_cells hb1))
    have hz1 : w.heap.size < w1.heap.size := by have := hb1.size; simp at this; omega
    have HB := Lib.hid (boxed hb1)
    have hr := array_row (w1 := w1) 118
    have hg := World.grownBy_alloc w1 (.cells #[.int .u8 0, .int .u8 0, .int .u8 0, .int .u8 0, .int .u8 0, .int .u8 0, .int .u8 0, .int .u8 0, .int .u8 0, .int .u8 0] 118) (some w1.heap.size)
    rw [← World.cell?_alloc_lt w1 (.cells #[.int .u8 0, .int .u8 0, .int .u8 0, .int .u8 0, .int .u8 0, .int .u8 0, .int .u8 0, .int .u8 0, .int .u8 0, .int .u8 0] 118) _ hz1] at hc0 hc1 hc2
    clear hb1
    generalize w1.alloc (.cells #[.int .u8 0, .int .u8 0, .int .u8 0, .int .u8 0, .int .u8 0, .int .u8 0, .int .u8 0, .int .u8 0, .int .u8 0, .int .u8 0] 118) = w2 at *
    generalize hB : w1.heap.size = B at *
    have HBB := Lib.hid hB
    clear hB
    have hne : some w.heap.size ≠ some B := by simp; omega
    go_region_held3 (fun x => x.cell? ⟨w.heap.size, 0, none⟩ = some (.int .i64 l) ∧ x.cell? ⟨w.heap.size, 1, none⟩ = some (.int .i64 a) ∧ x.cell? ⟨w.heap.size, 2, none⟩ = some (.int .i64 s)) (first | exact ⟨hc0, hc1, hc2⟩ | exact ⟨hd0, hd1, hd2⟩)
      (first | (go_at_call 75; refine (write_any B 0 1 10 l (fun _ => 0) 118 10 _ (by omega) (by omega) (by exact hr.drew) (by omega) (by omega) (by omega)).mono ?_; rintro e w3 ⟨rfl, hr3, hg3⟩; have hd0 := hg3.cell (v := .int .i64 l) (a := ⟨w.heap.size, 0, none⟩) hc0 hne; have hd1 := hg3.cell (v := .int .i64 a) (a := ⟨w.heap.size, 1, none⟩) hc1 hne; have hd2 := hg3.cell (v := .int .i64 s) (a := ⟨w.heap.size, 2, none⟩) hc2 hne))
    have hg3' := Lib.grownBy_trans (World.grownBy.trans_drew hg) hg3
    clear hc0 hc1 hc2 hr hg hg3
    go_wp2_with fail
    go_region_held3 (fun x => x.cell? ⟨w.heap.size, 0, none⟩ = some (.int .i64 l) ∧ x.cell? ⟨w.heap.size, 1, none⟩ = some (.int .i64 a) ∧ x.cell? ⟨w.heap.size, 2, none⟩ = some (.int .i64 s)) (first | exact ⟨hd0, hd1, hd2⟩ | exact ⟨hc0, hc1, hc2⟩)
      (first | (go_at_call 75; refine (write_any B 1 3 9 a _ 118 10 _ (by omega) (by omega) (by exact hr3.drew) (by omega) (by omega) (by omega)).mono ?_; rintro e w4 ⟨rfl, hr4, hg4⟩; have hc0 := hg4.cell (v := .int .i64 l) (a := ⟨w.heap.size, 0, none⟩) hd0 hne; have hc1 := hg4.cell (v := .int .i64 a) (a := ⟨w.heap.size, 1, none⟩) hd1 hne; have hc2 := hg4.cell (v := .int .i64 s) (a := ⟨w.heap.size, 2, none⟩) hd2 hne))
    have hg4' := Lib.grownBy_trans (World.grownBy.trans_drew hg3') hg4
    clear hd0 hd1 hd2 hr3 hg3' hg4
    go_wp2_with fail
    go_region_held3 (fun x => x.cell? ⟨w.heap.size, 0, none⟩ = some (.int .i64 l) ∧ x.cell? ⟨w.heap.size, 1, none⟩ = some (.int .i64 a) ∧ x.cell? ⟨w.heap.size, 2, none⟩ = some (.int .i64 s)) (first | exact ⟨hc0, hc1, hc2⟩ | exact ⟨hd0, hd1, hd2⟩)
      (first | (go_at_call 75; refine (write_any B 4 6 6 s _ 118 10 _ (by omega) (by omega) (by exact hr4.drew) (by omega) (by omega) (by omega)).mono ?_; rintro e w5 ⟨rfl, hr5, hg5⟩; have hd0 := hg5.cell (v := .int .i64 l) (a := ⟨w.heap.size, 0, none⟩) hc0 hne; have hd1 := hg5.cell (v := .int .i64 a) (a := ⟨w.heap.size, 1, none⟩) hc1 hne; have hd2 := hg5.cell (v := .int .i64 s) (a := ⟨w.heap.size, 2, none⟩) hc2 hne))
    have hg5' := Lib.grownBy_trans (World.grownBy.trans_drew hg4') hg5
    clear hc0 hc1 hc2 hd0 hd1 hd2 hr4 hg4' hg5
    have hcv := conv_text (cap := 10) hv hr5
    clear hr5
    go_wp2
    go_ret
    refine ⟨rfl, (HB.out.trans ⟨hg5'.os, hg5'.tape, hg5'.output, hg5'.size, fun k hk => hg5'.block k ?_ ?_⟩)⟩
    · have := HB.out.size; omega
    · simp; omega
end Go.Proofs.YtglgobmmmghdoaaGreatDoor

