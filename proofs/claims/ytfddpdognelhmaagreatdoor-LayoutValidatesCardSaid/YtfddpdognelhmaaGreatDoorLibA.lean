/-
  Plain mathematics of digits and letters; contracts of the smallest functions, of package ascii, of the writers of digits, of Format of a plate; regions that draw; the reader of numbers.
-/
import Derived.Test.YtfddpdognelhmaaGreatDoorLibB
import Derived.WalkKit
import Derived.Laws.BytesArg
import Derived.Test.YtfddpdognelhmaaGreatDoorRows
import Derived.WalkSpells
import Derived.WalkLawsBesides
import Derived.Handy
import Derived.Lib.Hide
import Derived.ProofKit
import Derived.Deep.OwnRows
import Derived.Lib.BufferOwn
import Derived.StillTailTactics
import Derived.Deep.RegionHeld3
import Derived.BigQuiet
import Derived.StillTail

/- Leaf: Contracts of the smallest functions: Valid (both), sign, cmp.Compare, Compare (both), Mod, Number. -/
namespace Go.Proofs.YtfddpdognelhmaaGreatDoor
open Go.RowKit

end Go.Proofs.YtfddpdognelhmaaGreatDoor

/- Ascii: Contracts of package ascii: Letter, Digit, Letters, Value; the document's Letter, Digit. -/
namespace Go.Proofs.YtfddpdognelhmaaGreatDoor
open Go.RowKit

theorem rletter_any (c : Int) (w : World) :
    Calls Tryz.prog 81 #[.int .u8 c] w fun e w' => e = .returned (.bool (isLe c)) ∧ w = w' := by
  go_enter Tryz.func81, Tryz.ntmps81
  go_wp2
  all_goals (go_ret; refine ⟨ret_bool (Bool.eq_iff_iff.2 (Iff.trans ?_ isLe_iff.symm)), rfl⟩; first | (simp; omega) | (simp only [Bool.false_eq_true]; omega))

theorem rdigit_any (c : Int) (w : World) :
    Calls Tryz.prog 82 #[.int .u8 c] w fun e w' => e = .returned (.bool (isD c)) ∧ w = w' := by
  go_enter Tryz.func82, Tryz.ntmps82
  go_wp2
  all_goals (go_ret; refine ⟨ret_bool (Bool.eq_iff_iff.2 (Iff.trans ?_ isD_iff.symm)), rfl⟩; first | (simp; omega) | (simp only [Bool.false_eq_true]; omega))

/-- What a call of Value comes to. -/
def Valued (s : ByteArray) (w : World) (e : Ending) (w' : World) : Prop := e = .returned (.tuple #[.int .i64 (numV s), .bool (numB s)]) ∧ w = w'
theorem Valued.no {s : ByteArray} {w : World} (h : numB s = false) : Valued s w (.returned (.tuple #[.int .i64 0, .bool false])) w := ⟨by rw [h, numV_no h], rfl⟩

set_option maxHeartbeats 1000000 in
theorem value_any (s : ByteArray) (w : World) :
    Calls Tryz.prog 106 #[.string s] w (Valued s w) := by
  by_cases hz : 1 ≤ s.size ∧ s.size ≤ 9
  · have h0 : s.toList.isEmpty = false := not_empty hz.1
    have h9 : ¬ (9 : Int) < (s.size : Int) := by omega
    have i9 := hz.2
    go_enter Tryz.func106, Tryz.ntmps106
    go_wp2
    go_loop [4, 15] (fun n i => ∃ k : Nat, k ≤ s.size ∧ i = .int .i64 k ∧ n = .int .i64 (valN (s.data.toList.take k)) ∧ Hid (allDig (s.data.toList.take k) = true)) (fun _ i => s.size - (intOf i).toNat)
    case atStart => exact ⟨0, Nat.zero_le _, rfl, rfl, Lib.hid rfl⟩
    case round =>
      obtain ⟨k, hk, rfl, rfl, hd⟩ := hrel
      have hb := valN_pre9 s i9 k hk hd.out
      by_cases hlt : k < s.size
      · cases hl : isD (s[k].toNat : Int) with
        | true =>
          have hc := isD_iff.1 hl
          go_wp2_with (go_at_call 91; refine (digit_any _ _).mono ?_; rintro e w1 ⟨rfl, rfl⟩)
          go_round
          case rel => exact ⟨k + 1, by omega, by go_num, by rw [valN_step s k hlt], Lib.hid (allDig_step hlt hd.out hc.1 hc.2)⟩
          case measure => simp [intOf]; omega
        | false =>
          go_wp2_with (go_at_call 91; refine (digit_any _ _).mono ?_; rintro e w1 ⟨rfl, rfl⟩)
          go_returns
          refine Valued.no (numB_no2 (allDig_no hlt ?_))
          unfold isD at hl
          have := decide_eq_false_iff_not.1 hl
          omega
      · go_wp2
        go_returns
        have ha := allDig_all s k (by omega) hd.out
        have hn : numB s = true := by rw [numB_of hz]; exact ha
        refine ⟨?_, rfl⟩
        rw [hn, numV_yes hn, ← valN_all s k (by omega)]
        rfl
  · have hn := numB_no1 hz
    by_cases h0 : s.size = 0
    · have he : s.toList.isEmpty = true := by
        rw [ByteArray.toList_eq]
        have : s.data.toList.length = s.size := by simp
        rw [h0] at this
        rw [List.length_eq_zero_iff.1 this]; rfl
      clear hz
      go_enter Tryz.func106, Tryz.ntmps106
      go_wp2
      go_returns
      exact Valued.no hn
    · have he : s.toList.isEmpty = false := not_empty (by omega)
      have h9 : (9 : Int) < (s.size : Int) := by omega
      clear hz
      go_enter Tryz.func106, Tryz.ntmps106
      go_wp2
      go_returns
      exact Valued.no hn
end Go.Proofs.YtfddpdognelhmaaGreatDoor

/- Str: Contracts of the functions on digits: All, Value. -/
namespace Go.Proofs.YtfddpdognelhmaaGreatDoor
open Go.RowKit

end Go.Proofs.YtfddpdognelhmaaGreatDoor

/- MathB: Plain mathematics: what Parse comes to, as functions on byte strings. -/
namespace Go.Proofs.YtfddpdognelhmaaGreatDoor
/-- What Parse returns: Lead, Airline, Serial, and the error. -/
def pForm (s : ByteArray) : Bool := decide (s.size = 10) && allDig s.data.toList
def pL0 (s : ByteArray) : Int := valN (s.extract 0 1).data.toList
def pA0 (s : ByteArray) : Int := valN (s.extract 1 4).data.toList
def pS0 (s : ByteArray) : Int := valN (s.extract 4 s.size).data.toList
def pOk (s : ByteArray) : Bool := pForm s && vld (pL0 s) (pA0 s) (pS0 s)
def pL (s : ByteArray) : Int := if pOk s then pL0 s else 0
def pA (s : ByteArray) : Int := if pOk s then pA0 s else 0
def pS (s : ByteArray) : Int := if pOk s then pS0 s else 0
def pE (s : ByteArray) : Int := if pForm s then (if pOk s then 0 else 1) else 3

theorem allDig_ext (s : ByteArray) (a b : Nat) (h : allDig s.data.toList = true) : allDig (s.extract a b).data.toList = true := by
  unfold allDig at *
  rw [List.all_eq_true] at *
  intro x hx
  apply h
  have e : (s.extract a b).data.toList = (s.data.toList.drop a).take (b - a) := by
    rw [ByteArray.data_extract, Array.toList_extract]
  rw [e] at hx
  exact List.mem_of_mem_drop (List.mem_of_mem_take hx)
theorem pForm_yes {s : ByteArray} (h : s.size = 10) (hd : allDig s.data.toList = true) : pForm s = true := by unfold pForm; rw [hd]; simp [h]
theorem pForm_no1 {s : ByteArray} (h : s.size ≠ 10) : pForm s = false := by unfold pForm; simp [h]
theorem pForm_no2 {s : ByteArray} (hd : allDig s.data.toList = false) : pForm s = false := by unfold pForm; rw [hd]; simp
theorem p_no {s : ByteArray} (h : pForm s = false) : pL s = 0 ∧ pA s = 0 ∧ pS s = 0 ∧ pE s = 3 := by
  have h1 : pOk s = false := by unfold pOk; rw [h]; rfl
  unfold pL pA pS pE; rw [h1, h]; simp
theorem p_range {s : ByteArray} (h : pForm s = true) (hv : vld (pL0 s) (pA0 s) (pS0 s) = false) : pL s = 0 ∧ pA s = 0 ∧ pS s = 0 ∧ pE s = 1 := by
  have h1 : pOk s = false := by unfold pOk; rw [h, hv]; rfl
  unfold pL pA pS pE; rw [h1, h]; simp
theorem p_yes {s : ByteArray} (h : pForm s = true) (hv : vld (pL0 s) (pA0 s) (pS0 s) = true) : pL s = pL0 s ∧ pA s = pA0 s ∧ pS s = pS0 s ∧ pE s = 0 := by
  have h1 : pOk s = true := by unfold pOk; rw [h, hv]; rfl
  unfold pL pA pS pE; rw [h1, h]; simp
end Go.Proofs.YtfddpdognelhmaaGreatDoor

/- Write: Contracts of the functions that write digits: write (into a slice that came in), Digits (a string). -/
namespace Go.Proofs.YtfddpdognelhmaaGreatDoor
open Go.RowKit

def u8f (g : Nat → Int) : Nat → Value := fun j => .int .u8 (g j)

theorem put_step {wr : World} {b : Nat} {t : TypeId} {N : Nat} {g : Nat → Int} {off len : Nat} {n m : Int} {k : Nat} (hk : k < len) (hm : m = n / ((10 ^ k : Nat) : Int))
    (hr : wr.rowIs b t N (u8f (wrd g off len n k))) : (wr.setCell ⟨b, off + (len - 1 - k), none⟩ (.int .u8 (48 + m % 10))).rowIs b t N (u8f (wrd g off len n (k + 1))) :=
  (hr.set _ _).congr fun j _ => by
    have h := wrd_step g off len n m k hk hm j
    unfold u8f
    rw [← h]
    split <;> rfl

end Go.Proofs.YtfddpdognelhmaaGreatDoor

/- Digits: Contract of Digits: a number with a fixed number of decimal digits, as a string. -/
namespace Go.Proofs.YtfddpdognelhmaaGreatDoor
open Go.RowKit

theorem info_u8 : (Tryz.prog.info? 5).map (fun i => (i.zero, i.size, i.bytes)) = some (some (.int .u8 0), 1, 1) := by kernel_rfl

/-- A row that holds the digits, as a string. -/
theorem conv_row {wr : World} {b N : Nat} {t : TypeId} {n : Int} {K off cap : Nat} {g : Nat → Int} (hr : wr.rowIs b t N (u8f (wrd g off K n K))) (hN : off + K ≤ N) :
    (convert 52 9 (.slice (some ⟨b, off, none⟩) K cap)).run Tryz.prog wr = .ok (.string (strOfNums (dgs n K))) wr := by
  refine run_convert_bytes_arg (P := Tryz.prog) wr 52 5 Tryz.underlying52 Tryz.underlying5 b off K cap (dgs n K) (dgs_length _ _) (fun i hi => ?_) 9 Tryz.underlying9
  rw [hr.cell (by omega), dgs_at n K i hi]
  unfold u8f wrd
  rw [if_pos (by omega), show off + K - 1 - (off + i) = K - 1 - i by omega]

set_option maxHeartbeats 400000 in
set_option maxRecDepth 100000 in
theorem digits_any (n : Int) (K : Nat) (w : World) (hn : 0 ≤ n) (hn2 : n ≤ 1000000000000) (h1 : 1 ≤ K) (h2 : K ≤ 1000) :
    Calls Tryz.prog 53 #[.int .i64 n, .int .i64 K] w fun e w' => e = .returned (.string (strOfNums (dgs n K))) ∧ Below w.heap.size w w' := by
  have hmk := run_make_row' (P := Tryz.prog) 52 5 (.int .u8 0) 1 Tryz.underlying52 info_u8 rfl .i64 .i64 K (by omega) (by omega)
  go_enter Tryz.func53, Tryz.ntmps53
  go_wp2
  clear hmk
  go_loopw [0, 6] (fun x i wr => ∃ (k : Nat) (m : Int), k ≤ K ∧ 0 ≤ m ∧ m ≤ n ∧ Hid (m = n / ((10 ^ k : Nat) : Int)) ∧ x = .int .i64 m ∧ i = .int .i64 ((K : Int) - 1 - (k : Int)) ∧ wr.rowIs w.heap.size 5 K (u8f (wrd (fun _ => 0) 0 K n k)) ∧ Below w.heap.size w wr) (fun _ i _ => (intOf i + 1).toNat)
  case atStart => exact ⟨0, n, Nat.zero_le _, hn, Int.le_refl _, Lib.hid (by simp), rfl, by go_num, (World.rowIs_made w _ K _).congr fun j _ => congrArg _ (wrd_zero (fun _ => 0) 0 K n j), (Below.refl _ _).alloc (Nat.le_refl _) _⟩
  case round =>
    obtain ⟨k, m, hk, hm0, hm1, hm, rfl, rfl, hr, hb⟩ := hrel
    have HB := Lib.hid hb
    by_cases hlt : k < K
    · have hc := hr.cell (i := K - 1 - k) (by omega)
      have hf := hr.frozen (K - 1 - k)
      have hp := put_step (off := 0) hlt hm.out hr
      rw [Nat.zero_add] at hp
      have HP := Lib.hid hp
      clear hp hr hb
      go_wp2
      go_roundw
      case rel => exact ⟨k + 1, m / 10, by omega, by omega, by omega, Lib.hid (by rw [hm.out]; exact div_step n k), rfl, by go_num, HP.out, HB.out.setCell (Nat.le_refl _) _⟩
      case measure => simp [intOf]; omega
    · obtain rfl : k = K := by omega
      have hcv := conv_row (cap := k) hr (by omega)
      clear hr hb
      go_wp2
      go_ret
      exact ⟨rfl, HB.out⟩
end Go.Proofs.YtfddpdognelhmaaGreatDoor

/- Format: Contracts of Format (both): the text of a plate. -/
namespace Go.Proofs.YtfddpdognelhmaaGreatDoor
open Go.RowKit

theorem digits10 (n : Int) (w : World) (hn : 0 ≤ n) (hn2 : n ≤ 1000000000000) :
    Calls Tryz.prog 53 #[.int .i64 n, .int .i64 10] w fun e w' => e = .returned (.string (strOfNums (dgs n 10))) ∧ Below w.heap.size w w' :=
  digits_any n 10 w hn hn2 (by omega) (by omega)

/-- The cells of a boxed plate, in a later world. -/
theorem box_cells {w w1 : World} {l a s : Int} {t : TypeId} (hb : Below (w.alloc (.cells #[.int .i64 l, .int .i64 a, .int .i64 s] t)).heap.size (w.alloc (.cells #[.int .i64 l, .int .i64 a, .int .i64 s] t)) w1) :
    w1.cell? ⟨w.heap.size, 0, none⟩ = some (.int .i64 l) ∧ w1.cell? ⟨w.heap.size, 1, none⟩ = some (.int .i64 a) ∧ w1.cell? ⟨w.heap.size, 2, none⟩ = some (.int .i64 s) := by
  refine ⟨?_, ?_, ?_⟩ <;> (rw [hb.cell (by simp)]; simp [go_sem])

theorem num_bd {l a s : Int} (h : vld l a s = true) : 0 ≤ num l a s ∧ num l a s ≤ 1000000000000 := by
  obtain ⟨h1, h2, h3, h4, h5, h6⟩ := vld_iff.1 h
  unfold num; omega

theorem array_row {w1 : World} (t : TypeId) :
    (w1.alloc (.cells #[.int .u8 0, .int .u8 0, .int .u8 0, .int .u8 0, .int .u8 0, .int .u8 0, .int .u8 0, .int .u8 0, .int .u8 0, .int .u8 0] t)).rowIs w1.heap.size t 10 (u8f fun _ => 0) :=
  World.rowIs_alloc _ _ _ _ fun i hi => by
    have : i < 10 := hi
    match i, this with
    | 0, _ | 1, _ | 2, _ | 3, _ | 4, _ | 5, _ | 6, _ | 7, _ | 8, _ | 9, _ => rfl

theorem text_at {l a s : Int} (h : vld l a s = true) (i : Nat) (hi : i < 10) : wrd (wrd (wrd (fun _ => 0) 0 1 l 1) 1 3 a 3) 4 6 s 6 i = (dgs (num l a s) 10).getD i 0 := by
  obtain ⟨h1, h2, h3, h4, h5, h6⟩ := vld_iff.1 h
  rw [dgs_at _ _ i hi]
  unfold num
  match i, hi with
  | 0, _ | 1, _ | 2, _ | 3, _ | 4, _ | 5, _ | 6, _ | 7, _ | 8, _ | 9, _ => simp [wrd]; omega

theorem conv_text {l a s : Int} (h : vld l a s = true) {wr : World} {b : Nat} {t : TypeId} {cap : Nat} (hr : wr.rowIs b t 10 (u8f (wrd (wrd (wrd (fun _ => 0) 0 1 l 1) 1 3 a 3) 4 6 s 6))) :
    (convert 52 9 (.slice (some ⟨b, 0, none⟩) 10 cap)).run Tryz.prog wr = .ok (.string (txt l a s)) wr := by
  have e : txt l a s = strOfNums (dgs (num l a s) 10) := by unfold txt; rw [h]; rfl
  rw [e]
  refine run_convert_bytes_arg (P := Tryz.prog) wr 52 5 Tryz.underlying52 Tryz.underlying5 b 0 10 cap (dgs (num l a s) 10) (dgs_length _ _) (fun i hi => ?_) 9 Tryz.underlying9
  rw [Nat.zero_add, hr.cell (by omega), ← text_at h i hi]
  rfl

end Go.Proofs.YtfddpdognelhmaaGreatDoor

