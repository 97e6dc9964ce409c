/-
  Plain mathematics of digits and letters; contracts of the smallest functions, of package ascii, of the writers of digits, of Format of a plate; regions that draw; the reader of numbers.
-/
import Derived.Test.YtbjpcajhceapkaaLibB
import Derived.WalkKit
import Derived.Laws.BytesArg
import Derived.Test.YtbjpcajhceapkaaRows
import Derived.WalkSpells
import Derived.WalkLawsBesides
import Derived.Handy
import Derived.Lib.Hide
import Derived.ProofKit
import Derived.Deep.OwnRows
import Derived.Lib.BufferOwn
import Derived.StillTailTactics
import Derived.Deep.RegionHeld3
import Derived.BigQuiet
import Derived.StillTail

/- Leaf: Contracts of the smallest functions: Valid (both), sign, cmp.Compare, Compare (both), Mod, Number. -/
namespace Go.Proofs.Ytbjpcajhceapkaa
open Go.RowKit

set_option maxHeartbeats 400000 in
theorem ccmp_any (a b : Int) (w : World) :
    Calls Try.prog 37 #[.int .i64 a, .int .i64 b] w fun e w' => e = .returned (.int .i64 (sgn a b)) ∧ w = w' := by
  go_enter Try.func37, Try.ntmps37
  go_wp2
  all_goals (go_ret; refine ⟨?_, rfl⟩; unfold sgn; simp; try omega)

end Go.Proofs.Ytbjpcajhceapkaa

/- Ascii: Contracts of package ascii: Letter, Digit, Letters, Value; the document's Letter, Digit. -/
namespace Go.Proofs.Ytbjpcajhceapkaa
open Go.RowKit

/-- What a call of Value comes to. -/
def Valued (s : ByteArray) (w : World) (e : Ending) (w' : World) : Prop := e = .returned (.tuple #[.int .i64 (numV s), .bool (numB s)]) ∧ w = w'
theorem Valued.no {s : ByteArray} {w : World} (h : numB s = false) : Valued s w (.returned (.tuple #[.int .i64 0, .bool false])) w := ⟨by rw [h, numV_no h], rfl⟩

end Go.Proofs.Ytbjpcajhceapkaa

/- Str: Contracts of the functions on digits: All, Value. -/
namespace Go.Proofs.Ytbjpcajhceapkaa
open Go.RowKit

end Go.Proofs.Ytbjpcajhceapkaa

/- MathB: Plain mathematics: what Parse comes to, as functions on byte strings. -/
namespace Go.Proofs.Ytbjpcajhceapkaa
/-- What Parse returns: Lead, Airline, Serial, and the error. -/
def pForm (s : ByteArray) : Bool := decide (s.size = 10) && allDig s.data.toList
def pL0 (s : ByteArray) : Int := valN (s.extract 0 1).data.toList
def pA0 (s : ByteArray) : Int := valN (s.extract 1 4).data.toList
def pS0 (s : ByteArray) : Int := valN (s.extract 4 s.size).data.toList
def pOk (s : ByteArray) : Bool := pForm s && vld (pL0 s) (pA0 s) (pS0 s)
def pL (s : ByteArray) : Int := if pOk s then pL0 s else 0
def pA (s : ByteArray) : Int := if pOk s then pA0 s else 0
def pS (s : ByteArray) : Int := if pOk s then pS0 s else 0
def pE (s : ByteArray) : Int := if pForm s then (if pOk s then 0 else 1) else 3

theorem allDig_ext (s : ByteArray) (a b : Nat) (h : allDig s.data.toList = true) : allDig (s.extract a b).data.toList = true := by
  unfold allDig at *
  rw [List.all_eq_true] at *
  intro x hx
  apply h
  have e : (s.extract a b).data.toList = (s.data.toList.drop a).take (b - a) := by
    rw [ByteArray.data_extract, Array.toList_extract]
  rw [e] at hx
  exact List.mem_of_mem_drop (List.mem_of_mem_take hx)
theorem pForm_yes {s : ByteArray} (h : s.size = 10) (hd : allDig s.data.toList = true) : pForm s = true := by unfold pForm; rw [hd]; simp [h]
theorem pForm_no1 {s : ByteArray} (h : s.size ≠ 10) : pForm s = false := by unfold pForm; simp [h]
theorem pForm_no2 {s : ByteArray} (hd : allDig s.data.toList = false) : pForm s = false := by unfold pForm; rw [hd]; simp
theorem p_no {s : ByteArray} (h : pForm s = false) : pL s = 0 ∧ pA s = 0 ∧ pS s = 0 ∧ pE s = 3 := by
  have h1 : pOk s = false := by unfold pOk; rw [h]; rfl
  unfold pL pA pS pE; rw [h1, h]; simp
theorem p_range {s : ByteArray} (h : pForm s = true) (hv : vld (pL0 s) (pA0 s) (pS0 s) = false) : pL s = 0 ∧ pA s = 0 ∧ pS s = 0 ∧ pE s = 1 := by
  have h1 : pOk s = false := by unfold pOk; rw [h, hv]; rfl
  unfold pL pA pS pE; rw [h1, h]; simp
theorem p_yes {s : ByteArray} (h : pForm s = true) (hv : vld (pL0 s) (pA0 s) (pS0 s) = true) : pL s = pL0 s ∧ pA s = pA0 s ∧ pS s = pS0 s ∧ pE s = 0 := by
  have h1 : pOk s = true := by unfold pOk; rw [h, hv]; rfl
  unfold pL pA pS pE; rw [h1, h]; simp
end Go.Proofs.Ytbjpcajhceapkaa

/- Write: Contracts of the functions that write digits: write (into a slice that came in), Digits (a string). -/
namespace Go.Proofs.Ytbjpcajhceapkaa
open Go.RowKit

def u8f (g : Nat → Int) : Nat → Value := fun j => .int .u8 (g j)

theorem put_step {wr : World} {b : Nat} {t : TypeId} {N : Nat} {g : Nat → Int} {off len : Nat} {n m : Int} {k : Nat} (hk : k < len) (hm : m = n / ((10 ^ k : Nat) : Int))
    (hr : wr.rowIs b t N (u8f (wrd g off len n k))) : (wr.setCell ⟨b, off + (len - 1 - k), none⟩ (.int .u8 (48 + m % 10))).rowIs b t N (u8f (wrd g off len n (k + 1))) :=
  (hr.set _ _).congr fun j _ => by
    have h := wrd_step g off len n m k hk hm j
    unfold u8f
    rw [← h]
    split <;> rfl

end Go.Proofs.Ytbjpcajhceapkaa

/- Digits: Contract of Digits: a number with a fixed number of decimal digits, as a string. -/
namespace Go.Proofs.Ytbjpcajhceapkaa
open Go.RowKit

theorem info_u8 : (Try.prog.info? 5).map (fun i => (i.zero, i.size, i.bytes)) = some (some (.int .u8 0), 1, 1) := by kernel_rfl

end Go.Proofs.Ytbjpcajhceapkaa

/- Format: Contracts of Format (both): the text of a plate. -/
namespace Go.Proofs.Ytbjpcajhceapkaa
open Go.RowKit

/-- The cells of a boxed plate, in a later world. -/
theorem box_cells {w w1 : World} {l a s : Int} {t : TypeId} (hb : Below (w.alloc (.cells #[.int .i64 l, .int .i64 a, .int .i64 s] t)).heap.size (w.alloc (.cells #[.int .i64 l, .int .i64 a, .int .i64 s] t)) w1) :
    w1.cell? ⟨w.heap.size, 0, none⟩ = some (.int .i64 l) ∧ w1.cell? ⟨w.heap.size, 1, none⟩ = some (.int .i64 a) ∧ w1.cell? ⟨w.heap.size, 2, none⟩ = some (.int .i64 s) := by
  refine ⟨?_, ?_, ?_⟩ <;> (rw [hb.cell (by simp)]; simp [go_sem])

theorem num_bd {l a s : Int} (h : vld l a s = true) : 0 ≤ num l a s ∧ num l a s ≤ 1000000000000 := by
  obtain ⟨h1, h2, h3, h4, h5, h6⟩ := vld_iff.1 h
  unfold num; omega

theorem array_row {w1 : World} (t : TypeId) :
    (w1.alloc (.cells #[.int .u8 0, .int .u8 0, .int .u8 0, .int .u8 0, .int .u8 0, .int .u8 0, .int .u8 0, .int .u8 0, .int .u8 0, .int .u8 0] t)).rowIs w1.heap.size t 10 (u8f fun _ => 0) :=
  World.rowIs_alloc _ _ _ _ fun i hi => by
    have : i < 10 := hi
    match i, this with
    | 0, _ | 1, _ | 2, _ | 3, _ | 4, _ | 5, _ | 6, _ | 7, _ | 8, _ | 9, _ => rfl

theorem text_at {l a s : Int} (h : vld l a s = true) (i : Nat) (hi : i < 10) : wrd (wrd (wrd (fun _ => 0) 0 1 l 1) 1 3 a 3) 4 6 s 6 i = (dgs (num l a s) 10).getD i 0 := by
  obtain ⟨h1, h2, h3, h4, h5, h6⟩ := vld_iff.1 h
  rw [dgs_at _ _ i hi]
  unfold num
  match i, hi with
  | 0, _ | 1, _ | 2, _ | 3, _ | 4, _ | 5, _ | 6, _ | 7, _ | 8, _ | 9, _ => simp [wrd]; omega

end Go.Proofs.Ytbjpcajhceapkaa

