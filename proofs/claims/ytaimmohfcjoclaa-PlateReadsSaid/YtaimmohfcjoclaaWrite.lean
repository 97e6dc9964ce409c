/-
  Contracts of the functions that write digits: write (into a slice that came in), Digits (a string).
-/
import Derived.Test.YtaimmohfcjoclaaLeaf
import Derived.Deep.OwnRows
import Derived.Lib.BufferOwn
namespace Go.Proofs.Ytaimmohfcjoclaa
open Go.RowKit

def u8f (g : Nat → Int) : Nat → Value := fun j => .int .u8 (g j)

theorem put_step {wr : World} {b : Nat} {t : TypeId} {N : Nat} {g : Nat → Int} {off len : Nat} {n m : Int} {k : Nat} (hk : k < len) (hm : m = n / ((10 ^ k : Nat) : Int))
    (hr : wr.rowIs b t N (u8f (wrd g off len n k))) : (wr.setCell ⟨b, off + (len - 1 - k), none⟩ (.int .u8 (48 + m % 10))).rowIs b t N (u8f (wrd g off len n (k + 1))) :=
  (hr.set _ _).congr fun j _ => by
    have h := wrd_step g off len n m k hk hm j
    unfold u8f
    rw [← h]
    split <;> rfl

set_option maxHeartbeats 400000 in
theorem write_any (b off len cap : Nat) (n : Int) (g : Nat → Int) (t : TypeId) (N : Nat) (w : World) (hn : 0 ≤ n) (hn2 : n ≤ 1000000000000) (hrow : w.rowIs b t N (u8f g)) (hlen : off + len ≤ N) (h1 : 1 ≤ len) (h2 : len ≤ 1000) :
    Calls Try.prog 61 #[.slice (some ⟨b, off, none⟩) len cap, .int .i64 n] w fun e w' => e = .returned (.tuple #[]) ∧ w'.rowIs b t N (u8f (wrd g off len n len)) ∧ w.grownBy w' (some b) := by
  go_enter Try.func61, Try.ntmps61
  go_wp2
  go_loopw [1, 7] (fun x i wr => ∃ (k : Nat) (m : Int), k ≤ len ∧ 0 ≤ m ∧ m ≤ n ∧ Hid (m = n / ((10 ^ k : Nat) : Int)) ∧ x = .int .i64 m ∧ i = .int .i64 k ∧ wr.rowIs b t N (u8f (wrd g off len n k)) ∧ w.grownBy wr (some b)) (fun _ i _ => len - (intOf i).toNat)
  case atStart => exact ⟨0, n, Nat.zero_le _, hn, Int.le_refl _, Lib.hid (by simp), rfl, rfl, hrow.congr fun j _ => congrArg _ (wrd_zero g off len n j), World.grownBy.refl _ _⟩
  case round =>
    obtain ⟨k, m, hk, hm0, hm1, hm, rfl, rfl, hr, hg⟩ := hrel
    by_cases hlt : k < len
    · have hc := hr.cell (i := off + (len - 1 - k)) (by omega)
      have hf := hr.frozen (off + (len - 1 - k))
      have hp := put_step (off := off) hlt hm.out hr
      have HP := Lib.hid hp
      have HR := Lib.hid hr
      have HG := Lib.hid hg
      clear hp hr hg
      go_wp2
      go_roundw
      case rel => exact ⟨k + 1, m / 10, by omega, by omega, by omega, Lib.hid (by rw [hm.out]; exact div_step n k), rfl, by go_num, HP.out, Lib.grownBy_setB HG.out _ _⟩
      case measure => simp [intOf]; omega
    · have e : k = len := by omega
      have HR := Lib.hid hr
      have HG := Lib.hid hg
      clear hr hg
      go_wp2
      go_end0
      refine ⟨rfl, ?_, HG.out⟩
      have := HR.out
      rw [e] at this
      exact this
end Go.Proofs.Ytaimmohfcjoclaa
