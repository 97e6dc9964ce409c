/-
  Contract of Digits: a number with a fixed number of decimal digits, as a string.
-/
import Derived.Test.YtaimmohfcjoclaaWrite
import Derived.Laws.BytesArg
import Derived.ProofKit
namespace Go.Proofs.Ytaimmohfcjoclaa
open Go.RowKit

theorem info_u8 : (Try.prog.info? 5).map (fun i => (i.zero, i.size, i.bytes)) = some (some (.int .u8 0), 1, 1) := by kernel_rfl

/-- A row that holds the digits, as a string. -/
theorem conv_row {wr : World} {b N : Nat} {t : TypeId} {n : Int} {K off cap : Nat} {g : Nat → Int} (hr : wr.rowIs b t N (u8f (wrd g off K n K))) (hN : off + K ≤ N) :
    (convert 48 9 (.slice (some ⟨b, off, none⟩) K cap)).run Try.prog wr = .ok (.string (strOfNums (dgs n K))) wr := by
  refine run_convert_bytes_arg (P := Try.prog) wr 48 5 Try.underlying48 Try.underlying5 b off K cap (dgs n K) (dgs_length _ _) (fun i hi => ?_) 9 Try.underlying9
  rw [hr.cell (by omega), dgs_at n K i hi]
  unfold u8f wrd
  rw [if_pos (by omega), show off + K - 1 - (off + i) = K - 1 - i by omega]

set_option maxHeartbeats 400000 in
theorem digits_any (n : Int) (K : Nat) (w : World) (hn : 0 ≤ n) (hn2 : n ≤ 1000000000000) (h1 : 1 ≤ K) (h2 : K ≤ 1000) :
    Calls Try.prog 62 #[.int .i64 n, .int .i64 K] w fun e w' => e = .returned (.string (strOfNums (dgs n K))) ∧ Below w.heap.size w w' := by
  have hmk := run_make_row' (P := Try.prog) 48 5 (.int .u8 0) 1 Try.underlying48 info_u8 rfl .i64 .i64 K (by omega) (by omega)
  go_enter Try.func62, Try.ntmps62
  go_wp2
  clear hmk
  go_loopw [0, 6] (fun x i wr => ∃ (k : Nat) (m : Int), k ≤ K ∧ 0 ≤ m ∧ m ≤ n ∧ Hid (m = n / ((10 ^ k : Nat) : Int)) ∧ x = .int .i64 m ∧ i = .int .i64 ((K : Int) - 1 - (k : Int)) ∧ wr.rowIs w.heap.size 5 K (u8f (wrd (fun _ => 0) 0 K n k)) ∧ Below w.heap.size w wr) (fun _ i _ => (intOf i + 1).toNat)
  case atStart => exact ⟨0, n, Nat.zero_le _, hn, Int.le_refl _, Lib.hid (by simp), rfl, by go_num, (World.rowIs_made w _ K _).congr fun j _ => congrArg _ (wrd_zero (fun _ => 0) 0 K n j), (Below.refl _ _).alloc (Nat.le_refl _) _⟩
  case round =>
    obtain ⟨k, m, hk, hm0, hm1, hm, rfl, rfl, hr, hb⟩ := hrel
    have HB := Lib.hid hb
    by_cases hlt : k < K
    · have hc := hr.cell (i := K - 1 - k) (by omega)
      have hf := hr.frozen (K - 1 - k)
      have hp := put_step (off := 0) hlt hm.out hr
      rw [Nat.zero_add] at hp
      have HP := Lib.hid hp
      clear hp hr hb
      go_wp2
      go_roundw
      case rel => exact ⟨k + 1, m / 10, by omega, by omega, by omega, Lib.hid (by rw [hm.out]; exact div_step n k), rfl, by go_num, HP.out, HB.out.setCell (Nat.le_refl _) _⟩
      case measure => simp [intOf]; omega
    · obtain rfl : k = K := by omega
      have hcv := conv_row (cap := k) hr (by omega)
      clear hr hb
      go_wp2
      go_ret
      exact ⟨rfl, HB.out⟩
end Go.Proofs.Ytaimmohfcjoclaa
