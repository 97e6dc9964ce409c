/-
  keep.In at a list of numbers.
-/
import Derived.Test.YtjgjgilpebeelaaNumO
namespace Go.Proofs.Ytjgjgilpebeelaa
open Go.RowKit

theorem kin_any (b : Nat) (l : List Int) (x : Int) (A : Option Addr) (c : Nat) (w : World) (hz : l.length ≤ 1000000) (h : NumsIn b w A l) :
    Calls Try.prog 22 #[.slice A l.length c, .int .i64 x] w fun e w' => e = .returned (.bool (decide (x ∈ l))) ∧ w = w' := by
  have HL := hide h
  clear h
  go_enter Try.func22, Try.ntmps22
  go_wp2
  go_loop [5] (fun i => ∃ k : Nat, k ≤ l.length ∧ i = .int .i64 k ∧ Hid (∀ j, j < k → l.getD j 0 ≠ x)) (fun i => l.length - (intOf i).toNat)
  case atStart => exact ⟨0, Nat.zero_le _, rfl, Lib.hid fun j hj => absurd hj (Nat.not_lt_zero _)⟩
  case round =>
    obtain ⟨k, hk, rfl, HJ⟩ := hrel
    by_cases hlt : k < l.length
    · obtain ⟨g, off, rfl, _, hc⟩ := (unhide HL) (by omega)
      have c0 := hc k hlt
      have kl : (k : Int) < (l.length : Int) := by omega
      have k0 : (0 : Int) ≤ (k : Int) := by omega
      have HM := hide (show l.getD k 0 ∈ l by rw [at_k hlt]; exact List.getElem_mem _)
      have HN := hide (show l.getD k 0 ≠ x → ∀ j, j < k + 1 → l.getD j 0 ≠ x from fun hn j hj => by
        by_cases e : j = k
        · rw [e]; exact hn
        · exact (unhide HJ) j (by omega))
      generalize l.getD k 0 = y at *
      clear hc
      by_cases he : y = x
      · have hq : (y == x) = true := by rw [beq_iff_eq]; exact he
        have HE := hide he
        clear he
        go_wp2
        go_ret
        exact ⟨ret_bool (by rw [decide_eq_true (by rw [← unhide HE]; exact unhide HM)]), rfl⟩
      · have hq : (y == x) = false := by rw [beq_eq_false_iff_ne]; exact he
        have HE := hide ((unhide HN) he)
        clear he
        go_wp2
        go_round
        case rel => exact ⟨k + 1, by omega, by go_num, Lib.hid (unhide HE)⟩
        case measure => simp [intOf]; omega
    · have kl : ¬ (k : Int) < (l.length : Int) := by omega
      have HM := hide (show x ∉ l from fun hm => by
        obtain ⟨j, hj, e⟩ := List.getElem_of_mem hm
        exact (unhide HJ) j (by omega) (by rw [at_k hj]; exact e))
      go_wp2
      go_ret
      exact ⟨ret_bool (by rw [decide_eq_false (unhide HM)]), rfl⟩
end Go.Proofs.Ytjgjgilpebeelaa
