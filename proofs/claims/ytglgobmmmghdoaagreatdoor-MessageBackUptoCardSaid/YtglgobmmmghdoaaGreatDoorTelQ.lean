/-
  Contracts: equal lists of strings (keep.Strings, slices.Equal).
-/
import Derived.Test.YtglgobmmmghdoaaGreatDoorNumR
import Derived.Test.YtglgobmmmghdoaaGreatDoorTelA
import Derived.Test.YtglgobmmmghdoaaGreatDoorShelf
namespace Go.Proofs.YtglgobmmmghdoaaGreatDoor
open Go.RowKit

theorem toList_eq {a b : ByteArray} : (a.toList == b.toList) = decide (a = b) := by
  by_cases h : a = b
  · subst h; simp
  · rw [decide_eq_false h, beq_eq_false_iff_ne]
    intro e
    apply h
    rw [ByteArray.toList_eq, ByteArray.toList_eq] at e
    exact ByteArray.ext (Array.toList_inj.1 e)

set_option maxHeartbeats 1000000 in
theorem kstr_any (b : Nat) (ps qs : List ByteArray) (A A' : Option Addr) (c c' : Nat) (w : World) (hz : ps.length ≤ 3000) (h : StrsIn b w A ps) (h' : StrsIn b w A' qs) :
    Calls Tryz.prog 14 #[.slice A ps.length c, .slice A' qs.length c'] w fun e w' => e = .returned (.bool (decide (ps = qs))) ∧ Below w.heap.size w w' := by
  by_cases hl : ps.length = qs.length
  · have z0 : ((ps.length : Int) != (qs.length : Int)) = false := by rw [bne_eq_false_iff_eq, hl]
    have HH := hide h
    have HH' := hide h'
    have HL := hide hl
    clear h h' hl
    go_enter Tryz.func14, Tryz.ntmps14
    go_wp2
    go_loopw [5] (fun i wr => ∃ k : Nat, k ≤ ps.length ∧ i = .int .i64 k ∧ Hid (ps.take k = qs.take k) ∧ Below w.heap.size w wr) (fun i _ => ps.length - (intOf i).toNat)
    case atStart => exact ⟨0, Nat.zero_le _, rfl, Lib.hid rfl, Below.refl _ _⟩
    case round =>
      obtain ⟨k, hk, rfl, hd, hb⟩ := hrel
      obtain ⟨wo, rfl⟩ : ∃ wo : World, wo = wr := ⟨_, rfl⟩
      by_cases hlt : k < ps.length
      · have hlt2 : k < qs.length := by have := unhide HL; omega
        obtain ⟨g, off, rfl, _, hc⟩ := ((unhide HH).keep hb) (by omega)
        obtain ⟨g', off', rfl, _, hc'⟩ := ((unhide HH').keep hb) (by omega)
        have q := hc k hlt
        have q' := hc' k hlt2
        have HB := Lib.hid hb
        clear hc hc' hb
        have kl : (k : Int) < (ps.length : Int) := by omega
        have kl2 : (k : Int) < (qs.length : Int) := by omega
        have k0 : (0 : Int) ≤ (k : Int) := by omega
        have HP := hide fun h => take_eq_step (d := ByteArray.empty) hlt hlt2 hd.out h
        have HN := hide fun (h : ps.getD k ByteArray.empty ≠ qs.getD k ByteArray.empty) => ne_of_at h
        generalize ps.getD k ByteArray.empty = x at *
        generalize qs.getD k ByteArray.empty = y at *
        cases hxy : (x.toList == y.toList) with
        | true =>
          have HE := hide (show x = y by rw [toList_eq] at hxy; exact of_decide_eq_true hxy)
          go_wp2_with fail
          go_quiet (fail)
          go_wp2
          go_roundw
          case rel => exact ⟨k + 1, by omega, by go_num, Lib.hid (unhide HP (unhide HE)), draws HB.out _⟩
          case measure => simp [intOf]; omega
        | false =>
          have HE := hide (show x ≠ y by rw [toList_eq] at hxy; exact of_decide_eq_false hxy)
          go_wp2_with fail
          go_quiet (fail)
          go_wp2
          go_ret
          exact ⟨ret_bool (by rw [decide_eq_false (unhide HN (unhide HE))]), draws HB.out _⟩
      · have HE := hide (show ps = qs by
          have := hd.out
          have := unhide HL
          rwa [List.take_of_length_le (by omega), List.take_of_length_le (by omega)] at *)
        have kl : ¬ (k : Int) < (ps.length : Int) := by omega
        have HB := Lib.hid hb
        clear hb
        go_wp2
        go_ret
        exact ⟨ret_bool (by rw [decide_eq_true (unhide HE)]), HB.out⟩
  · have z0 : ((ps.length : Int) != (qs.length : Int)) = true := by rw [bne_iff_ne]; omega
    have hne : ps ≠ qs := fun e => hl (by rw [e])
    rw [decide_eq_false hne]
    clear h h' hl hne
    go_enter Tryz.func14, Tryz.ntmps14
    go_wp2
    go_ret
    exact ⟨rfl, Below.refl _ _⟩

theorem seq_any (b : Nat) (ps qs : List ByteArray) (A A' : Option Addr) (c c' : Nat) (w : World) (hz : ps.length ≤ 3000) (h : StrsIn b w A ps) (h' : StrsIn b w A' qs) :
    Calls Tryz.prog 80 #[.slice A ps.length c, .slice A' qs.length c'] w fun e w' => e = .returned (.bool (decide (ps = qs))) ∧ Below w.heap.size w w' := by
  by_cases hl : ps.length = qs.length
  · by_cases h0 : ps.length = 0
    · have e1 : ps = [] := List.eq_nil_of_length_eq_zero h0
      have e2 : qs = [] := List.eq_nil_of_length_eq_zero (by omega)
      subst e1 e2
      refine (Tryz.slices_Equal_string_empty A A' c 0 c' w (by omega)).mono ?_
      rintro e w' ⟨rfl, rfl⟩
      exact ⟨rfl, Below.refl _ _⟩
    · obtain ⟨g, off, rfl, _, hc⟩ := h (by omega)
      obtain ⟨g', off', rfl, _, hc'⟩ := h' (by omega)
      refine (Tryz.slices_Equal_string g off ps.length c g' off' qs.length c' ps qs w (Nat.le_refl _) (Nat.le_refl _) (by omega) (by omega) hc hc').mono ?_
      rintro e w' ⟨rfl, q, rfl⟩
      rw [List.take_length, List.take_length]
      exact ⟨rfl, draws (Below.refl _ _) _⟩
  · refine (Tryz.slices_Equal_string_lens A A' ps.length c qs.length c' w hl).mono ?_
    rintro e w' ⟨rfl, rfl⟩
    rw [decide_eq_false (fun e => hl (by rw [e]))]
    exact ⟨rfl, Below.refl _ _⟩
end Go.Proofs.YtglgobmmmghdoaaGreatDoor
