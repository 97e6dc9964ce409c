/-
  Contracts of messages: equality of legs and plates, of lists of legs (slices.Equal, the reference's) and of numbers (keep.Ints, slices.Equal); ascending; ValidName.
-/
import Derived.Test.YtmonjjffbmccjaaGreatDoorMsgA
import Derived.Test.YtmonjjffbmccjaaGreatDoorShelf
import Derived.Test.YtmonjjffbmccjaaGreatDoorTelQ
namespace Go.Proofs.YtmonjjffbmccjaaGreatDoor
open Go.RowKit

def lgE6 (g h : Lg) : Bool := ((g.c.toList == h.c.toList) && ((g.n == h.n) && ((g.s.toList == h.s.toList) && ((g.d == h.d) && ((g.p.toList == h.p.toList) && (g.k.toList == h.k.toList))))))
theorem lgE6_dec (g h : Lg) : lgE6 g h = decide (g = h) := by
  unfold lgE6
  rw [toList_eq, toList_eq, toList_eq, toList_eq, Bool.eq_iff_iff]
  simp only [Bool.and_eq_true, decide_eq_true_eq, beq_iff_eq]
  exact Lg.ext_iff'.symm
theorem lgE6_iff {g h : Lg} : lgE6 g h = true ↔ g = h := by rw [lgE6_dec, decide_eq_true_eq]

abbrev plV (l a s : Int) : Value := .agg #[.int .i64 l, .int .i64 a, .int .i64 s]
def plE (l a s l' a' s' : Int) : Bool := (l == l') && ((a == a') && (s == s'))
theorem plE_iff {l a s l' a' s' : Int} : plE l a s l' a' s' = true ↔ l = l' ∧ a = a' ∧ s = s' := by unfold plE; simp only [Bool.and_eq_true, beq_iff_eq]
set_option maxHeartbeats 2000000 in
theorem kints_any (b : Nat) (l m : List Int) (A A' : Option Addr) (c c' : Nat) (w : World) (hz : l.length ≤ 1000000000) (h : NumsIn b w A l) (h' : NumsIn b w A' m) :
    Calls Tryz.prog 19 #[.slice A l.length c, .slice A' m.length c'] w fun e w' => e = .returned (.bool (decide (l = m))) ∧ Below w.heap.size w w' := by
  by_cases hl : l.length = m.length
  · have z0 : ((l.length : Int) != (m.length : Int)) = false := by rw [bne_eq_false_iff_eq, hl]
    have HH := hide h
    have HH' := hide h'
    have HL := hide hl
    clear h h' hl
    go_enter Tryz.func19, Tryz.ntmps19
    go_wp2
    go_loopw [5] (fun i wr => ∃ k : Nat, k ≤ l.length ∧ i = .int .i64 k ∧ Hid (l.take k = m.take k) ∧ Below w.heap.size w wr) (fun i _ => l.length - (intOf i).toNat)
    case atStart => exact ⟨0, Nat.zero_le _, rfl, Lib.hid rfl, Below.refl _ _⟩
    case round =>
      obtain ⟨k, hk, rfl, hd, hb⟩ := hrel
      obtain ⟨wo, rfl⟩ : ∃ wo : World, wo = wr := ⟨_, rfl⟩
      have HB := Lib.hid hb
      clear hb
      by_cases hlt : k < l.length
      · have hlt2 : k < m.length := by have := unhide HL; omega
        obtain ⟨g, off, rfl, _, hc⟩ := ((unhide HH).keep HB.out) (by omega)
        obtain ⟨g', off', rfl, _, hc'⟩ := ((unhide HH').keep HB.out) (by omega)
        have c0 := hc k hlt
        have d0 := hc' k hlt2
        clear hc hc'
        have kl : (k : Int) < (l.length : Int) := by omega
        have kl2 : (k : Int) < (m.length : Int) := by omega
        have k0 : (0 : Int) ≤ (k : Int) := by omega
        have HP := hide fun h => take_eq_step (d := (0 : Int)) hlt hlt2 hd.out h
        have HN := hide fun (h : l.getD k 0 ≠ m.getD k 0) => ne_of_at h
        generalize l.getD k 0 = x at *
        generalize m.getD k 0 = y at *
        cases hxy : (x != y) with
        | false =>
          have HX := hide (show x = y by rwa [bne_eq_false_iff_eq] at hxy)
          go_wp2_with fail
          go_quiet (fail)
          go_wp2
          go_roundw
          case rel => exact ⟨k + 1, by omega, by go_num, Lib.hid (unhide HP (unhide HX)), draws HB.out _⟩
          case measure => simp [intOf]; omega
        | true =>
          have HX := hide (show x ≠ y by rwa [bne_iff_ne] at hxy)
          go_wp2_with fail
          go_quiet (fail)
          go_wp2
          go_ret
          exact ⟨ret_bool (by rw [decide_eq_false (unhide HN (unhide HX))]), draws HB.out _⟩
      · have HE := hide (show l = m by
          have := hd.out
          have := unhide HL
          rwa [List.take_of_length_le (by omega), List.take_of_length_le (by omega)] at *)
        have kl : ¬ (k : Int) < (l.length : Int) := by omega
        go_wp2
        go_ret
        exact ⟨ret_bool (by rw [decide_eq_true (unhide HE)]), HB.out⟩
  · have z0 : ((l.length : Int) != (m.length : Int)) = true := by rw [bne_iff_ne]; omega
    have hne : l ≠ m := fun e => hl (by rw [e])
    rw [decide_eq_false hne]
    clear h h' hl hne
    go_enter Tryz.func19, Tryz.ntmps19
    go_wp2
    go_ret
    exact ⟨rfl, Below.refl _ _⟩


theorem eqints_any (b : Nat) (ps qs : List Int) (A A' : Option Addr) (c c' : Nat) (w : World) (hz : ps.length ≤ 1000000000) (h : NumsIn b w A ps) (h' : NumsIn b w A' qs) :
    Calls Tryz.prog 88 #[.slice A ps.length c, .slice A' qs.length c'] w fun e w' => e = .returned (.bool (decide (ps = qs))) ∧ Below w.heap.size w w' := by
  by_cases hl : ps.length = qs.length
  · by_cases h0 : ps.length = 0
    · have e1 : ps = [] := List.eq_nil_of_length_eq_zero h0
      have e2 : qs = [] := List.eq_nil_of_length_eq_zero (by omega)
      subst e1 e2
      refine (Tryz.slices_Equal_int_empty A A' c 0 c' w (by omega)).mono ?_
      rintro e w' ⟨rfl, rfl⟩
      exact ⟨rfl, Below.refl _ _⟩
    · obtain ⟨g, off, rfl, _, hc⟩ := h (by omega)
      obtain ⟨g', off', rfl, _, hc'⟩ := h' (by omega)
      refine (Tryz.slices_Equal_int g off ps.length c g' off' qs.length c' ps qs w (Nat.le_refl _) (Nat.le_refl _) (by omega) (by omega) hc hc').mono ?_
      rintro e w' ⟨rfl, q, rfl⟩
      rw [List.take_length, List.take_length]
      exact ⟨ret_bool (by rw [Bool.eq_iff_iff, beq_iff_eq, decide_eq_true_eq]), draws (Below.refl _ _) _⟩
  · refine (Tryz.slices_Equal_int_lens A A' ps.length c qs.length c' w hl).mono ?_
    rintro e w' ⟨rfl, rfl⟩
    rw [decide_eq_false (fun e => hl (by rw [e]))]
    exact ⟨rfl, Below.refl _ _⟩
end Go.Proofs.YtmonjjffbmccjaaGreatDoor
