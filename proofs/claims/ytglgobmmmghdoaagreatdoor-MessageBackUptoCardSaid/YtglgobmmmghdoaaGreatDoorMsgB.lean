/-
  Contracts of messages: equality of legs and plates, of lists of legs (slices.Equal, the reference's) and of numbers (keep.Ints, slices.Equal); ascending; ValidName.
-/
import Derived.Test.YtglgobmmmghdoaaGreatDoorNumR
import Derived.Test.YtglgobmmmghdoaaGreatDoorMsgA
import Derived.Test.YtglgobmmmghdoaaGreatDoorShelf
import Derived.Test.YtglgobmmmghdoaaGreatDoorTelQ
namespace Go.Proofs.YtglgobmmmghdoaaGreatDoor
open Go.RowKit

def lgE6 (g h : Lg) : Bool := ((g.c.toList == h.c.toList) && ((g.n == h.n) && ((g.s.toList == h.s.toList) && ((g.d == h.d) && ((g.p.toList == h.p.toList) && (g.k.toList == h.k.toList))))))
theorem lgE6_dec (g h : Lg) : lgE6 g h = decide (g = h) := by
  unfold lgE6
  rw [toList_eq, toList_eq, toList_eq, toList_eq, Bool.eq_iff_iff]
  simp only [Bool.and_eq_true, decide_eq_true_eq, beq_iff_eq]
  exact Lg.ext_iff'.symm
theorem lgE6_iff {g h : Lg} : lgE6 g h = true ↔ g = h := by rw [lgE6_dec, decide_eq_true_eq]

set_option maxHeartbeats 4000000 in
theorem leg_eql (g h : Lg) (w : World) : (Go.binOp .eql 30 (lgV g) (lgV h)).run Tryz.prog w = .ok (.bool (lgE6 g h)) w := by
  unfold lgE6
  cases h0 : (g.c.toList == h.c.toList)
  · go_simp
  ·
    cases h1 : (g.n == h.n)
    · go_simp
    ·
      cases h2 : (g.s.toList == h.s.toList)
      · go_simp
      ·
        cases h3 : (g.d == h.d)
        · go_simp
        ·
          cases h4 : (g.p.toList == h.p.toList)
          · go_simp
          ·
            cases h5 : (g.k.toList == h.k.toList)
            · go_simp
            · go_simp
set_option maxHeartbeats 4000000 in
theorem leg_neq (g h : Lg) (w : World) : (Go.binOp .neq 30 (lgV g) (lgV h)).run Tryz.prog w = .ok (.bool (!lgE6 g h)) w := by
  unfold lgE6
  cases h0 : (g.c.toList == h.c.toList)
  · go_simp
  ·
    cases h1 : (g.n == h.n)
    · go_simp
    ·
      cases h2 : (g.s.toList == h.s.toList)
      · go_simp
      ·
        cases h3 : (g.d == h.d)
        · go_simp
        ·
          cases h4 : (g.p.toList == h.p.toList)
          · go_simp
          ·
            cases h5 : (g.k.toList == h.k.toList)
            · go_simp
            · go_simp

abbrev plV (l a s : Int) : Value := .agg #[.int .i64 l, .int .i64 a, .int .i64 s]
def plE (l a s l' a' s' : Int) : Bool := (l == l') && ((a == a') && (s == s'))
theorem plE_iff {l a s l' a' s' : Int} : plE l a s l' a' s' = true ↔ l = l' ∧ a = a' ∧ s = s' := by unfold plE; simp only [Bool.and_eq_true, beq_iff_eq]
set_option maxHeartbeats 4000000 in
theorem plate_eql (l a s l' a' s' : Int) (w : World) : (Go.binOp .eql 33 (plV l a s) (plV l' a' s')).run Tryz.prog w = .ok (.bool (plE l a s l' a' s')) w := by
  unfold plE
  cases h0 : (l == l')
  · go_simp
  · cases h1 : (a == a')
    · go_simp
    · cases h2 : (s == s')
      · go_simp
      · go_simp
set_option maxHeartbeats 4000000 in
theorem plate_neq (l a s l' a' s' : Int) (w : World) : (Go.binOp .neq 33 (plV l a s) (plV l' a' s')).run Tryz.prog w = .ok (.bool (!plE l a s l' a' s')) w := by
  unfold plE
  cases h0 : (l == l')
  · go_simp
  · cases h1 : (a == a')
    · go_simp
    · cases h2 : (s == s')
      · go_simp
      · go_simp

set_option maxHeartbeats 2000000 in
theorem eqlegs_any (b : Nat) (l m : List Lg) (A A' : Option Addr) (c c' : Nat) (w : World) (hz : l.length ≤ 1000000000) (h : LegsIn b w A l) (h' : LegsIn b w A' m) :
    Calls Tryz.prog 64 #[.slice A l.length c, .slice A' m.length c'] w fun e w' => e = .returned (.bool (decide (l = m))) ∧ Below w.heap.size w w' := by
  by_cases hl : l.length = m.length
  · have z0 : ((l.length : Int) != (m.length : Int)) = false := by rw [bne_eq_false_iff_eq, hl]
    have HH := hide h
    have HH' := hide h'
    have HL := hide hl
    clear h h' hl
    go_enter Tryz.func64, Tryz.ntmps64
    go_wp2
    go_loopw [5, 13] (fun _ i wr => ∃ k : Nat, k ≤ l.length ∧ i = .int .i64 k ∧ Hid (l.take k = m.take k) ∧ Below w.heap.size w wr) (fun _ i _ => l.length - (intOf i).toNat)
    case atStart => exact ⟨0, Nat.zero_le _, rfl, Lib.hid rfl, Below.refl _ _⟩
    case round =>
      obtain ⟨k, hk, rfl, hd, hb⟩ := hrel
      obtain ⟨wo, rfl⟩ : ∃ wo : World, wo = wr := ⟨_, rfl⟩
      have HB := Lib.hid hb
      clear hb
      by_cases hlt : k < l.length
      · have hlt2 : k < m.length := by have := unhide HL; omega
        obtain ⟨g, off, rfl, _, hc⟩ := ((unhide HH).keep HB.out) (by omega)
        obtain ⟨g', off', rfl, _, hc'⟩ := ((unhide HH').keep HB.out) (by omega)
        obtain ⟨c0, c1, c2, c3, c4, c5⟩ := hc k hlt
        obtain ⟨d0, d1, d2, d3, d4, d5⟩ := hc' k hlt2
        clear hc hc'
        have kl : (k : Int) < (l.length : Int) := by omega
        have kl2 : (k : Int) < (m.length : Int) := by omega
        have k0 : (0 : Int) ≤ (k : Int) := by omega
        have HP := hide fun h => take_eq_step (d := lg0) hlt hlt2 hd.out h
        have HN := hide fun (h : l.getD k lg0 ≠ m.getD k lg0) => ne_of_at h
        generalize l.getD k lg0 = x at *
        generalize m.getD k lg0 = y at *
        have hop := leg_neq x y
        cases hxy : lgE6 x y with
        | true =>
          have HX := hide (lgE6_iff.1 hxy)
          go_wp2_with fail
          go_quiet (fail)
          go_wp2
          go_roundw
          case rel => exact ⟨k + 1, by omega, by go_num, Lib.hid (unhide HP (unhide HX)), draws HB.out _⟩
          case measure => simp [intOf]; omega
        | false =>
          have HX := hide (show x ≠ y from fun e => Bool.noConfusion (hxy.symm.trans (lgE6_iff.2 e)))
          go_wp2_with fail
          go_quiet (fail)
          go_wp2
          go_ret
          exact ⟨ret_bool (by rw [decide_eq_false (unhide HN (unhide HX))]), draws HB.out _⟩
      · have HE := hide (show l = m by
          have := hd.out
          have := unhide HL
          rwa [List.take_of_length_le (by omega), List.take_of_length_le (by omega)] at *)
        have kl : ¬ (k : Int) < (l.length : Int) := by omega
        go_wp2
        go_ret
        exact ⟨ret_bool (by rw [decide_eq_true (unhide HE)]), HB.out⟩
  · have z0 : ((l.length : Int) != (m.length : Int)) = true := by rw [bne_iff_ne]; omega
    have hne : l ≠ m := fun e => hl (by rw [e])
    rw [decide_eq_false hne]
    clear h h' hl hne
    go_enter Tryz.func64, Tryz.ntmps64
    go_wp2
    go_ret
    exact ⟨rfl, Below.refl _ _⟩


set_option maxHeartbeats 2000000 in
theorem rlegs_any (b : Nat) (l m : List Lg) (A A' : Option Addr) (c c' : Nat) (w : World) (hz : l.length ≤ 1000000000) (h : LegsIn b w A l) (h' : LegsIn b w A' m) :
    Calls Tryz.prog 31 #[.slice A l.length c, .slice A' m.length c'] w fun e w' => e = .returned (.bool (decide (l = m))) ∧ Below w.heap.size w w' := by
  by_cases hl : l.length = m.length
  · have z0 : ((l.length : Int) != (m.length : Int)) = false := by rw [bne_eq_false_iff_eq, hl]
    have HH := hide h
    have HH' := hide h'
    have HL := hide hl
    clear h h' hl
    go_enter Tryz.func31, Tryz.ntmps31
    go_wp2
    go_loopw [5] (fun i wr => ∃ k : Nat, k ≤ l.length ∧ i = .int .i64 k ∧ Hid (l.take k = m.take k) ∧ Below w.heap.size w wr) (fun i _ => l.length - (intOf i).toNat)
    case atStart => exact ⟨0, Nat.zero_le _, rfl, Lib.hid rfl, Below.refl _ _⟩
    case round =>
      obtain ⟨k, hk, rfl, hd, hb⟩ := hrel
      obtain ⟨wo, rfl⟩ : ∃ wo : World, wo = wr := ⟨_, rfl⟩
      have HB := Lib.hid hb
      clear hb
      by_cases hlt : k < l.length
      · have hlt2 : k < m.length := by have := unhide HL; omega
        obtain ⟨g, off, rfl, _, hc⟩ := ((unhide HH).keep HB.out) (by omega)
        obtain ⟨g', off', rfl, _, hc'⟩ := ((unhide HH').keep HB.out) (by omega)
        obtain ⟨c0, c1, c2, c3, c4, c5⟩ := hc k hlt
        obtain ⟨d0, d1, d2, d3, d4, d5⟩ := hc' k hlt2
        clear hc hc'
        have kl : (k : Int) < (l.length : Int) := by omega
        have kl2 : (k : Int) < (m.length : Int) := by omega
        have k0 : (0 : Int) ≤ (k : Int) := by omega
        have HP := hide fun h => take_eq_step (d := lg0) hlt hlt2 hd.out h
        have HN := hide fun (h : l.getD k lg0 ≠ m.getD k lg0) => ne_of_at h
        generalize l.getD k lg0 = x at *
        generalize m.getD k lg0 = y at *
        have hop := leg_neq x y
        cases hxy : lgE6 x y with
        | true =>
          have HX := hide (lgE6_iff.1 hxy)
          go_wp2_with fail
          go_quiet (fail)
          go_wp2
          go_roundw
          case rel => exact ⟨k + 1, by omega, by go_num, Lib.hid (unhide HP (unhide HX)), draws HB.out _⟩
          case measure => simp [intOf]; omega
        | false =>
          have HX := hide (show x ≠ y from fun e => Bool.noConfusion (hxy.symm.trans (lgE6_iff.2 e)))
          go_wp2_with fail
          go_quiet (fail)
          go_wp2
          go_ret
          exact ⟨ret_bool (by rw [decide_eq_false (unhide HN (unhide HX))]), draws HB.out _⟩
      · have HE := hide (show l = m by
          have := hd.out
          have := unhide HL
          rwa [List.take_of_length_le (by omega), List.take_of_length_le (by omega)] at *)
        have kl : ¬ (k : Int) < (l.length : Int) := by omega
        go_wp2
        go_ret
        exact ⟨ret_bool (by rw [decide_eq_true (unhide HE)]), HB.out⟩
  · have z0 : ((l.length : Int) != (m.length : Int)) = true := by rw [bne_iff_ne]; omega
    have hne : l ≠ m := fun e => hl (by rw [e])
    rw [decide_eq_false hne]
    clear h h' hl hne
    go_enter Tryz.func31, Tryz.ntmps31
    go_wp2
    go_ret
    exact ⟨rfl, Below.refl _ _⟩


theorem eqints_any (b : Nat) (ps qs : List Int) (A A' : Option Addr) (c c' : Nat) (w : World) (hz : ps.length ≤ 1000000000) (h : NumsIn b w A ps) (h' : NumsIn b w A' qs) :
    Calls Tryz.prog 65 #[.slice A ps.length c, .slice A' qs.length c'] w fun e w' => e = .returned (.bool (decide (ps = qs))) ∧ Below w.heap.size w w' := by
  by_cases hl : ps.length = qs.length
  · by_cases h0 : ps.length = 0
    · have e1 : ps = [] := List.eq_nil_of_length_eq_zero h0
      have e2 : qs = [] := List.eq_nil_of_length_eq_zero (by omega)
      subst e1 e2
      refine (Tryz.slices_Equal_int_empty A A' c 0 c' w (by omega)).mono ?_
      rintro e w' ⟨rfl, rfl⟩
      exact ⟨rfl, Below.refl _ _⟩
    · obtain ⟨g, off, rfl, _, hc⟩ := h (by omega)
      obtain ⟨g', off', rfl, _, hc'⟩ := h' (by omega)
      refine (Tryz.slices_Equal_int g off ps.length c g' off' qs.length c' ps qs w (Nat.le_refl _) (Nat.le_refl _) (by omega) (by omega) hc hc').mono ?_
      rintro e w' ⟨rfl, q, rfl⟩
      rw [List.take_length, List.take_length]
      exact ⟨ret_bool (by rw [Bool.eq_iff_iff, beq_iff_eq, decide_eq_true_eq]), draws (Below.refl _ _) _⟩
  · refine (Tryz.slices_Equal_int_lens A A' ps.length c qs.length c' w hl).mono ?_
    rintro e w' ⟨rfl, rfl⟩
    rw [decide_eq_false (fun e => hl (by rw [e]))]
    exact ⟨rfl, Below.refl _ _⟩
end Go.Proofs.YtglgobmmmghdoaaGreatDoor
