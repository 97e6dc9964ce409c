/-
  Small contracts of the document's own chapter 7: names, kinds, ranges, the sum of windows, the search for a name, whether a node leads to another.
-/
import Derived.Test.YtfddpdognelhmaaGreatDoorLayGd
import Derived.Test.YtfddpdognelhmaaGreatDoorLaySm
import Derived.Test.YtfddpdognelhmaaGreatDoorLibA
namespace Go.Proofs.YtfddpdognelhmaaGreatDoor
open Go.RowKit

set_option maxHeartbeats 2000000 in
theorem rname_any (s : ByteArray) (w : World) :
    Calls Tryz.prog 61 #[.string s] w fun e w' => e = .returned (.bool (nameB s)) ∧ w = w' := by
  by_cases h0 : s.size = 0
  · have e0 : (s.size : Int) < 1 := by omega
    rw [name_no0 h0]
    clear h0
    go_enter Tryz.func61, Tryz.ntmps61
    go_wp2
    go_ret
    exact ⟨rfl, rfl⟩
  · have e0 : ¬ (s.size : Int) < 1 := by omega
    by_cases h12 : s.size ≤ 12
    · have i12 : ¬ (12 : Int) < (s.size : Int) := by omega
      have p0 : 0 < s.size := by omega
      have p0' : (0 : Int) < (s.size : Int) := by omega
      cases hl : isLe (s[0].toNat : Int) with
      | false =>
        rw [name_noL p0 hl]
        go_enter Tryz.func61, Tryz.ntmps61
        go_wp2_with (go_at_call 81; refine (rletter_any _ _).mono ?_; rw [hl]; rintro e w1 ⟨rfl, rfl⟩)
        go_ret
        exact ⟨rfl, rfl⟩
      | true =>
        rw [name_of p0 h12 hl]
        go_enter Tryz.func61, Tryz.ntmps61
        go_wp2_with (go_at_call 81; refine (rletter_any _ _).mono ?_; rw [hl]; rintro e w1 ⟨rfl, rfl⟩)
        clear i12 e0 p0'
        go_loop [3] (fun i => ∃ k : Nat, k ≤ s.size ∧ i = .int .i64 k ∧ Hid ((s.data.toList.take k).all ldU = true)) (fun i => s.size - (intOf i).toNat)
        case atStart => exact ⟨0, Nat.zero_le _, rfl, Lib.hid rfl⟩
        case round =>
          obtain ⟨k, hk, rfl, hd⟩ := hrel
          clear hl
          by_cases hlt : k < s.size
          · have HP := hide fun (h : ldU s[k] = true) => all_step (p := ldU) (d := 0) (k := k) (by rw [size_list]; exact hlt) hd.out (by rw [byte_at hlt]; exact h)
            have HQ := hide fun (h : ldU s[k] = false) => all_no (p := ldU) (d := 0) (k := k) (by rw [size_list]; exact hlt) (by rw [byte_at hlt]; exact h)
            have kl : (k : Int) < (s.size : Int) := by omega
            have k0 : (0 : Int) ≤ (k : Int) := by omega
            cases h1 : isLe (s[k].toNat : Int) <;> cases h2 : isD (s[k].toNat : Int)
            · have HV := hide (show ldU s[k] = false by unfold ldU; rw [h1, h2]; rfl)
              go_wp2_with (first | (go_at_call 81; refine (rletter_any _ _).mono ?_; rw [h1]; rintro e w1 ⟨rfl, rfl⟩) | (go_at_call 82; refine (rdigit_any _ _).mono ?_; rw [h2]; rintro e w1 ⟨rfl, rfl⟩))
              go_ret
              exact ⟨ret_bool (unhide HQ (unhide HV)).symm, rfl⟩
            all_goals
              have HV := hide (show ldU s[k] = true by unfold ldU; rw [h1, h2]; rfl)
              go_wp2_with (first | (go_at_call 81; refine (rletter_any _ _).mono ?_; rw [h1]; rintro e w1 ⟨rfl, rfl⟩) | (go_at_call 82; refine (rdigit_any _ _).mono ?_; rw [h2]; rintro e w1 ⟨rfl, rfl⟩))
              go_round
              case rel => exact ⟨k + 1, by omega, by go_num, Lib.hid (unhide HP (unhide HV))⟩
              case measure => simp [intOf]; omega
          · have kl : ¬ (k : Int) < (s.size : Int) := by omega
            go_wp2
            go_ret
            exact ⟨ret_bool (show true = allLD s from (all_all (l := s.data.toList) (k := k) (by simp; omega) hd.out).symm), rfl⟩
    · have i12 : (12 : Int) < (s.size : Int) := by omega
      rw [name_no12 h12]
      go_enter Tryz.func61, Tryz.ntmps61
      go_wp2
      go_ret
      exact ⟨rfl, rfl⟩

theorem rin_any (n lo hi : Int) (w : World) :
    Calls Tryz.prog 41 #[.int .i64 n, .int .i64 lo, .int .i64 hi] w fun e w' => e = .returned (.bool (wIn n lo hi)) ∧ w = w' := by
  go_enter Tryz.func41, Tryz.ntmps41
  go_wp2
  all_goals (go_ret; refine ⟨ret_bool ?_, rfl⟩; unfold wIn; rw [Bool.eq_iff_iff]; simp; omega)
theorem rstrip_any (k : Int) (w : World) :
    Calls Tryz.prog 31 #[.int .i64 k] w fun e w' => e = .returned (.bool (wIn k 1 6)) ∧ w = w' := by
  go_enter Tryz.func31, Tryz.ntmps31
  go_wp2
  all_goals (go_ret; refine ⟨ret_bool ?_, rfl⟩; unfold wIn; rw [Bool.eq_iff_iff]; simp; omega)
theorem rexits_any (k : Int) (w : World) :
    Calls Tryz.prog 62 #[.int .i64 k] w fun e w' => e = .returned (.int .i64 (exN k : Nat)) ∧ w = w' := by
  go_enter Tryz.func62, Tryz.ntmps62
  go_wp2
  all_goals (go_ret; refine ⟨ret_int ?_, rfl⟩; unfold exN; simp_all)

set_option maxHeartbeats 2000000 in
theorem rfind_any (b : Nat) (x : Lay) (s : ByteArray) (A D : Option Addr) (c d : Nat) (w : World) (hz : x.nodes.length ≤ 1000000) (h : NdsIn b w A x.nodes) :
    Calls Tryz.prog 20 #[lV x A c D d, .string s] w fun e w' => e = .returned (.int .i64 (findI x.nodes s)) ∧ Below w.heap.size w w' := by
  have b1 := (Below.refl w.heap.size w).alloc (Nat.le_refl _) (lO x A c D d)
  have B1 := hide b1
  have HX := hide (heap_alloc_new w (lO x A c D d))
  have HI := hide (h.keep b1)
  clear b1 h
  go_enter Tryz.func20, Tryz.ntmps20
  go_wp2
  generalize w.alloc (lO x A c D d) = W1 at *
  go_loopw [5] (fun iv wr => ∃ i : Nat, i ≤ x.nodes.length ∧ iv = .int .i64 i ∧ Hid (∀ j, j < i → (x.nodes.getD j nd0).name ≠ s) ∧ W1 = wr) (fun iv _ => x.nodes.length - (intOf iv).toNat)
  case atStart => exact ⟨0, Nat.zero_le _, rfl, Lib.hid fun j hj => absurd hj (Nat.not_lt_zero _), rfl⟩
  case round =>
    obtain ⟨i, hi, rfl, hex, rfl⟩ := hrel
    have l0 : W1.cell? ⟨w.heap.size, 0, none⟩ = some (.slice A x.nodes.length c) := by rw [Lib.cell_of_heap (unhide HX)]; rfl
    by_cases hlt : i < x.nodes.length
    · have il : (i : Int) < (x.nodes.length : Int) := by omega
      have i0 : (0 : Int) ≤ (i : Int) := by omega
      obtain ⟨g, off, rfl, _, hcl⟩ := (unhide HI) (by omega)
      obtain ⟨q0, -, -, -, -⟩ := hcl i hlt
      have HS := hide (fun h => upto_step (p := fun j => (x.nodes.getD j nd0).name ≠ s) (k := i) hex.out h)
      have HH := hide (fun h => findI_hit hlt hex.out h)
      generalize x.nodes.getD i nd0 = nd at *
      clear hcl hex
      cases hn : (nd.name.toList == s.toList) with
      | true =>
        have HE := hide (show nd.name = s from by have h1 := hn; rw [toList_eq] at h1; exact of_decide_eq_true h1)
        go_wp2
        go_ret
        exact ⟨ret_int (unhide HH (unhide HE)).symm, unhide B1⟩
      | false =>
        have HE := hide (show nd.name ≠ s from by have h1 := hn; rw [toList_eq] at h1; exact of_decide_eq_false h1)
        go_wp2
        go_roundw
        case rel => exact ⟨i + 1, by omega, by go_num, Lib.hid (unhide HS (unhide HE)), trivial⟩
        case measure => simp [intOf]; omega
    · obtain rfl : i = x.nodes.length := by omega
      have il : ¬ ((x.nodes.length : Int) < (x.nodes.length : Int)) := by omega
      have HE := hide (findI_no hex.out)
      go_wp2
      go_ret
      exact ⟨ret_int (unhide HE).symm, unhide B1⟩

set_option maxHeartbeats 2000000 in
theorem rtotal_any (b : Nat) (x : Lay) (A D : Option Addr) (c d : Nat) (w : World) (hz : x.nodes.length ≤ 1000) (hl : ∀ k, k < x.nodes.length → 0 ≤ (x.nodes.getD k nd0).len ∧ (x.nodes.getD k nd0).len ≤ 8) (h : NdsIn b w A x.nodes) :
    Calls Tryz.prog 38 #[lV x A c D d] w fun e w' => e = .returned (.int .i64 (winN x.nodes)) ∧ Below w.heap.size w w' := by
  have b1 := (Below.refl w.heap.size w).alloc (Nat.le_refl _) (lO x A c D d)
  have B1 := hide b1
  have HX := hide (heap_alloc_new w (lO x A c D d))
  have HI := hide (h.keep b1)
  have HL := hide hl
  have HW := hide (winN_le hl)
  clear b1 h hl
  go_enter Tryz.func38, Tryz.ntmps38
  go_wp2
  generalize w.alloc (lO x A c D d) = W1 at *
  go_loopw [3, 4] (fun sv iv wr => ∃ i : Nat, i ≤ x.nodes.length ∧ iv = .int .i64 i ∧ sv = .int .i64 (winN (x.nodes.take i)) ∧ W1 = wr) (fun _ iv _ => x.nodes.length - (intOf iv).toNat)
  case atStart => exact ⟨0, Nat.zero_le _, rfl, rfl, rfl⟩
  case round =>
    obtain ⟨i, hi, rfl, rfl, rfl⟩ := hrel
    have l0 : W1.cell? ⟨w.heap.size, 0, none⟩ = some (.slice A x.nodes.length c) := by rw [Lib.cell_of_heap (unhide HX)]; rfl
    by_cases hlt : i < x.nodes.length
    · have il : (i : Int) < (x.nodes.length : Int) := by omega
      have i0 : (0 : Int) ≤ (i : Int) := by omega
      obtain ⟨g, off, rfl, _, hcl⟩ := (unhide HI) (by omega)
      obtain ⟨-, -, q2, -, -⟩ := hcl i hlt
      have h1 := unhide HW i hi
      have h2 := unhide HL i hlt
      have HS := hide (winN_step hlt)
      generalize x.nodes.getD i nd0 = nd at *
      generalize winN (x.nodes.take i) = sm at *
      have hs : IntKind.i64.wrap (sm + nd.len) = sm + nd.len := IntWalk.i64_in _ (by omega)
      clear hcl h1 h2
      go_wp2
      go_roundw
      case rel => exact ⟨i + 1, by omega, by go_num, by rw [unhide HS], trivial⟩
      case measure => simp [intOf]; omega
    · obtain rfl : i = x.nodes.length := by omega
      have il : ¬ ((x.nodes.length : Int) < (x.nodes.length : Int)) := by omega
      rw [List.take_length]
      go_wp2
      go_ret
      exact ⟨rfl, unhide B1⟩
end Go.Proofs.YtfddpdognelhmaaGreatDoor
