/-
  Contracts of messages: ValidName, ascending, formed, ranged.
-/
import Derived.Test.YtglgobmmmghdoaaGreatDoorMsgC
namespace Go.Proofs.YtglgobmmmghdoaaGreatDoor
open Go.RowKit

theorem name_no0 {s : ByteArray} (h : s.size = 0) : nameB s = false := by unfold nameB; simp [h]
theorem name_no12 {s : ByteArray} (h : ¬ s.size ≤ 12) : nameB s = false := by unfold nameB; simp [h]
theorem name_noL {s : ByteArray} (h0 : 0 < s.size) (h : isLe (s[0].toNat : Int) = false) : nameB s = false := by unfold nameB; rw [← bat_at s 0 h0, h]; simp
def allLD (s : ByteArray) : Bool := s.data.toList.all ldU
theorem name_of {s : ByteArray} (h0 : 0 < s.size) (h12 : s.size ≤ 12) (h : isLe (s[0].toNat : Int) = true) : nameB s = allLD s := by
  unfold nameB allLD; rw [← bat_at s 0 h0, h, decide_eq_true (by omega)]; simp

set_option maxHeartbeats 2000000 in
theorem name_any (s : ByteArray) (w : World) :
    Calls Tryz.prog 70 #[.string s] w fun e w' => e = .returned (.bool (nameB s)) ∧ w = w' := by
  by_cases h0 : s.size = 0
  · have e0 : s.toList.isEmpty = true := size_empty h0
    have e1 : s.toList = [] := by simpa using e0
    rw [name_no0 h0]
    go_enter Tryz.func70, Tryz.ntmps70
    go_wp2
    go_ret
    exact ⟨rfl, rfl⟩
  · have e0 : s.toList.isEmpty = false := not_empty (by omega)
    by_cases h12 : s.size ≤ 12
    · have i12 : ¬ (12 : Int) < (s.size : Int) := by omega
      have p0 : 0 < s.size := by omega
      cases hl : isLe (s[0].toNat : Int) with
      | false =>
        rw [name_noL p0 hl]
        go_enter Tryz.func70, Tryz.ntmps70
        go_wp2_with (go_at_call 88; refine (letter_any _ _).mono ?_; rintro e w1 ⟨rfl, rfl⟩)
        go_ret
        exact ⟨rfl, rfl⟩
      | true =>
        rw [name_of p0 h12 hl]
        go_enter Tryz.func70, Tryz.ntmps70
        go_wp2_with (go_at_call 88; refine (letter_any _ _).mono ?_; rintro e w1 ⟨rfl, rfl⟩)
        clear i12
        go_loop [3, 19] (fun _ i => ∃ k : Nat, k ≤ s.size ∧ i = .int .i64 k ∧ Hid ((s.data.toList.take k).all ldU = true)) (fun _ i => s.size - (intOf i).toNat)
        case atStart => exact ⟨0, Nat.zero_le _, rfl, Lib.hid rfl⟩
        case round =>
          obtain ⟨k, hk, rfl, hd⟩ := hrel
          clear hl
          by_cases hlt : k < s.size
          · have HP := hide fun (h : ldU s[k] = true) => all_step (p := ldU) (d := 0) (k := k) (by rw [size_list]; exact hlt) hd.out (by rw [byte_at hlt]; exact h)
            have HQ := hide fun (h : ldU s[k] = false) => all_no (p := ldU) (d := 0) (k := k) (by rw [size_list]; exact hlt) (by rw [byte_at hlt]; exact h)
            cases h1 : isLe (s[k].toNat : Int) <;> cases h2 : isD (s[k].toNat : Int)
            · have HV := hide (show ldU s[k] = false by unfold ldU; rw [h1, h2]; rfl)
              go_wp2_with (first | (go_at_call 88; refine (letter_any _ _).mono ?_; rw [h1]; rintro e w1 ⟨rfl, rfl⟩) | (go_at_call 89; refine (digit_any _ _).mono ?_; rw [h2]; rintro e w1 ⟨rfl, rfl⟩))
              go_ret
              exact ⟨ret_bool (unhide HQ (unhide HV)).symm, rfl⟩
            all_goals
              have HV := hide (show ldU s[k] = true by unfold ldU; rw [h1, h2]; rfl)
              go_wp2_with (first | (go_at_call 88; refine (letter_any _ _).mono ?_; rw [h1]; rintro e w1 ⟨rfl, rfl⟩) | (go_at_call 89; refine (digit_any _ _).mono ?_; rw [h2]; rintro e w1 ⟨rfl, rfl⟩))
              go_round
              case rel => exact ⟨k + 1, by omega, by go_num, Lib.hid (unhide HP (unhide HV))⟩
              case measure => simp [intOf]; omega
          · go_wp2
            go_ret
            exact ⟨ret_bool (show true = allLD s from (all_all (l := s.data.toList) (k := k) (by simp; omega) hd.out).symm), rfl⟩
    · have i12 : (12 : Int) < (s.size : Int) := by omega
      rw [name_no12 h12]
      go_enter Tryz.func70, Tryz.ntmps70
      go_wp2
      go_ret
      exact ⟨rfl, rfl⟩

theorem asc_iff : ∀ l : List Int, ascB l = true ↔ ∀ i, i + 1 < l.length → l.getD i 0 < l.getD (i + 1) 0
  | [] => by simp [ascB]
  | [_] => by simp [ascB]
  | x :: y :: l => by
    have ih := asc_iff (y :: l)
    simp only [ascB, Bool.and_eq_true, decide_eq_true_eq]
    rw [ih]
    constructor
    · rintro ⟨h0, h⟩ i hi
      cases i with
      | zero => exact h0
      | succ i => exact h i (by simpa using hi)
    · intro h
      exact ⟨h 0 (by simp), fun i hi => h (i + 1) (by simpa using hi)⟩

set_option maxHeartbeats 2000000 in
theorem asc_any (b : Nat) (l : List Int) (A : Option Addr) (c : Nat) (w : World) (hz : l.length ≤ 1000000000) (h : NumsIn b w A l) :
    Calls Tryz.prog 39 #[.slice A l.length c] w fun e w' => e = .returned (.bool (ascB l)) ∧ Below w.heap.size w w' := by
  have HI := hide h
  clear h
  go_enter Tryz.func39, Tryz.ntmps39
  go_wp2
  go_loopw [3] (fun i wr => ∃ k : Nat, (k = 0 ∨ k < l.length) ∧ i = .int .i64 ((k : Int) + 1) ∧ Hid (∀ j, j + 1 < k + 1 → l.getD j 0 < l.getD (j + 1) 0) ∧ Below w.heap.size w wr) (fun i _ => l.length - (intOf i).toNat)
  case atStart => exact ⟨0, .inl rfl, rfl, Lib.hid (fun j hj => by omega), Below.refl _ _⟩
  case round =>
    obtain ⟨k, hk, rfl, hd, hb⟩ := hrel
    obtain ⟨wo, rfl⟩ : ∃ wo : World, wo = wr := ⟨_, rfl⟩
    have HB := Lib.hid hb
    clear hb
    by_cases hlt : k + 1 < l.length
    · obtain ⟨g, off, rfl, hg, hc⟩ := ((unhide HI).keep HB.out) (by omega)
      have q0 := hc k (by omega)
      have q1 := hc (k + 1) hlt
      clear hc
      have kl : (k : Int) + 1 < (l.length : Int) := by omega
      have kl2 : (k : Int) < (l.length : Int) := by omega
      have k0 : (0 : Int) ≤ (k : Int) := by omega
      have k1 : (0 : Int) ≤ (k : Int) + 1 := by omega
      have HP := hide (show l.getD k 0 < l.getD (k + 1) 0 → ∀ j, j + 1 < k + 1 + 1 → l.getD j 0 < l.getD (j + 1) 0 from fun h j hj => by
        by_cases e : j = k
        · subst e; exact h
        · exact hd.out j (by omega))
      have HQ := hide (show ¬ l.getD k 0 < l.getD (k + 1) 0 → ascB l = false from fun h => by
        cases e : ascB l with
        | false => rfl
        | true => exact absurd ((asc_iff l).1 e k hlt) h)
      generalize l.getD k 0 = x at *
      generalize l.getD (k + 1) 0 = y at *
      have w1 : IntKind.i64.wrap ((k : Int) + 1 - 1) = (k : Int) := by rw [show (k : Int) + 1 - 1 = (k : Int) by omega]; exact IntWalk.i64_in _ (by omega)
      have w2 : ((k : Int) + 1).toNat = k + 1 := by omega
      by_cases hxy : x < y
      · have d1 : decide (y ≤ x) = false := decide_eq_false (by omega)
        have HX := hide hxy
        clear hxy
        go_wp2_with fail
        go_quiet (fail)
        clear w1 w2
        go_wp2
        go_roundw
        case rel => exact ⟨k + 1, .inr hlt, by go_num, Lib.hid (unhide HP (unhide HX)), draws HB.out _⟩
        case measure => simp [intOf]; omega
      · have d1 : decide (y ≤ x) = true := decide_eq_true (by omega)
        have HX := hide hxy
        clear hxy
        go_wp2_with fail
        go_quiet (fail)
        clear w1 w2
        go_wp2
        go_ret
        exact ⟨ret_bool (unhide HQ (unhide HX)).symm, draws HB.out _⟩
    · have kl : ¬ (k : Int) + 1 < (l.length : Int) := by omega
      have HE := hide (show ascB l = true from (asc_iff l).2 fun j hj => hd.out j (by omega))
      go_wp2
      go_ret
      exact ⟨ret_bool (unhide HE).symm, HB.out⟩

set_option maxHeartbeats 2000000 in
set_option maxRecDepth 100000 in
theorem form_86 (b : Nat) (m : Msg) (A L : Option Addr) (c d : Nat) (w : World) (hz : m.onw.length ≤ 1000000000) (hz2 : m.lst.length ≤ 1000000000) (h1 : LegsIn b w A m.onw) (h2 : NumsIn b w L m.lst) :
    Calls Tryz.prog 36 #[msgV m A c L d, .int .i32 86] w fun e w' => e = .returned (.bool (formB m 86)) ∧ Below w.heap.size w w' := by
  have B0 := Lib.hid ((Below.refl w.heap.size w).alloc (Nat.le_refl _) (msgO m A c L d))
  have H1 := hide (h1.keep B0.out)
  have H2 := hide (h2.keep B0.out)
  have Z1 := hide hz
  have Z2 := hide hz2
  clear h1 h2 hz hz2
  have HV := hide (show formB m 86 = portB m.port from rfl)
  go_enter Tryz.func36, Tryz.ntmps36
  go_wp2_with (go_at_call 66; refine (port_any _ _).mono ?_; rintro e w1 ⟨rfl, rfl⟩)
  go_ret
  exact ⟨ret_bool (unhide HV).symm, B0.out⟩

set_option maxHeartbeats 2000000 in
set_option maxRecDepth 100000 in
theorem form_73 (b : Nat) (m : Msg) (A L : Option Addr) (c d : Nat) (w : World) (hz : m.onw.length ≤ 1000000000) (hz2 : m.lst.length ≤ 1000000000) (h1 : LegsIn b w A m.onw) (h2 : NumsIn b w L m.lst) :
    Calls Tryz.prog 36 #[msgV m A c L d, .int .i32 73] w fun e w' => e = .returned (.bool (formB m 73)) ∧ Below w.heap.size w w' := by
  have B0 := Lib.hid ((Below.refl w.heap.size w).alloc (Nat.le_refl _) (msgO m A c L d))
  have H1 := hide (h1.keep B0.out)
  have H2 := hide (h2.keep B0.out)
  have Z1 := hide hz
  have Z2 := hide hz2
  clear h1 h2 hz hz2
  have HV := hide (show formB m 73 = lgB m.inn from rfl)
  go_enter Tryz.func36, Tryz.ntmps36
  go_wp2_with (go_at_call 67; refine (legs_ok m.inn _).mono ?_; rintro e w1 ⟨rfl, hb1⟩; have HB := Lib.hid (B0.out.trans (hb1.mono B0.out.size)); clear hb1)
  go_ret
  exact ⟨ret_bool (unhide HV).symm, HB.out⟩

set_option maxHeartbeats 2000000 in
set_option maxRecDepth 100000 in
theorem form_70 (b : Nat) (m : Msg) (A L : Option Addr) (c d : Nat) (w : World) (hz : m.onw.length ≤ 1000000000) (hz2 : m.lst.length ≤ 1000000000) (h1 : LegsIn b w A m.onw) (h2 : NumsIn b w L m.lst) :
    Calls Tryz.prog 36 #[msgV m A c L d, .int .i32 70] w fun e w' => e = .returned (.bool (formB m 70)) ∧ Below w.heap.size w w' := by
  have B0 := Lib.hid ((Below.refl w.heap.size w).alloc (Nat.le_refl _) (msgO m A c L d))
  have H1 := hide (h1.keep B0.out)
  have H2 := hide (h2.keep B0.out)
  have Z1 := hide hz
  have Z2 := hide hz2
  clear h1 h2 hz hz2
  have HV := hide (show formB m 70 = lgB m.out from rfl)
  go_enter Tryz.func36, Tryz.ntmps36
  go_wp2_with (go_at_call 67; refine (legs_ok m.out _).mono ?_; rintro e w1 ⟨rfl, hb1⟩; have HB := Lib.hid (B0.out.trans (hb1.mono B0.out.size)); clear hb1)
  go_ret
  exact ⟨ret_bool (unhide HV).symm, HB.out⟩

set_option maxHeartbeats 2000000 in
set_option maxRecDepth 100000 in
theorem form_79 (b : Nat) (m : Msg) (A L : Option Addr) (c d : Nat) (w : World) (hz : m.onw.length ≤ 1000000000) (hz2 : m.lst.length ≤ 1000000000) (h1 : LegsIn b w A m.onw) (h2 : NumsIn b w L m.lst) :
    Calls Tryz.prog 36 #[msgV m A c L d, .int .i32 79] w fun e w' => e = .returned (.bool (formB m 79)) ∧ Below w.heap.size w w' := by
  have B0 := Lib.hid ((Below.refl w.heap.size w).alloc (Nat.le_refl _) (msgO m A c L d))
  have H1 := hide (h1.keep B0.out)
  have H2 := hide (h2.keep B0.out)
  have Z1 := hide hz
  have Z2 := hide hz2
  clear h1 h2 hz hz2
  have HV := hide (show formB m 79 = m.onw.all lgB from rfl)
  go_enter Tryz.func36, Tryz.ntmps36
  go_wp2_with (go_at_call 68; refine (vlegs_any b m.onw A c _ (unhide Z1) (unhide H1)).mono ?_; rintro e w1 ⟨rfl, hb1⟩; have HB := Lib.hid (B0.out.trans (hb1.mono B0.out.size)); clear hb1)
  go_ret
  exact ⟨ret_bool (unhide HV).symm, HB.out⟩

set_option maxHeartbeats 2000000 in
set_option maxRecDepth 100000 in
theorem form_80 (b : Nat) (m : Msg) (A L : Option Addr) (c d : Nat) (w : World) (hz : m.onw.length ≤ 1000000000) (hz2 : m.lst.length ≤ 1000000000) (h1 : LegsIn b w A m.onw) (h2 : NumsIn b w L m.lst) :
    Calls Tryz.prog 36 #[msgV m A c L d, .int .i32 80] w fun e w' => e = .returned (.bool (formB m 80)) ∧ Below w.heap.size w w' := by
  have B0 := Lib.hid ((Below.refl w.heap.size w).alloc (Nat.le_refl _) (msgO m A c L d))
  have H1 := hide (h1.keep B0.out)
  have H2 := hide (h2.keep B0.out)
  have Z1 := hide hz
  have Z2 := hide hz2
  clear h1 h2 hz hz2
  have HV : formB m 80 = (!m.sur.toList.isEmpty && (lettB m.sur && lettB m.giv)) := rfl
  cases e0 : m.sur.toList.isEmpty <;> cases e1 : lettB m.sur <;> cases e2 : lettB m.giv
  all_goals
    rw [e0, e1, e2] at HV
    rw [HV]
    clear HV
    go_enter Tryz.func36, Tryz.ntmps36
    go_wp2_with (go_at_call 69; refine (lett_any _ _).mono ?_; first | (rw [e1]; rintro e w1 ⟨rfl, rfl⟩) | (rw [e2]; rintro e w1 ⟨rfl, rfl⟩))
    go_ret
    exact ⟨rfl, B0.out⟩

set_option maxHeartbeats 2000000 in
set_option maxRecDepth 100000 in
theorem form_74 (b : Nat) (m : Msg) (A L : Option Addr) (c d : Nat) (w : World) (hz : m.onw.length ≤ 1000000000) (hz2 : m.lst.length ≤ 1000000000) (h1 : LegsIn b w A m.onw) (h2 : NumsIn b w L m.lst) :
    Calls Tryz.prog 36 #[msgV m A c L d, .int .i32 74] w fun e w' => e = .returned (.bool (formB m 74)) ∧ Below w.heap.size w w' := by
  have B0 := Lib.hid ((Below.refl w.heap.size w).alloc (Nat.le_refl _) (msgO m A c L d))
  have H1 := hide (h1.keep B0.out)
  have H2 := hide (h2.keep B0.out)
  have Z1 := hide hz
  have Z2 := hide hz2
  clear h1 h2 hz hz2
  have HV := hide (show formB m 74 = nameB m.node from rfl)
  go_enter Tryz.func36, Tryz.ntmps36
  go_wp2_with (go_at_call 70; refine (name_any _ _).mono ?_; rintro e w1 ⟨rfl, rfl⟩)
  go_ret
  exact ⟨ret_bool (unhide HV).symm, B0.out⟩

set_option maxHeartbeats 2000000 in
set_option maxRecDepth 100000 in
theorem form_78 (b : Nat) (m : Msg) (A L : Option Addr) (c d : Nat) (w : World) (hz : m.onw.length ≤ 1000000000) (hz2 : m.lst.length ≤ 1000000000) (h1 : LegsIn b w A m.onw) (h2 : NumsIn b w L m.lst) :
    Calls Tryz.prog 36 #[msgV m A c L d, .int .i32 78] w fun e w' => e = .returned (.bool (formB m 78)) ∧ Below w.heap.size w w' := by
  have B0 := Lib.hid ((Below.refl w.heap.size w).alloc (Nat.le_refl _) (msgO m A c L d))
  have H1 := hide (h1.keep B0.out)
  have H2 := hide (h2.keep B0.out)
  have Z1 := hide hz
  have Z2 := hide hz2
  clear h1 h2 hz hz2
  go_enter Tryz.func36, Tryz.ntmps36
  go_wp2
  go_ret
  exact ⟨rfl, B0.out⟩

set_option maxHeartbeats 2000000 in
set_option maxRecDepth 100000 in
theorem form_83 (b : Nat) (m : Msg) (A L : Option Addr) (c d : Nat) (w : World) (hz : m.onw.length ≤ 1000000000) (hz2 : m.lst.length ≤ 1000000000) (h1 : LegsIn b w A m.onw) (h2 : NumsIn b w L m.lst) :
    Calls Tryz.prog 36 #[msgV m A c L d, .int .i32 83] w fun e w' => e = .returned (.bool (formB m 83)) ∧ Below w.heap.size w w' := by
  have B0 := Lib.hid ((Below.refl w.heap.size w).alloc (Nat.le_refl _) (msgO m A c L d))
  have H1 := hide (h1.keep B0.out)
  have H2 := hide (h2.keep B0.out)
  have Z1 := hide hz
  have Z2 := hide hz2
  clear h1 h2 hz hz2
  go_enter Tryz.func36, Tryz.ntmps36
  go_wp2
  go_ret
  exact ⟨rfl, B0.out⟩

set_option maxHeartbeats 2000000 in
set_option maxRecDepth 100000 in
theorem form_87 (b : Nat) (m : Msg) (A L : Option Addr) (c d : Nat) (w : World) (hz : m.onw.length ≤ 1000000000) (hz2 : m.lst.length ≤ 1000000000) (h1 : LegsIn b w A m.onw) (h2 : NumsIn b w L m.lst) :
    Calls Tryz.prog 36 #[msgV m A c L d, .int .i32 87] w fun e w' => e = .returned (.bool (formB m 87)) ∧ Below w.heap.size w w' := by
  have B0 := Lib.hid ((Below.refl w.heap.size w).alloc (Nat.le_refl _) (msgO m A c L d))
  have H1 := hide (h1.keep B0.out)
  have H2 := hide (h2.keep B0.out)
  have Z1 := hide hz
  have Z2 := hide hz2
  clear h1 h2 hz hz2
  go_enter Tryz.func36, Tryz.ntmps36
  go_wp2
  go_ret
  exact ⟨rfl, B0.out⟩

set_option maxHeartbeats 2000000 in
set_option maxRecDepth 100000 in
theorem form_88 (b : Nat) (m : Msg) (A L : Option Addr) (c d : Nat) (w : World) (hz : m.onw.length ≤ 1000000000) (hz2 : m.lst.length ≤ 1000000000) (h1 : LegsIn b w A m.onw) (h2 : NumsIn b w L m.lst) :
    Calls Tryz.prog 36 #[msgV m A c L d, .int .i32 88] w fun e w' => e = .returned (.bool (formB m 88)) ∧ Below w.heap.size w w' := by
  have B0 := Lib.hid ((Below.refl w.heap.size w).alloc (Nat.le_refl _) (msgO m A c L d))
  have H1 := hide (h1.keep B0.out)
  have H2 := hide (h2.keep B0.out)
  have Z1 := hide hz
  have Z2 := hide hz2
  clear h1 h2 hz hz2
  go_enter Tryz.func36, Tryz.ntmps36
  go_wp2
  go_ret
  exact ⟨rfl, B0.out⟩

set_option maxHeartbeats 2000000 in
set_option maxRecDepth 100000 in
theorem form_66 (b : Nat) (m : Msg) (A L : Option Addr) (c d : Nat) (w : World) (hz : m.onw.length ≤ 1000000000) (hz2 : m.lst.length ≤ 1000000000) (h1 : LegsIn b w A m.onw) (h2 : NumsIn b w L m.lst) :
    Calls Tryz.prog 36 #[msgV m A c L d, .int .i32 66] w fun e w' => e = .returned (.bool (formB m 66)) ∧ Below w.heap.size w w' := by
  have B0 := Lib.hid ((Below.refl w.heap.size w).alloc (Nat.le_refl _) (msgO m A c L d))
  have H1 := hide (h1.keep B0.out)
  have H2 := hide (h2.keep B0.out)
  have Z1 := hide hz
  have Z2 := hide hz2
  clear h1 h2 hz hz2
  go_enter Tryz.func36, Tryz.ntmps36
  go_wp2
  go_ret
  exact ⟨rfl, B0.out⟩

set_option maxHeartbeats 2000000 in
set_option maxRecDepth 100000 in
theorem rang_86 (b : Nat) (m : Msg) (A L : Option Addr) (c d : Nat) (w : World) (hz : m.onw.length ≤ 1000000000) (hz2 : m.lst.length ≤ 1000000000) (h1 : LegsIn b w A m.onw) (h2 : NumsIn b w L m.lst) :
    Calls Tryz.prog 38 #[msgV m A c L d, .int .i32 86] w fun e w' => e = .returned (.bool (rangB m 86)) ∧ Below w.heap.size w w' := by
  have B0 := Lib.hid ((Below.refl w.heap.size w).alloc (Nat.le_refl _) (msgO m A c L d))
  have H1 := hide (h1.keep B0.out)
  have H2 := hide (h2.keep B0.out)
  have Z1 := hide hz
  have Z2 := hide hz2
  clear h1 h2 hz hz2
  have HV := hide (show rangB m 86 = inB m.num 1 9999 from rfl)
  go_enter Tryz.func38, Tryz.ntmps38
  go_wp2_with (go_at_call 37; refine (within_any _ _ _ _).mono ?_; rintro e w1 ⟨rfl, rfl⟩)
  go_ret
  exact ⟨ret_bool (unhide HV).symm, B0.out⟩

set_option maxHeartbeats 2000000 in
set_option maxRecDepth 100000 in
theorem rang_87 (b : Nat) (m : Msg) (A L : Option Addr) (c d : Nat) (w : World) (hz : m.onw.length ≤ 1000000000) (hz2 : m.lst.length ≤ 1000000000) (h1 : LegsIn b w A m.onw) (h2 : NumsIn b w L m.lst) :
    Calls Tryz.prog 38 #[msgV m A c L d, .int .i32 87] w fun e w' => e = .returned (.bool (rangB m 87)) ∧ Below w.heap.size w w' := by
  have B0 := Lib.hid ((Below.refl w.heap.size w).alloc (Nat.le_refl _) (msgO m A c L d))
  have H1 := hide (h1.keep B0.out)
  have H2 := hide (h2.keep B0.out)
  have Z1 := hide hz
  have Z2 := hide hz2
  clear h1 h2 hz hz2
  have HV := hide (show rangB m 87 = inB m.wgt 0 999 from rfl)
  go_enter Tryz.func38, Tryz.ntmps38
  go_wp2_with (go_at_call 37; refine (within_any _ _ _ _).mono ?_; rintro e w1 ⟨rfl, rfl⟩)
  go_ret
  exact ⟨ret_bool (unhide HV).symm, B0.out⟩

set_option maxHeartbeats 2000000 in
set_option maxRecDepth 100000 in
theorem rang_88 (b : Nat) (m : Msg) (A L : Option Addr) (c d : Nat) (w : World) (hz : m.onw.length ≤ 1000000000) (hz2 : m.lst.length ≤ 1000000000) (h1 : LegsIn b w A m.onw) (h2 : NumsIn b w L m.lst) :
    Calls Tryz.prog 38 #[msgV m A c L d, .int .i32 88] w fun e w' => e = .returned (.bool (rangB m 88)) ∧ Below w.heap.size w w' := by
  have B0 := Lib.hid ((Below.refl w.heap.size w).alloc (Nat.le_refl _) (msgO m A c L d))
  have H1 := hide (h1.keep B0.out)
  have H2 := hide (h2.keep B0.out)
  have Z1 := hide hz
  have Z2 := hide hz2
  clear h1 h2 hz hz2
  have HV := hide (show rangB m 88 = inB m.exc 0 3 from rfl)
  go_enter Tryz.func38, Tryz.ntmps38
  go_wp2_with (go_at_call 37; refine (within_any _ _ _ _).mono ?_; rintro e w1 ⟨rfl, rfl⟩)
  go_ret
  exact ⟨ret_bool (unhide HV).symm, B0.out⟩

set_option maxHeartbeats 2000000 in
set_option maxRecDepth 100000 in
theorem rang_83 (b : Nat) (m : Msg) (A L : Option Addr) (c d : Nat) (w : World) (hz : m.onw.length ≤ 1000000000) (hz2 : m.lst.length ≤ 1000000000) (h1 : LegsIn b w A m.onw) (h2 : NumsIn b w L m.lst) :
    Calls Tryz.prog 38 #[msgV m A c L d, .int .i32 83] w fun e w' => e = .returned (.bool (rangB m 83)) ∧ Below w.heap.size w w' := by
  have B0 := Lib.hid ((Below.refl w.heap.size w).alloc (Nat.le_refl _) (msgO m A c L d))
  have H1 := hide (h1.keep B0.out)
  have H2 := hide (h2.keep B0.out)
  have Z1 := hide hz
  have Z2 := hide hz2
  clear h1 h2 hz hz2
  have HV : rangB m 83 = (inB m.sta 1 4 && inB m.sq 1 999) := rfl
  cases e0 : inB m.sta 1 4 <;> cases e1 : inB m.sq 1 999
  all_goals
    rw [e0, e1] at HV
    rw [HV]
    clear HV
    go_enter Tryz.func38, Tryz.ntmps38
    go_wp2_with (go_at_call 37; refine (within_any _ _ _ _).mono ?_; first | (rw [e0]; rintro e w1 ⟨rfl, rfl⟩) | (rw [e1]; rintro e w1 ⟨rfl, rfl⟩))
    go_ret
    exact ⟨rfl, B0.out⟩

set_option maxHeartbeats 2000000 in
set_option maxRecDepth 100000 in
theorem rang_78 (b : Nat) (m : Msg) (A L : Option Addr) (c d : Nat) (w : World) (hz : m.onw.length ≤ 1000000000) (hz2 : m.lst.length ≤ 1000000000) (h1 : LegsIn b w A m.onw) (h2 : NumsIn b w L m.lst) :
    Calls Tryz.prog 38 #[msgV m A c L d, .int .i32 78] w fun e w' => e = .returned (.bool (rangB m 78)) ∧ Below w.heap.size w w' := by
  have B0 := Lib.hid ((Below.refl w.heap.size w).alloc (Nat.le_refl _) (msgO m A c L d))
  have H1 := hide (h1.keep B0.out)
  have H2 := hide (h2.keep B0.out)
  have Z1 := hide hz
  have Z2 := hide hz2
  clear h1 h2 hz hz2
  have HV : rangB m 78 = (vld m.pl m.pa m.ps && inB m.cnt 1 99) := rfl
  have hx : (w.alloc (msgO m A c L d)).cell? ⟨w.heap.size, 20, none⟩ = some (.int .i64 m.cnt) := by rw [Lib.cell_of_heap (heap_alloc_new w _)]; rfl
  have HX := hide hx
  clear hx
  cases e0 : vld m.pl m.pa m.ps <;> cases e1 : inB m.cnt 1 99
  all_goals
    rw [e0, e1] at HV
    rw [HV]
    clear HV
    go_enter Tryz.func38, Tryz.ntmps38
    go_wp2_with (first | (go_at_call 71; refine (valid_any _ _ _ _).mono ?_; rw [e0]; rintro e w1 ⟨rfl, hb1⟩; have y20 := kept hb1 (unhide HX); have HB := Lib.hid (B0.out.trans (hb1.mono B0.out.size)); clear hb1) | (go_at_call 37; refine (within_any _ _ _ _).mono ?_; rw [e1]; rintro e w1 ⟨rfl, rfl⟩))
    go_ret
    exact ⟨rfl, HB.out⟩

set_option maxHeartbeats 2000000 in
set_option maxRecDepth 100000 in
theorem rang_66 (b : Nat) (m : Msg) (A L : Option Addr) (c d : Nat) (w : World) (hz : m.onw.length ≤ 1000000000) (hz2 : m.lst.length ≤ 1000000000) (h1 : LegsIn b w A m.onw) (h2 : NumsIn b w L m.lst) :
    Calls Tryz.prog 38 #[msgV m A c L d, .int .i32 66] w fun e w' => e = .returned (.bool (rangB m 66)) ∧ Below w.heap.size w w' := by
  have B0 := Lib.hid ((Below.refl w.heap.size w).alloc (Nat.le_refl _) (msgO m A c L d))
  have H1 := hide (h1.keep B0.out)
  have H2 := hide (h2.keep B0.out)
  have Z1 := hide hz
  have Z2 := hide hz2
  clear h1 h2 hz hz2
  have HV := hide (show rangB m 66 = m.lst.all seqB from rfl)
  go_enter Tryz.func38, Tryz.ntmps38
  go_wp2_with (go_at_call 72; refine (vpax_any b m.lst L d _ (unhide Z2) (unhide H2)).mono ?_; rintro e w1 ⟨rfl, rfl⟩)
  go_ret
  exact ⟨ret_bool (unhide HV).symm, B0.out⟩

set_option maxHeartbeats 2000000 in
set_option maxRecDepth 100000 in
theorem rang_73 (b : Nat) (m : Msg) (A L : Option Addr) (c d : Nat) (w : World) (hz : m.onw.length ≤ 1000000000) (hz2 : m.lst.length ≤ 1000000000) (h1 : LegsIn b w A m.onw) (h2 : NumsIn b w L m.lst) :
    Calls Tryz.prog 38 #[msgV m A c L d, .int .i32 73] w fun e w' => e = .returned (.bool (rangB m 73)) ∧ Below w.heap.size w w' := by
  have B0 := Lib.hid ((Below.refl w.heap.size w).alloc (Nat.le_refl _) (msgO m A c L d))
  have H1 := hide (h1.keep B0.out)
  have H2 := hide (h2.keep B0.out)
  have Z1 := hide hz
  have Z2 := hide hz2
  clear h1 h2 hz hz2
  go_enter Tryz.func38, Tryz.ntmps38
  go_wp2
  go_ret
  exact ⟨rfl, B0.out⟩

set_option maxHeartbeats 2000000 in
set_option maxRecDepth 100000 in
theorem rang_70 (b : Nat) (m : Msg) (A L : Option Addr) (c d : Nat) (w : World) (hz : m.onw.length ≤ 1000000000) (hz2 : m.lst.length ≤ 1000000000) (h1 : LegsIn b w A m.onw) (h2 : NumsIn b w L m.lst) :
    Calls Tryz.prog 38 #[msgV m A c L d, .int .i32 70] w fun e w' => e = .returned (.bool (rangB m 70)) ∧ Below w.heap.size w w' := by
  have B0 := Lib.hid ((Below.refl w.heap.size w).alloc (Nat.le_refl _) (msgO m A c L d))
  have H1 := hide (h1.keep B0.out)
  have H2 := hide (h2.keep B0.out)
  have Z1 := hide hz
  have Z2 := hide hz2
  clear h1 h2 hz hz2
  go_enter Tryz.func38, Tryz.ntmps38
  go_wp2
  go_ret
  exact ⟨rfl, B0.out⟩

set_option maxHeartbeats 2000000 in
set_option maxRecDepth 100000 in
theorem rang_79 (b : Nat) (m : Msg) (A L : Option Addr) (c d : Nat) (w : World) (hz : m.onw.length ≤ 1000000000) (hz2 : m.lst.length ≤ 1000000000) (h1 : LegsIn b w A m.onw) (h2 : NumsIn b w L m.lst) :
    Calls Tryz.prog 38 #[msgV m A c L d, .int .i32 79] w fun e w' => e = .returned (.bool (rangB m 79)) ∧ Below w.heap.size w w' := by
  have B0 := Lib.hid ((Below.refl w.heap.size w).alloc (Nat.le_refl _) (msgO m A c L d))
  have H1 := hide (h1.keep B0.out)
  have H2 := hide (h2.keep B0.out)
  have Z1 := hide hz
  have Z2 := hide hz2
  clear h1 h2 hz hz2
  go_enter Tryz.func38, Tryz.ntmps38
  go_wp2
  go_ret
  exact ⟨rfl, B0.out⟩

set_option maxHeartbeats 2000000 in
set_option maxRecDepth 100000 in
theorem rang_80 (b : Nat) (m : Msg) (A L : Option Addr) (c d : Nat) (w : World) (hz : m.onw.length ≤ 1000000000) (hz2 : m.lst.length ≤ 1000000000) (h1 : LegsIn b w A m.onw) (h2 : NumsIn b w L m.lst) :
    Calls Tryz.prog 38 #[msgV m A c L d, .int .i32 80] w fun e w' => e = .returned (.bool (rangB m 80)) ∧ Below w.heap.size w w' := by
  have B0 := Lib.hid ((Below.refl w.heap.size w).alloc (Nat.le_refl _) (msgO m A c L d))
  have H1 := hide (h1.keep B0.out)
  have H2 := hide (h2.keep B0.out)
  have Z1 := hide hz
  have Z2 := hide hz2
  clear h1 h2 hz hz2
  go_enter Tryz.func38, Tryz.ntmps38
  go_wp2
  go_ret
  exact ⟨rfl, B0.out⟩

set_option maxHeartbeats 2000000 in
set_option maxRecDepth 100000 in
theorem rang_74 (b : Nat) (m : Msg) (A L : Option Addr) (c d : Nat) (w : World) (hz : m.onw.length ≤ 1000000000) (hz2 : m.lst.length ≤ 1000000000) (h1 : LegsIn b w A m.onw) (h2 : NumsIn b w L m.lst) :
    Calls Tryz.prog 38 #[msgV m A c L d, .int .i32 74] w fun e w' => e = .returned (.bool (rangB m 74)) ∧ Below w.heap.size w w' := by
  have B0 := Lib.hid ((Below.refl w.heap.size w).alloc (Nat.le_refl _) (msgO m A c L d))
  have H1 := hide (h1.keep B0.out)
  have H2 := hide (h2.keep B0.out)
  have Z1 := hide hz
  have Z2 := hide hz2
  clear h1 h2 hz hz2
  go_enter Tryz.func38, Tryz.ntmps38
  go_wp2
  go_ret
  exact ⟨rfl, B0.out⟩

end Go.Proofs.YtglgobmmmghdoaaGreatDoor
