/-
  Contracts of the checks of telegrams, the program's: formed, boundedElement, bounded.
-/
import Derived.Test.YtglgobmmmghdoaaGreatDoorTelA
namespace Go.Proofs.YtglgobmmmghdoaaGreatDoor
open Go.RowKit

set_option maxHeartbeats 1000000 in
theorem bel_any (b : Nat) (key : ByteArray) (ps : List ByteArray) (A : Option Addr) (c : Nat) (w : World) (hz : ps.length ≤ 3000) (h : StrsIn b w A ps) :
    Calls Tryz.prog 59 #[.agg #[.string key, .slice A ps.length c]] w fun e w' => e = .returned (.bool (belB (key, ps))) ∧ Below w.heap.size w w' := by
  have B0 := Lib.hid ((Below.refl w.heap.size w).alloc (Nat.le_refl _) (.cells #[.string key, .slice A ps.length c] 55))
  have HI1 := hide (h.keep ((Below.refl w.heap.size w).alloc (Nat.le_refl _) (.cells #[.string key, .slice A ps.length c] 55)))
  clear h
  by_cases h0 : ps.length ≤ 8
  · have hv : belB (key, ps) = ps.all shB := by unfold belB; simp [h0]
    have HV := hide hv
    have i0 : ¬ (8 : Int) < (ps.length : Int) := by omega
    clear hv
    go_enter Tryz.func59, Tryz.ntmps59
    go_wp2
    go_loop [4, 12] (fun x i => ∃ k : Nat, k ≤ ps.length ∧ i = .int .i64 k ∧ Hid ((ps.take k).all shB = true)) (fun _ i => ps.length - (intOf i).toNat)
    case atStart => exact ⟨0, Nat.zero_le _, rfl, Lib.hid rfl⟩
    case round =>
      obtain ⟨k, hk2, rfl, hd⟩ := hrel
      by_cases hlt : k < ps.length
      · obtain ⟨g, off, rfl, hg, hc⟩ := (unhide HI1) (by omega)
        have q := hc k hlt
        clear hc
        have kl : (k : Int) < (ps.length : Int) := by omega
        have HP := hide fun h => all_step (d := ByteArray.empty) hlt hd.out h
        have HQ := hide fun h => all_no (p := shB) (d := ByteArray.empty) hlt h
        generalize ps.getD k ByteArray.empty = p at *
        by_cases hp : p.size ≤ 20
        · have i1 : ¬ (20 : Int) < (p.size : Int) := by omega
          go_wp2
          go_round
          case rel => exact ⟨k + 1, by omega, by go_num, Lib.hid (unhide HP (by unfold shB; simp [hp]))⟩
          case measure => simp [intOf]; omega
        · have i1 : (20 : Int) < (p.size : Int) := by omega
          go_wp2
          go_ret
          exact ⟨ret_bool (by rw [unhide HV, unhide HQ (by unfold shB; simp [hp])]), B0.out⟩
      · go_wp2
        go_ret
        exact ⟨ret_bool (by rw [unhide HV, all_all (by omega) hd.out]), B0.out⟩
  · have hv : belB (key, ps) = false := by unfold belB; simp [h0]
    have i0 : (8 : Int) < (ps.length : Int) := by omega
    rw [hv]
    clear hv HI1
    go_enter Tryz.func59, Tryz.ntmps59
    go_wp2
    go_ret
    exact ⟨rfl, B0.out⟩

set_option maxHeartbeats 1000000 in
theorem bounded_any (b : Nat) (t : Tel) (A : Option Addr) (c : Nat) (w : World) (hS : SmallT t) (h : ElsIn b w A t.els) :
    Calls Tryz.prog 27 #[.agg #[.string t.kind, .string t.change, .slice A t.els.length c]] w fun e w' => e = .returned (.bool (telB t)) ∧ Below w.heap.size w w' := by
  have hz : t.els.length ≤ 3000 := hS.1
  have HS := hide hS
  have B0 := Lib.hid ((Below.refl w.heap.size w).alloc (Nat.le_refl _) (.cells #[.string t.kind, .string t.change, .slice A t.els.length c] 25))
  have HI1 := hide (h.keep ((Below.refl w.heap.size w).alloc (Nat.le_refl _) (.cells #[.string t.kind, .string t.change, .slice A t.els.length c] 25)))
  clear h hS
  obtain ⟨K, C, es⟩ := t
  simp only [] at *
  by_cases h0 : es.length ≤ 24
  · have hv : telB ⟨K, C, es⟩ = es.all belB := by unfold telB; simp [h0]
    have HV := hide hv
    have i0 : ¬ (24 : Int) < (es.length : Int) := by omega
    clear hv
    go_enter Tryz.func27, Tryz.ntmps27
    go_wp2
    generalize w.alloc (.cells #[.string K, .string C, .slice A es.length c] 25) = w0 at *
    go_loopw [4, 12] (fun x i wr => ∃ k : Nat, k ≤ es.length ∧ i = .int .i64 k ∧ Hid ((es.take k).all belB = true) ∧ Below w0.heap.size w0 wr) (fun _ i _ => es.length - (intOf i).toNat)
    case atStart => exact ⟨0, Nat.zero_le _, rfl, Lib.hid rfl, Below.refl _ _⟩
    case round =>
      obtain ⟨k, hk2, rfl, hd, hb⟩ := hrel
      obtain ⟨wo, rfl⟩ : ∃ wo : World, wo = wr := ⟨_, rfl⟩
      have HBO := Lib.hid hb
      clear hb
      by_cases hlt : k < es.length
      · obtain ⟨g, off, rfl, hg, hc⟩ := (unhide HI1) (by omega)
        obtain ⟨q0, A', c', q1, hst⟩ := (hc k hlt).keep HBO.out
        clear hc
        have kl : (k : Int) < (es.length : Int) := by omega
        have HP := hide fun h => all_step (d := el0) hlt hd.out h
        have HQ := hide fun h => all_no (p := belB) (d := el0) hlt h
        have hsm := (unhide HS).at hlt
        simp only [] at hsm
        generalize es.getD k el0 = x at *
        obtain ⟨key, ps⟩ := x
        simp only [] at q0 q1 hst
        have hst1 := hst.keep ((Below.refl wo.heap.size wo).alloc (Nat.le_refl _) (.cells #[.string key, .slice A' ps.length c'] 55))
        clear hst
        cases hp : belB (key, ps) with
        | true =>
          go_wp2_with (first | (go_at_call 59; refine (bel_any b key ps A' c' _ hsm.1 hst1).mono ?_; rintro e w1 ⟨rfl, hb1⟩))
          have HB1 := Lib.hid (onward HBO.out (boxed hb1))
          clear q0 q1 hst1 hb1
          go_roundw
          case rel => exact ⟨k + 1, by omega, by go_num, Lib.hid (unhide HP hp), HB1.out⟩
          case measure => simp [intOf]; omega
        | false =>
          go_wp2_with (first | (go_at_call 59; refine (bel_any b key ps A' c' _ hsm.1 hst1).mono ?_; rintro e w1 ⟨rfl, hb1⟩))
          have HB1 := Lib.hid (onward HBO.out (boxed hb1))
          clear q0 q1 hst1 hb1
          go_ret
          exact ⟨ret_bool (by rw [unhide HV, unhide HQ hp]), B0.out.trans (HB1.out.mono B0.out.size)⟩
      · go_wp2
        go_ret
        exact ⟨ret_bool (by rw [unhide HV, all_all (by omega) hd.out]), B0.out.trans (HBO.out.mono B0.out.size)⟩
  · have hv : telB ⟨K, C, es⟩ = false := by unfold telB; simp [h0]
    have i0 : (24 : Int) < (es.length : Int) := by omega
    rw [hv]
    clear hv HI1
    go_enter Tryz.func27, Tryz.ntmps27
    go_wp2
    go_ret
    exact ⟨rfl, B0.out⟩

set_option maxHeartbeats 1000000 in
theorem formed_any (b : Nat) (t : Tel) (A : Option Addr) (c : Nat) (w : World) (hS : SmallT t) (h : ElsIn b w A t.els) :
    Calls Tryz.prog 26 #[.agg #[.string t.kind, .string t.change, .slice A t.els.length c]] w fun e w' => e = .returned (.bool (telF t)) ∧ Below w.heap.size w w' := by
  have hz : t.els.length ≤ 3000 := hS.1
  have HS := hide hS
  have B0 := Lib.hid ((Below.refl w.heap.size w).alloc (Nat.le_refl _) (.cells #[.string t.kind, .string t.change, .slice A t.els.length c] 25))
  have HI1 := hide (h.keep ((Below.refl w.heap.size w).alloc (Nat.le_refl _) (.cells #[.string t.kind, .string t.change, .slice A t.els.length c] 25)))
  clear h hS
  obtain ⟨K, C, es⟩ := t
  simp only [] at *
  cases hk : letN K 3 with
  | false =>
    have hv : telF ⟨K, C, es⟩ = false := by unfold telF; simp [hk]
    rw [hv]
    clear hv HI1
    go_enter Tryz.func26, Tryz.ntmps26
    go_wp2_with (first | (go_at_call 56; refine (kind_any _ _).mono ?_; rintro e w1 ⟨rfl, rfl⟩))
    go_ret
    exact ⟨rfl, B0.out⟩
  | true =>
    cases hc : okCh C with
    | false =>
      have hv : telF ⟨K, C, es⟩ = false := by unfold telF; simp [hc]
      have hc1 : C.toList.isEmpty = false := by
        unfold okCh at hc; rw [Bool.or_eq_false_iff] at hc; exact hc.1
      have hc2 : chB C = false := by
        unfold okCh at hc; rw [Bool.or_eq_false_iff] at hc; exact hc.2
      rw [hv]
      clear hv HI1 hc
      go_enter Tryz.func26, Tryz.ntmps26
      go_wp2_with (first | (go_at_call 56; refine (kind_any _ _).mono ?_; rintro e w1 ⟨rfl, rfl⟩) | (go_at_call 57; refine (change_any _ _).mono ?_; rintro e w1 ⟨rfl, rfl⟩))
      go_ret
      exact ⟨rfl, B0.out⟩
    | true =>
      have hv : telF ⟨K, C, es⟩ = es.all felB := by unfold telF; simp [hk, hc]
      have HV := hide hv
      clear hv
      have HC1 : Hid (C.toList.isEmpty = true ∨ (C.toList.isEmpty = false ∧ chB C = true)) := by
        unfold okCh at hc
        cases e : C.toList.isEmpty
        · rw [e] at hc; exact .inr ⟨rfl, hc⟩
        · exact .inl rfl
      clear hc
      rcases unhide HC1 with hc1 | ⟨hc1, hc2⟩
      all_goals
        clear HC1
        go_enter Tryz.func26, Tryz.ntmps26
        go_wp2_with (first | (go_at_call 56; refine (kind_any _ _).mono ?_; rintro e w1 ⟨rfl, rfl⟩) | (go_at_call 57; refine (change_any _ _).mono ?_; rintro e w1 ⟨rfl, rfl⟩))
        generalize w.alloc (.cells #[.string K, .string C, .slice A es.length c] 25) = w0 at *
        go_loopw [4, 23] (fun x i wr => ∃ k : Nat, k ≤ es.length ∧ i = .int .i64 k ∧ Hid ((es.take k).all felB = true) ∧ Below w0.heap.size w0 wr) (fun _ i _ => es.length - (intOf i).toNat)
        case atStart => exact ⟨0, Nat.zero_le _, rfl, Lib.hid rfl, Below.refl _ _⟩
        case round =>
          obtain ⟨k, hk2, rfl, hd, hb⟩ := hrel
          obtain ⟨wo, rfl⟩ : ∃ wo : World, wo = wr := ⟨_, rfl⟩
          have HBO := Lib.hid hb
          clear hb
          by_cases hlt : k < es.length
          · obtain ⟨g, off, rfl, hg, hc⟩ := (unhide HI1) (by omega)
            obtain ⟨q0, A', c', q1, hst⟩ := (hc k hlt).keep HBO.out
            clear hc
            have kl : (k : Int) < (es.length : Int) := by omega
            have HP := hide fun h => all_step (d := el0) hlt hd.out h
            have HQ := hide fun h => all_no (p := felB) (d := el0) hlt h
            have hsm := (unhide HS).at hlt
            simp only [] at hsm
            generalize es.getD k el0 = x at *
            obtain ⟨key, ps⟩ := x
            simp only [] at q0 q1 hst
            have hst1 := hst.keep ((Below.refl wo.heap.size wo).alloc (Nat.le_refl _) (.cells #[.string key, .slice A' ps.length c'] 55))
            clear hst
            cases hp : felB (key, ps) with
            | true =>
              go_wp2_with (first | (go_at_call 58; refine (fel_any b key ps A' c' _ hsm hst1).mono ?_; rintro e w1 ⟨rfl, hb1⟩))
              have HB1 := Lib.hid (onward HBO.out (boxed hb1))
              clear q0 q1 hst1 hb1
              go_roundw
              case rel => exact ⟨k + 1, by omega, by go_num, Lib.hid (unhide HP hp), HB1.out⟩
              case measure => simp [intOf]; omega
            | false =>
              go_wp2_with (first | (go_at_call 58; refine (fel_any b key ps A' c' _ hsm hst1).mono ?_; rintro e w1 ⟨rfl, hb1⟩))
              have HB1 := Lib.hid (onward HBO.out (boxed hb1))
              clear q0 q1 hst1 hb1
              go_ret
              exact ⟨ret_bool (by rw [unhide HV, unhide HQ hp]), B0.out.trans (HB1.out.mono B0.out.size)⟩
          · go_wp2
            go_ret
            exact ⟨ret_bool (by rw [unhide HV, all_all (by omega) hd.out]), B0.out.trans (HBO.out.mono B0.out.size)⟩
end Go.Proofs.YtglgobmmmghdoaaGreatDoor
