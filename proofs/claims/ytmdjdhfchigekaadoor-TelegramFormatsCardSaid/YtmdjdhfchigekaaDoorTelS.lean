/-
  Contract of the document's own formed.
-/
import Derived.Test.YtmdjdhfchigekaaDoorTelR
namespace Go.Proofs.YtmdjdhfchigekaaDoor
open Go.RowKit

theorem chB_cases (C : ByteArray) : Hid (okCh C = true ∧ (C.toList.isEmpty = true ∨ (C.toList.isEmpty = false ∧ (C.toList == [67, 72, 71]) = true) ∨ (C.toList.isEmpty = false ∧ (C.toList == [67, 72, 71]) = false ∧ (C.toList == [68, 69, 76]) = true))
    ∨ okCh C = false ∧ C.toList.isEmpty = false ∧ (C.toList == [67, 72, 71]) = false ∧ (C.toList == [68, 69, 76]) = false) := by
  unfold okCh chB
  show _ ∨ _
  cases C.toList.isEmpty <;> cases (C.toList == [67, 72, 71]) <;> cases (C.toList == [68, 69, 76]) <;> simp

set_option maxHeartbeats 2000000 in
theorem rformed_any (b : Nat) (t : Tel) (A : Option Addr) (c : Nat) (w : World) (hS : SmallT t) (h : ElsIn b w A t.els) :
    Calls Tryd.prog 29 #[.agg #[.string t.kind, .string t.change, .slice A t.els.length c]] w fun e w' => e = .returned (.bool (telF t)) ∧ Below w.heap.size w w' := by
  have hz : t.els.length ≤ 3000 := hS.1
  have hK := hS.2.1
  have HS := hide hS
  have B0 := Lib.hid ((Below.refl w.heap.size w).alloc (Nat.le_refl _) (.cells #[.string t.kind, .string t.change, .slice A t.els.length c] 24))
  have HI1 := hide (h.keep ((Below.refl w.heap.size w).alloc (Nat.le_refl _) (.cells #[.string t.kind, .string t.change, .slice A t.els.length c] 24)))
  clear h hS
  obtain ⟨K, C, es⟩ := t
  simp only [] at *
  cases hk : letN K 3 with
  | false =>
    have hv : telF ⟨K, C, es⟩ = false := by unfold telF; simp [hk]
    rw [hv]
    clear hv HI1
    go_enter Tryd.func29, Tryd.ntmps29
    go_wp2_with (first | (go_at_call 42; refine (rlet_any _ _ _ hK).mono ?_; rintro e w1 ⟨rfl, rfl⟩))
    go_ret
    exact ⟨rfl, B0.out⟩
  | true =>
    rcases (chB_cases C).out with ⟨hc, hcc⟩ | ⟨hc, c1, c2, c3⟩
    · have hv : telF ⟨K, C, es⟩ = es.all felB := by unfold telF; simp [hk, hc]
      have HV := hide hv
      clear hv hc
      rcases hcc with c1 | ⟨c1, c2⟩ | ⟨c1, c2, c3⟩
      all_goals
        go_enter Tryd.func29, Tryd.ntmps29
        go_wp2_with (first | (go_at_call 42; refine (rlet_any _ _ _ hK).mono ?_; rintro e w1 ⟨rfl, rfl⟩))
        go_loop [3, 4] (fun i _ => ∃ k : Nat, k ≤ es.length ∧ i = .int .i64 k ∧ Hid ((es.take k).all felB = true)) (fun i _ => es.length - (intOf i).toNat)
        case atStart => exact ⟨0, Nat.zero_le _, rfl, Lib.hid rfl⟩
        case round =>
          obtain ⟨k, hk2, rfl, hd⟩ := hrel
          by_cases hlt : k < es.length
          · obtain ⟨g, off, rfl, hg, hcx⟩ := (unhide HI1) (by omega)
            obtain ⟨q0, A', c', q1, hst⟩ := hcx k hlt
            clear hcx
            have kl : (k : Int) < (es.length : Int) := by omega
            have HP := hide fun h => all_step (d := el0) hlt hd.out h
            have HQ := hide fun h => all_no (p := felB) (d := el0) hlt h
            have hsm := (unhide HS).at hlt
            generalize es.getD k el0 = x at *
            obtain ⟨key, ps⟩ := x
            simp only [] at q0 q1 hst
            have hkey : key.size ≤ 3000 := hsm.2.1
            have hpz : ps.length ≤ 3000 := hsm.1
            have HSM := hide hsm
            have HST := hide hst
            clear hsm hst
            cases hl : letN key 1 with
            | false =>
              go_wp2_with (first | (go_at_call 42; refine (rlet_any _ _ _ hkey).mono ?_; rintro e w1 ⟨rfl, rfl⟩))
              go_ret
              exact ⟨ret_bool (by rw [unhide HV, unhide HQ (by unfold felB; rw [hl]; rfl)]), B0.out⟩
            | true =>
              by_cases h0 : ps.length = 0
              · have z0 : ((ps.length : Int) == 0) = true := by rw [h0]; rfl
                have HN := hide h0
                clear h0
                go_wp2_with (first | (go_at_call 42; refine (rlet_any _ _ _ hkey).mono ?_; rintro e w1 ⟨rfl, rfl⟩))
                go_ret
                exact ⟨ret_bool (by rw [unhide HV, unhide HQ (by unfold felB; rw [hl]; simp [unhide HN])]), B0.out⟩
              · have z0 : ((ps.length : Int) == 0) = false := by rw [beq_eq_false_iff_ne]; omega
                have zn : (ps.length == 0) = false := by rw [beq_eq_false_iff_ne]; omega
                have HF := hide (show felB (key, ps) = ps.all pcB by unfold felB; rw [hl, zn]; rfl)
                have hpos : 0 < ps.length := by omega
                clear zn h0
                obtain ⟨g', off', rfl, hg', hc'⟩ := (unhide HST) hpos
                have HC' := hide hc'
                clear hc'
                go_wp2_with (first | (go_at_call 42; refine (rlet_any _ _ _ hkey).mono ?_; rintro e w1 ⟨rfl, rfl⟩))
                go_loop [4] (fun i => ∃ j : Nat, j ≤ ps.length ∧ i = .int .i64 j ∧ Hid ((ps.take j).all pcB = true)) (fun i => ps.length - (intOf i).toNat)
                case atStart => exact ⟨0, Nat.zero_le _, rfl, Lib.hid rfl⟩
                case round =>
                  obtain ⟨j, hj2, rfl, hdj⟩ := hrel
                  by_cases hjl : j < ps.length
                  · have q := unhide HC' j hjl
                    have sz := (unhide HSM).at hjl
                    have jl : (j : Int) < (ps.length : Int) := by omega
                    have HP' := hide fun h => all_step (d := ByteArray.empty) hjl hdj.out h
                    have HQ' := hide fun h => all_no (p := pcB) (d := ByteArray.empty) hjl h
                    simp only [] at sz
                    generalize ps.getD j ByteArray.empty = p at *
                    cases hp : pcB p with
                    | true =>
                      go_wp2_with (first | (go_at_call 43; refine (plain_any _ _ sz).mono ?_; rintro e w1 ⟨rfl, rfl⟩))
                      go_round
                      case rel => exact ⟨j + 1, by omega, by go_num, Lib.hid (unhide HP' hp)⟩
                      case measure => simp [intOf]; omega
                    | false =>
                      go_wp2_with (first | (go_at_call 43; refine (plain_any _ _ sz).mono ?_; rintro e w1 ⟨rfl, rfl⟩))
                      go_ret
                      exact ⟨ret_bool (by rw [unhide HV, unhide HQ (by rw [unhide HF]; exact unhide HQ' hp)]), B0.out⟩
                  · have HE := hide (show felB (key, ps) = true by rw [unhide HF]; exact all_all (by omega) hdj.out)
                    go_wp2
                    go_round
                    case rel => exact ⟨k + 1, by omega, by go_num, Lib.hid (unhide HP (unhide HE))⟩
                    case measure => simp [intOf]; omega
          · go_wp2
            go_ret
            exact ⟨ret_bool (by rw [unhide HV, all_all (by omega) hd.out]), B0.out⟩
    · have hv : telF ⟨K, C, es⟩ = false := by unfold telF; simp [hc]
      rw [hv]
      clear hv HI1 hc
      go_enter Tryd.func29, Tryd.ntmps29
      go_wp2_with (first | (go_at_call 42; refine (rlet_any _ _ _ hK).mono ?_; rintro e w1 ⟨rfl, rfl⟩))
      go_ret
      exact ⟨rfl, B0.out⟩
end Go.Proofs.YtmdjdhfchigekaaDoor
