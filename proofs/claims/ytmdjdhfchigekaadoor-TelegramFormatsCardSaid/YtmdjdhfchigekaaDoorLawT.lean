/-
  Contract of light of chapter 3: a telegram is small.
-/
import Derived.Test.YtmdjdhfchigekaaDoorTelA
namespace Go.Proofs.YtmdjdhfchigekaaDoor
open Go.RowKit

def sh60 (p : ByteArray) : Bool := decide (p.size ≤ 60)
def lightE (e : El) : Bool := decide (e.2.length ≤ 20) && (decide (e.1.size ≤ 40) && e.2.all sh60)
def lightB (t : Tel) : Bool := decide (t.els.length ≤ 40) && (decide (t.kind.size ≤ 40) && (decide (t.change.size ≤ 40) && t.els.all lightE))
theorem light_small {t : Tel} (h : lightB t = true) : SmallT t := by
  unfold lightB at h
  rw [Bool.and_eq_true, Bool.and_eq_true, Bool.and_eq_true, decide_eq_true_eq, decide_eq_true_eq, decide_eq_true_eq] at h
  obtain ⟨h1, h2, h3, h4⟩ := h
  refine ⟨by omega, by omega, by omega, fun e he => ?_⟩
  have := List.all_eq_true.1 h4 e he
  unfold lightE at this
  rw [Bool.and_eq_true, Bool.and_eq_true, decide_eq_true_eq, decide_eq_true_eq] at this
  obtain ⟨k1, k2, k3⟩ := this
  refine ⟨by omega, by omega, fun p hp => ?_⟩
  have := of_decide_eq_true (List.all_eq_true.1 k3 p hp)
  omega

set_option maxHeartbeats 2000000 in
theorem light_any (b : Nat) (t : Tel) (A : Option Addr) (c : Nat) (w : World) (h : ElsIn b w A t.els) :
    Calls Tryd.prog 8 #[.agg #[.string t.kind, .string t.change, .slice A t.els.length c]] w fun e w' => e = .returned (.bool (lightB t)) ∧ Below w.heap.size w w' := by
  have B0 := Lib.hid ((Below.refl w.heap.size w).alloc (Nat.le_refl _) (.cells #[.string t.kind, .string t.change, .slice A t.els.length c] 24))
  have HI1 := hide (h.keep ((Below.refl w.heap.size w).alloc (Nat.le_refl _) (.cells #[.string t.kind, .string t.change, .slice A t.els.length c] 24)))
  clear h
  obtain ⟨K, C, es⟩ := t
  simp only [] at *
  by_cases hsm : es.length ≤ 40 ∧ K.size ≤ 40 ∧ C.size ≤ 40
  · obtain ⟨h1, h2, h3⟩ := hsm
    have HV := hide (show lightB ⟨K, C, es⟩ = es.all lightE by unfold lightB; simp only [decide_eq_true h1, decide_eq_true h2, decide_eq_true h3, Bool.true_and])
    have i1 : ¬ (40 : Int) < (es.length : Int) := by omega
    have i2 : ¬ (40 : Int) < (K.size : Int) := by omega
    have i3 : ¬ (40 : Int) < (C.size : Int) := by omega
    go_enter Tryd.func8, Tryd.ntmps8
    go_wp2
    clear i2 i3
    go_loop [3, 4] (fun i _ => ∃ k : Nat, k ≤ es.length ∧ i = .int .i64 k ∧ Hid ((es.take k).all lightE = true)) (fun i _ => es.length - (intOf i).toNat)
    case atStart => exact ⟨0, Nat.zero_le _, rfl, Lib.hid rfl⟩
    case round =>
      obtain ⟨k, hk2, rfl, hd⟩ := hrel
      by_cases hlt : k < es.length
      · obtain ⟨g, off, rfl, hg, hcx⟩ := (unhide HI1) (by omega)
        obtain ⟨q0, A', c', q1, hst⟩ := hcx k hlt
        clear hcx
        have kl : (k : Int) < (es.length : Int) := by omega
        have HP := hide fun h => all_step (d := el0) hlt hd.out h
        have HQ := hide fun h => all_no (p := lightE) (d := el0) hlt h
        generalize es.getD k el0 = x at *
        obtain ⟨key, ps⟩ := x
        simp only [] at q0 q1 hst
        have HST := hide hst
        clear hst
        by_cases hel : ps.length ≤ 20 ∧ key.size ≤ 40
        · obtain ⟨j1, j2⟩ := hel
          have HF := hide (show lightE (key, ps) = ps.all sh60 by unfold lightE; simp only [decide_eq_true j1, decide_eq_true j2, Bool.true_and])
          have i4 : ¬ (20 : Int) < (ps.length : Int) := by omega
          have i5 : ¬ (40 : Int) < (key.size : Int) := by omega
          go_wp2
          clear i4 i5
          go_loop [4] (fun i => ∃ j : Nat, j ≤ ps.length ∧ i = .int .i64 j ∧ Hid ((ps.take j).all sh60 = true)) (fun i => ps.length - (intOf i).toNat)
          case atStart => exact ⟨0, Nat.zero_le _, rfl, Lib.hid rfl⟩
          case round =>
            obtain ⟨j, hj2, rfl, hdj⟩ := hrel
            by_cases hjl : j < ps.length
            · obtain ⟨g', off', rfl, hg', hc'⟩ := (unhide HST) (by omega)
              have q := hc' j hjl
              clear hc'
              have jl : (j : Int) < (ps.length : Int) := by omega
              have HP' := hide fun h => all_step (d := ByteArray.empty) hjl hdj.out h
              have HQ' := hide fun h => all_no (p := sh60) (d := ByteArray.empty) hjl h
              generalize ps.getD j ByteArray.empty = p at *
              by_cases hp : p.size ≤ 60
              · have i6 : ¬ (60 : Int) < (p.size : Int) := by omega
                go_wp2
                go_round
                case rel => exact ⟨j + 1, by omega, by go_num, Lib.hid (unhide HP' (decide_eq_true hp))⟩
                case measure => simp [intOf]; omega
              · have i6 : (60 : Int) < (p.size : Int) := by omega
                go_wp2
                go_ret
                exact ⟨ret_bool (by rw [unhide HV, unhide HQ (by rw [unhide HF]; exact unhide HQ' (decide_eq_false hp))]), B0.out⟩
            · have HE := hide (show lightE (key, ps) = true by rw [unhide HF]; exact all_all (by omega) hdj.out)
              have jl : ¬ (j : Int) < (ps.length : Int) := by omega
              go_wp2
              go_round
              case rel => exact ⟨k + 1, by omega, by go_num, Lib.hid (unhide HP (unhide HE))⟩
              case measure => simp [intOf]; omega
        · have HF := hide (show lightE (key, ps) = false by
            unfold lightE
            by_cases j1 : ps.length ≤ 20
            · have j2 : ¬ key.size ≤ 40 := fun h => hel ⟨j1, h⟩
              rw [decide_eq_false j2]; simp
            · rw [decide_eq_false j1]; rfl)
          by_cases j1 : ps.length ≤ 20
          · have i4 : ¬ (20 : Int) < (ps.length : Int) := by omega
            have i5 : (40 : Int) < (key.size : Int) := by omega
            go_wp2
            go_ret
            exact ⟨ret_bool (by rw [unhide HV, unhide HQ (unhide HF)]), B0.out⟩
          · have i4 : (20 : Int) < (ps.length : Int) := by omega
            go_wp2
            go_ret
            exact ⟨ret_bool (by rw [unhide HV, unhide HQ (unhide HF)]), B0.out⟩
      · have kl : ¬ (k : Int) < (es.length : Int) := by omega
        go_wp2
        go_ret
        exact ⟨ret_bool (by rw [unhide HV, all_all (by omega) hd.out]), B0.out⟩
  · have hv : lightB ⟨K, C, es⟩ = false := by
      cases e : lightB ⟨K, C, es⟩ with
      | false => rfl
      | true =>
        unfold lightB at e
        rw [Bool.and_eq_true, Bool.and_eq_true, Bool.and_eq_true, decide_eq_true_eq, decide_eq_true_eq, decide_eq_true_eq] at e
        exact absurd ⟨e.1, e.2.1, e.2.2.1⟩ hsm
    rw [hv]
    clear hv HI1
    by_cases h1 : es.length ≤ 40
    · have i1 : ¬ (40 : Int) < (es.length : Int) := by omega
      by_cases h2 : K.size ≤ 40
      · have i2 : ¬ (40 : Int) < (K.size : Int) := by omega
        have i3 : (40 : Int) < (C.size : Int) := by omega
        go_enter Tryd.func8, Tryd.ntmps8
        go_wp2
        go_ret
        exact ⟨rfl, B0.out⟩
      · have i2 : (40 : Int) < (K.size : Int) := by omega
        go_enter Tryd.func8, Tryd.ntmps8
        go_wp2
        go_ret
        exact ⟨rfl, B0.out⟩
    · have i1 : (40 : Int) < (es.length : Int) := by omega
      go_enter Tryd.func8, Tryd.ntmps8
      go_wp2
      go_ret
      exact ⟨rfl, B0.out⟩
end Go.Proofs.YtmdjdhfchigekaaDoor
