/-
  Contracts of the checks of telegrams, the document's own: letters, plain, formed, within.
-/
import Derived.Test.YtmdjdhfchigekaaDoorTelA
namespace Go.Proofs.YtmdjdhfchigekaaDoor
open Go.RowKit

theorem rletN_of {s : ByteArray} {n : Int} (h : allLet s.data.toList = true) : letN s n = ((s.size : Int) == n) := by
  unfold letN; rw [h, Bool.and_true]; by_cases e : (s.size : Int) = n <;> simp [e]
theorem letN_no2 {s : ByteArray} {n : Int} (h : allLet s.data.toList = false) : letN s n = false := by unfold letN; rw [h, Bool.and_false]

set_option maxHeartbeats 1000000 in
theorem rlet_any (s : ByteArray) (n : Int) (w : World) (hs : s.size ≤ 3000) : Calls Tryd.prog 42 #[.string s, .int .i64 n] w fun e w' => e = .returned (.bool (letN s n)) ∧ w = w' := by
  go_enter Tryd.func42, Tryd.ntmps42
  go_wp2
  go_loop [5] (fun i => ∃ k : Nat, k ≤ s.size ∧ i = .int .i64 k ∧ Hid (allLet (s.data.toList.take k) = true)) (fun i => s.size - (intOf i).toNat)
  case atStart => exact ⟨0, Nat.zero_le _, rfl, Lib.hid rfl⟩
  case round =>
    obtain ⟨k, hk, rfl, hd⟩ := hrel
    by_cases hlt : k < s.size
    · go_wp2
      all_goals first
        | (go_ret; exact ⟨ret_bool (letN_no2 (allLet_no hlt (by unfold isLe; rw [decide_eq_false_iff_not]; omega))).symm, rfl⟩)
        | (go_round
           case rel => exact ⟨k + 1, by omega, by go_num, Lib.hid (allLet_step hlt hd.out (isLe_iff.2 (by omega)))⟩
           case measure => simp [intOf]; omega)
    · have HV := hide (rletN_of (n := n) (allLet_all s k (by omega) hd.out))
      go_wp2
      go_ret
      exact ⟨ret_bool (unhide HV).symm, rfl⟩

theorem isPc_iff {c : Int} : isPc c = true ↔ (65 ≤ c ∧ c ≤ 90) ∨ (48 ≤ c ∧ c ≤ 57) ∨ (c == 32) = true ∨ (c == 45) = true ∨ (c == 43) = true := by
  unfold isPc isLe isD
  simp only [Bool.or_eq_true, decide_eq_true_eq, beq_iff_eq]

theorem no_pc {c : Int} (h1 : (c == 32) = false) (h2 : (c == 45) = false) (h3 : (c == 43) = false) (h4 : c < 65 ∨ 90 < c) (h5 : c < 48 ∨ 57 < c) : ¬ isPc c = true := fun h => by
  rw [isPc_iff, h1, h2, h3] at h
  rcases h with ⟨a, b⟩ | ⟨a, b⟩ | h | h | h
  · omega
  · omega
  · exact Bool.false_ne_true h
  · exact Bool.false_ne_true h
  · exact Bool.false_ne_true h

set_option maxHeartbeats 1000000 in
theorem plain_any (s : ByteArray) (w : World) (hs : s.size ≤ 3000) : Calls Tryd.prog 43 #[.string s] w fun e w' => e = .returned (.bool (pcB s)) ∧ w = w' := by
  go_enter Tryd.func43, Tryd.ntmps43
  go_wp2
  go_loop [3, 4] (fun i _ => ∃ k : Nat, k ≤ s.size ∧ i = .int .i64 k ∧ Hid ((s.data.toList.take k).all pcU = true)) (fun i _ => s.size - (intOf i).toNat)
  case atStart => exact ⟨0, Nat.zero_le _, rfl, Lib.hid rfl⟩
  case round =>
    obtain ⟨k, hk, rfl, hd⟩ := hrel
    by_cases hlt : k < s.size
    · rcases (by omega : (s[k].toNat : Int) < 48 ∨ (48 ≤ (s[k].toNat : Int) ∧ (s[k].toNat : Int) ≤ 57) ∨ (57 < (s[k].toNat : Int) ∧ (s[k].toNat : Int) < 65) ∨ (65 ≤ (s[k].toNat : Int) ∧ (s[k].toNat : Int) ≤ 90) ∨ 90 < (s[k].toNat : Int)) with g | ⟨g, g'⟩ | ⟨g, g'⟩ | ⟨g, g'⟩ | g
      · have g1 : ¬ (65 : Int) ≤ (s[k].toNat : Int) := by omega
        have g2 : ¬ (48 : Int) ≤ (s[k].toNat : Int) := by omega
        cases h1 : ((s[k].toNat : Int) == 32) <;> cases h2 : ((s[k].toNat : Int) == 45) <;> cases h3 : ((s[k].toNat : Int) == 43)
        all_goals
          have H1 := Lib.hid h1
          have H2 := Lib.hid h2
          have H3 := Lib.hid h3
          go_wp2
        all_goals first
          | (go_ret; exact ⟨ret_bool (pc_no hlt (Bool.not_eq_true _ ▸ no_pc H1.out H2.out H3.out (.inl (by omega)) (.inl (by omega)))).symm, rfl⟩)
          | (go_round
             case rel => exact ⟨k + 1, by omega, by go_num, Lib.hid (pc_step hlt hd.out (by rw [isPc_iff, H1.out, H2.out, H3.out]; first | (exact .inr (.inr (.inl rfl))) | (exact .inr (.inr (.inr (.inl rfl)))) | (exact .inr (.inr (.inr (.inr rfl))))))⟩
             case measure => simp [intOf]; omega)
      · have g1 : ¬ (65 : Int) ≤ (s[k].toNat : Int) := by omega
        go_wp2
        go_round
        case rel => exact ⟨k + 1, by omega, by go_num, Lib.hid (pc_step hlt hd.out (isPc_iff.2 (.inr (.inl ⟨g, g'⟩))))⟩
        case measure => simp [intOf]; omega
      · have h1 : ((s[k].toNat : Int) == 32) = false := by rw [beq_eq_false_iff_ne]; omega
        have h2 : ((s[k].toNat : Int) == 45) = false := by rw [beq_eq_false_iff_ne]; omega
        have h3 : ((s[k].toNat : Int) == 43) = false := by rw [beq_eq_false_iff_ne]; omega
        have g1 : ¬ (65 : Int) ≤ (s[k].toNat : Int) := by omega
        have g2 : (48 : Int) ≤ (s[k].toNat : Int) := by omega
        have g3 : ¬ (s[k].toNat : Int) ≤ (57 : Int) := by omega
        have HN := Lib.hid (no_pc h1 h2 h3 (.inl g') (.inr g))
        go_wp2
        go_ret
        exact ⟨ret_bool (pc_no hlt (Bool.not_eq_true _ ▸ HN.out)).symm, rfl⟩
      · go_wp2
        go_round
        case rel => exact ⟨k + 1, by omega, by go_num, Lib.hid (pc_step hlt hd.out (isPc_iff.2 (.inl ⟨g, g'⟩)))⟩
        case measure => simp [intOf]; omega
      · have h1 : ((s[k].toNat : Int) == 32) = false := by rw [beq_eq_false_iff_ne]; omega
        have h2 : ((s[k].toNat : Int) == 45) = false := by rw [beq_eq_false_iff_ne]; omega
        have h3 : ((s[k].toNat : Int) == 43) = false := by rw [beq_eq_false_iff_ne]; omega
        have g1 : (65 : Int) ≤ (s[k].toNat : Int) := by omega
        have g2 : (48 : Int) ≤ (s[k].toNat : Int) := by omega
        have g3 : ¬ (s[k].toNat : Int) ≤ (57 : Int) := by omega
        have g4 : ¬ (s[k].toNat : Int) ≤ (90 : Int) := by omega
        have HN := Lib.hid (no_pc h1 h2 h3 (.inr g) (.inr (by omega)))
        go_wp2
        go_ret
        exact ⟨ret_bool (pc_no hlt (Bool.not_eq_true _ ▸ HN.out)).symm, rfl⟩
    · go_wp2
      go_ret
      exact ⟨ret_bool (pc_all (by omega) hd.out).symm, rfl⟩

set_option maxHeartbeats 1000000 in
theorem within_any (b : Nat) (key : ByteArray) (ps : List ByteArray) (A : Option Addr) (c : Nat) (w : World) (hz : ps.length ≤ 3000) (h : StrsIn b w A ps) :
    Calls Tryd.prog 30 #[.agg #[.string key, .slice A ps.length c]] w fun e w' => e = .returned (.bool (belB (key, ps))) ∧ Below w.heap.size w w' := by
  have B0 := Lib.hid ((Below.refl w.heap.size w).alloc (Nat.le_refl _) (.cells #[.string key, .slice A ps.length c] 34))
  have HI1 := hide (h.keep ((Below.refl w.heap.size w).alloc (Nat.le_refl _) (.cells #[.string key, .slice A ps.length c] 34)))
  clear h
  go_enter Tryd.func30, Tryd.ntmps30
  go_wp2
  go_loop [3] (fun i => ∃ k : Nat, k ≤ ps.length ∧ i = .int .i64 k ∧ Hid ((ps.take k).all shB = true)) (fun i => ps.length - (intOf i).toNat)
  case atStart => exact ⟨0, Nat.zero_le _, rfl, Lib.hid rfl⟩
  case round =>
    obtain ⟨k, hk2, rfl, hd⟩ := hrel
    by_cases hlt : k < ps.length
    · obtain ⟨g, off, rfl, hg, hc⟩ := (unhide HI1) (by omega)
      have q := hc k hlt
      clear hc
      have kl : (k : Int) < (ps.length : Int) := by omega
      have HP := hide fun h => all_step (d := ByteArray.empty) hlt hd.out h
      have HQ := hide fun h => all_no (p := shB) (d := ByteArray.empty) hlt h
      generalize ps.getD k ByteArray.empty = p at *
      by_cases hp : p.size ≤ 20
      · have i1 : ¬ (20 : Int) < (p.size : Int) := by omega
        go_wp2
        go_round
        case rel => exact ⟨k + 1, by omega, by go_num, Lib.hid (unhide HP (by unfold shB; simp [hp]))⟩
        case measure => simp [intOf]; omega
      · have i1 : (20 : Int) < (p.size : Int) := by omega
        go_wp2
        go_ret
        exact ⟨ret_bool (by unfold belB; rw [unhide HQ (by unfold shB; simp [hp])]; simp), B0.out⟩
    · have HV := hide (show belB (key, ps) = decide ((ps.length : Int) ≤ 8) by
        unfold belB; rw [all_all (l := ps) (by omega) hd.out, Bool.and_true]
        by_cases e : ps.length ≤ 8
        · rw [decide_eq_true e, decide_eq_true (by omega)]
        · rw [decide_eq_false e, decide_eq_false (by omega)])
      go_wp2
      go_ret
      exact ⟨ret_bool (unhide HV).symm, B0.out⟩
end Go.Proofs.YtmdjdhfchigekaaDoor
