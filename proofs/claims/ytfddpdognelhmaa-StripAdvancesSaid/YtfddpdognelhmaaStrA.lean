/-
  Strips (layer 9): contracts of the functions that only read: the fault at a window, where a bag goes, the empty windows, the window of a bag; for the program's and for the document's own.
-/
import Derived.Test.YtfddpdognelhmaaNumR
import Derived.Test.YtfddpdognelhmaaStrN
import Derived.IntWalk
namespace Go.Proofs.Ytfddpdognelhmaa
open Go.RowKit

theorem num_at {b : Nat} {w : World} {A : Option Addr} {l : List Int} (h : NumsIn b w A l) {k : Nat} (hk : k < l.length) : ∃ g off, A = some ⟨g, off, none⟩ ∧ g ≠ b ∧ w.cell? ⟨g, off + k, none⟩ = some (.int .i64 (l.getD k 0)) := by
  obtain ⟨g, off, hA, hg, hc⟩ := h (by omega)
  exact ⟨g, off, hA, hg, hc k hk⟩
theorem sFlt_no {f : List Int} {k : Nat} (h : ¬ k < f.length) : sFlt f k = 0 := by
  unfold sFlt; rw [List.getD_eq_getElem?_getD, List.getElem?_eq_none (by omega)]; rfl

theorem flt_any (b k : Nat) (f : List Int) (A : Option Addr) (c : Nat) (w : World) (h : NumsIn b w A f) :
    Calls Try.prog 26 #[.slice A f.length c, .int .i64 (k : Int)] w fun e w' => e = .returned (.int .i64 (sFlt f k)) ∧ w = w' := by
  by_cases hk : k < f.length
  · obtain ⟨g, off, rfl, _, c0⟩ := num_at h hk
    have kl : (k : Int) < (f.length : Int) := by omega
    have k0 : (0 : Int) ≤ (k : Int) := by omega
    unfold sFlt
    generalize f.getD k 0 = x at *
    clear h
    go_enter Try.func26, Try.ntmps26
    go_wp2
    go_ret
    exact ⟨rfl, rfl⟩
  · rw [sFlt_no hk]
    have kl : ¬ (k : Int) < (f.length : Int) := by omega
    clear h
    go_enter Try.func26, Try.ntmps26
    go_wp2
    go_ret
    exact ⟨rfl, rfl⟩
theorem rflt_any (b k : Nat) (f : List Int) (A : Option Addr) (c : Nat) (w : World) (h : NumsIn b w A f) :
    Calls Try.prog 28 #[.slice A f.length c, .int .i64 (k : Int)] w fun e w' => e = .returned (.int .i64 (sFlt f k)) ∧ w = w' := by
  by_cases hk : k < f.length
  · obtain ⟨g, off, rfl, _, c0⟩ := num_at h hk
    have kl : (k : Int) < (f.length : Int) := by omega
    have k0 : (0 : Int) ≤ (k : Int) := by omega
    unfold sFlt
    generalize f.getD k 0 = x at *
    clear h
    go_enter Try.func28, Try.ntmps28
    go_wp2
    go_ret
    exact ⟨rfl, rfl⟩
  · rw [sFlt_no hk]
    have kl : ¬ (k : Int) < (f.length : Int) := by omega
    clear h
    go_enter Try.func28, Try.ntmps28
    go_wp2
    go_ret
    exact ⟨rfl, rfl⟩

/-- Where the bag of a window that is not the last one goes, case by case. -/
theorem sTgt_keep {s f : List Int} {k : Nat} (h : sFlt f k = 1 ∨ s.getD (k + 1) 0 ≠ 0) : sTgt s f k = k := by unfold sTgt; rw [if_pos h]
theorem sTgt_slide {s f : List Int} {k : Nat} (h1 : sFlt f k = 2) (h2 : s.getD (k + 1) 0 = 0) (h3 : k + 2 < s.length) (h4 : s.getD (k + 2) 0 = 0) : sTgt s f k = k + 2 := by
  unfold sTgt; rw [if_neg (by rw [h1]; omega), if_pos ⟨h1, h3, h4⟩]
theorem sTgt_go {s f : List Int} {k : Nat} (h1 : sFlt f k ≠ 1) (h2 : s.getD (k + 1) 0 = 0) (h3 : ¬ (sFlt f k = 2 ∧ k + 2 < s.length ∧ s.getD (k + 2) 0 = 0)) : sTgt s f k = k + 1 := by
  unfold sTgt; rw [if_neg (by omega), if_neg h3]

set_option maxHeartbeats 1000000 in
theorem goal_any (b k : Nat) (s f : List Int) (op : Bool) (A : Option Addr) (c : Nat) (w : World) (hz : s.length ≤ 1000000) (hk : k < s.length) (h : NumsIn b w A s) :
    Calls Try.prog 25 #[.slice A s.length c, .int .i64 (k : Int), .int .i64 (sFlt f k), .bool op] w fun e w' => e = .returned (.int .i64 (sGl s f op k)) ∧ w = w' := by
  have s1 : IntKind.i64.wrap ((s.length : Int) - 1) = (s.length : Int) - 1 := IntWalk.i64_in _ (by omega)
  by_cases hl : k + 1 < s.length
  · have HG := hide (show sGl s f op k = sTgt s f k from by unfold sGl; rw [if_pos hl])
    obtain ⟨g, off, rfl, _, c1⟩ := num_at h hl
    have HZ := hide h
    have e1 : ((k : Int) == (s.length : Int) - 1) = false := by rw [beq_eq_false_iff_ne]; omega
    have l1 : (k : Int) < (s.length : Int) - 1 := by omega
    have k0 : (0 : Int) ≤ (k : Int) := by omega
    have k1 : (k : Int) + 1 < (s.length : Int) := by omega
    have n1 : ((k : Int) + 1).toNat = k + 1 := by omega
    by_cases hs : sFlt f k = 1
    · have HR := hide ((unhide HG).trans (sTgt_keep (.inl hs)))
      rw [hs]
      clear h hs
      go_enter Try.func25, Try.ntmps25
      go_wp2
      go_ret
      exact ⟨ret_int (by rw [unhide HR]), rfl⟩
    · by_cases hn : s.getD (k + 1) 0 = 0
      · rw [hn] at c1
        by_cases hd : sFlt f k = 2
        · by_cases h2 : k + 2 < s.length
          · obtain ⟨g', off', hA', _, c2⟩ := num_at h h2
            obtain ⟨rfl, rfl⟩ : g = g' ∧ off = off' := by injection hA' with hA'; injection hA' with q1 q2; exact ⟨q1, q2⟩
            have l2 : (k : Int) + 2 ≤ (s.length : Int) - 1 := by omega
            have k2 : (k : Int) + 2 < (s.length : Int) := by omega
            have n2 : ((k : Int) + 2).toNat = k + 2 := by omega
            by_cases hn2 : s.getD (k + 2) 0 = 0
            · have HR := hide ((unhide HG).trans (sTgt_slide hd hn h2 hn2))
              rw [hd]
              rw [hn2] at c2
              clear h hs hn hd hn2 hA'
              go_enter Try.func25, Try.ntmps25
              go_wp2
              go_ret
              exact ⟨ret_int (by rw [unhide HR]; rfl), rfl⟩
            · have HR := hide ((unhide HG).trans (sTgt_go hs hn (fun q => hn2 q.2.2)))
              have z2 : (s.getD (k + 2) 0 == 0) = false := by rw [beq_eq_false_iff_ne]; exact hn2
              rw [hd]
              generalize s.getD (k + 2) 0 = y at *
              clear h hs hn hd hA'
              go_enter Try.func25, Try.ntmps25
              go_wp2
              go_ret
              exact ⟨ret_int (by rw [unhide HR]; rfl), rfl⟩
          · have HR := hide ((unhide HG).trans (sTgt_go hs hn (fun q => h2 q.2.1)))
            have l2 : ¬ (k : Int) + 2 ≤ (s.length : Int) - 1 := by omega
            rw [hd]
            clear h hs hn hd
            go_enter Try.func25, Try.ntmps25
            go_wp2
            go_ret
            exact ⟨ret_int (by rw [unhide HR]; rfl), rfl⟩
        · have HR := hide ((unhide HG).trans (sTgt_go hs hn (fun q => hd q.1)))
          have z1 : (sFlt f k == 1) = false := by rw [beq_eq_false_iff_ne]; exact hs
          have z2 : (sFlt f k == 2) = false := by rw [beq_eq_false_iff_ne]; exact hd
          generalize sFlt f k = y at *
          clear h hs hn hd
          go_enter Try.func25, Try.ntmps25
          go_wp2
          go_ret
          exact ⟨ret_int (by rw [unhide HR]; rfl), rfl⟩
      · have HR := hide ((unhide HG).trans (sTgt_keep (.inr hn)))
        have z1 : (sFlt f k == 1) = false := by rw [beq_eq_false_iff_ne]; exact hs
        have z2 : (s.getD (k + 1) 0 != 0) = true := by rw [bne_iff_ne]; exact hn
        generalize sFlt f k = y at *
        generalize s.getD (k + 1) 0 = x at *
        clear h hs hn
        go_enter Try.func25, Try.ntmps25
        go_wp2
        go_ret
        exact ⟨ret_int (by rw [unhide HR]), rfl⟩
  · have hkl : k = s.length - 1 := by omega
    have e1 : ((k : Int) == (s.length : Int) - 1) = true := by rw [beq_iff_eq]; omega
    have l1 : ¬ (k : Int) < (s.length : Int) - 1 := by omega
    have l2 : ¬ (k : Int) + 2 ≤ (s.length : Int) - 1 := by omega
    have k0 : (0 : Int) ≤ (k : Int) := by omega
    by_cases hs : sFlt f k = 1
    · have HR := hide (show sGl s f op k = k from by unfold sGl; rw [if_neg hl, if_neg (fun q => q.2 hs)])
      rw [hs]
      clear h hs hkl
      go_enter Try.func25, Try.ntmps25
      go_wp2
      go_ret
      exact ⟨ret_int (by rw [unhide HR]), rfl⟩
    · have z1 : (sFlt f k == 1) = false := by rw [beq_eq_false_iff_ne]; exact hs
      cases op with
      | false =>
        have HR := hide (show sGl s f false k = k from by unfold sGl; rw [if_neg hl, if_neg (fun q => Bool.noConfusion q.1)])
        generalize sFlt f k = y at *
        clear h hs hkl
        go_enter Try.func25, Try.ntmps25
        go_wp2
        go_ret
        exact ⟨ret_int (by rw [unhide HR]), rfl⟩
      | true =>
        have HR := hide (show sGl s f true k = k + 1 from by unfold sGl; rw [if_neg hl, if_pos ⟨rfl, hs⟩])
        cases z2 : (sFlt f k == 2)
        all_goals
          generalize sFlt f k = y at *
          clear h hs hkl
          go_enter Try.func25, Try.ntmps25
          go_wp2
          go_ret
          exact ⟨ret_int (by rw [unhide HR]; rfl), rfl⟩

set_option maxHeartbeats 1000000 in
theorem rgoal_any (b k : Nat) (s f : List Int) (A A' : Option Addr) (c c' : Nat) (w : World) (hz : s.length ≤ 1000000) (hl : k + 1 < s.length) (h : NumsIn b w A s) (h' : NumsIn b w A' f) :
    Calls Try.prog 27 #[.slice A s.length c, .slice A' f.length c', .int .i64 (k : Int)] w fun e w' => e = .returned (.int .i64 (sTgt s f k)) ∧ w = w' := by
  have HF := hide (rflt_any b k f A' c' w h')
  obtain ⟨g, off, rfl, _, c1⟩ := num_at h hl
  have k0 : (0 : Int) ≤ (k : Int) := by omega
  have k1 : (k : Int) + 1 < (s.length : Int) := by omega
  have n1 : ((k : Int) + 1).toNat = k + 1 := by omega
  clear h'
  by_cases hs : sFlt f k = 1
  · have HR := hide (sTgt_keep (s := s) (f := f) (k := k) (.inl hs))
    rw [hs] at HF
    clear h hs
    go_enter Try.func27, Try.ntmps27
    go_wp2_with (first | (go_at_call 28; refine (unhide HF).mono ?_; rintro e w1 ⟨rfl, rfl⟩))
    go_ret
    exact ⟨ret_int (by rw [unhide HR]), rfl⟩
  · have z1 : (sFlt f k == 1) = false := by rw [beq_eq_false_iff_ne]; exact hs
    by_cases hn : s.getD (k + 1) 0 = 0
    · rw [hn] at c1
      by_cases hd : sFlt f k = 2
      · rw [hd] at HF
        by_cases h2 : k + 2 < s.length
        · obtain ⟨g', off', hA', _, c2⟩ := num_at h h2
          obtain ⟨rfl, rfl⟩ : g = g' ∧ off = off' := by injection hA' with hA'; injection hA' with q1 q2; exact ⟨q1, q2⟩
          have k2 : (k : Int) + 2 < (s.length : Int) := by omega
          have n2 : ((k : Int) + 2).toNat = k + 2 := by omega
          by_cases hn2 : s.getD (k + 2) 0 = 0
          · have HR := hide (sTgt_slide hd hn h2 hn2)
            rw [hn2] at c2
            clear h hs hn hd hn2 hA' z1
            go_enter Try.func27, Try.ntmps27
            go_wp2_with (first | (go_at_call 28; refine (unhide HF).mono ?_; rintro e w1 ⟨rfl, rfl⟩))
            go_ret
            exact ⟨ret_int (by rw [unhide HR]; rfl), rfl⟩
          · have HR := hide (sTgt_go (s := s) (f := f) (k := k) hs hn (fun q => hn2 q.2.2))
            have z2 : (s.getD (k + 2) 0 == 0) = false := by rw [beq_eq_false_iff_ne]; exact hn2
            generalize s.getD (k + 2) 0 = y at *
            clear h hs hn hd hA' z1
            go_enter Try.func27, Try.ntmps27
            go_wp2_with (first | (go_at_call 28; refine (unhide HF).mono ?_; rintro e w1 ⟨rfl, rfl⟩))
            go_ret
            exact ⟨ret_int (by rw [unhide HR]; rfl), rfl⟩
        · have HR := hide (sTgt_go (s := s) (f := f) (k := k) hs hn (fun q => h2 q.2.1))
          have k2 : ¬ (k : Int) + 2 < (s.length : Int) := by omega
          clear h hs hn hd z1
          go_enter Try.func27, Try.ntmps27
          go_wp2_with (first | (go_at_call 28; refine (unhide HF).mono ?_; rintro e w1 ⟨rfl, rfl⟩))
          go_ret
          exact ⟨ret_int (by rw [unhide HR]; rfl), rfl⟩
      · have HR := hide (sTgt_go (s := s) (f := f) (k := k) hs hn (fun q => hd q.1))
        have z2 : (sFlt f k == 2) = false := by rw [beq_eq_false_iff_ne]; exact hd
        generalize sFlt f k = y at *
        clear h hs hn hd
        go_enter Try.func27, Try.ntmps27
        go_wp2_with (first | (go_at_call 28; refine (unhide HF).mono ?_; rintro e w1 ⟨rfl, rfl⟩))
        go_ret
        exact ⟨ret_int (by rw [unhide HR]; rfl), rfl⟩
    · have HR := hide (sTgt_keep (s := s) (f := f) (k := k) (.inr hn))
      have z2 : (s.getD (k + 1) 0 != 0) = true := by rw [bne_iff_ne]; exact hn
      generalize sFlt f k = y at *
      generalize s.getD (k + 1) 0 = x at *
      clear h hs hn
      go_enter Try.func27, Try.ntmps27
      go_wp2_with (first | (go_at_call 28; refine (unhide HF).mono ?_; rintro e w1 ⟨rfl, rfl⟩))
      go_ret
      exact ⟨ret_int (by rw [unhide HR]), rfl⟩

set_option maxHeartbeats 1000000 in
theorem free_any (b : Nat) (s : List Int) (A : Option Addr) (c : Nat) (w : World) (hz : s.length ≤ 1000000) (h : NumsIn b w A s) :
    Calls Try.prog 15 #[.slice A s.length c] w fun e w' => e = .returned (.int .i64 (sFree s : Int)) ∧ w = w' := by
  have HH := hide h
  clear h
  go_enter Try.func15, Try.ntmps15
  go_wp2
  go_loop [3, 8] (fun n i => ∃ k : Nat, k ≤ s.length ∧ i = .int .i64 k ∧ n = .int .i64 (sFree (s.take k) : Int)) (fun _ i => s.length - (intOf i).toNat)
  case atStart => exact ⟨0, Nat.zero_le _, rfl, rfl⟩
  case round =>
    obtain ⟨k, hk, rfl, rfl⟩ := hrel
    by_cases hlt : k < s.length
    · obtain ⟨g, off, rfl, _, c0⟩ := num_at (unhide HH) hlt
      have kl : (k : Int) < (s.length : Int) := by omega
      have k0 : (0 : Int) ≤ (k : Int) := by omega
      have HS := hide (sFree_step hlt)
      have hb : sFree (s.take k) ≤ 1000000 := Nat.le_trans (sFree_le _) (by rw [List.length_take]; omega)
      generalize sFree (s.take k) = m at *
      by_cases h0 : s.getD k 0 = 0
      · have HS2 := hide (show sFree (s.take (k + 1)) = m + 1 by rw [unhide HS, if_pos h0])
        rw [h0] at c0
        clear h0
        go_wp2
        go_round
        case rel => exact ⟨k + 1, by omega, by go_num, by rw [unhide HS2]; go_num⟩
        case measure => simp [intOf]; omega
      · have HS2 := hide (show sFree (s.take (k + 1)) = m by rw [unhide HS, if_neg h0]; rfl)
        have z0 : (s.getD k 0 == 0) = false := by rw [beq_eq_false_iff_ne]; exact h0
        generalize s.getD k 0 = x at *
        clear h0
        go_wp2
        go_round
        case rel => exact ⟨k + 1, by omega, by go_num, by rw [unhide HS2]⟩
        case measure => simp [intOf]; omega
    · obtain rfl : k = s.length := by omega
      have kl : ¬ (s.length : Int) < (s.length : Int) := by omega
      rw [List.take_length]
      go_wp2
      go_ret
      exact ⟨rfl, rfl⟩
set_option maxHeartbeats 1000000 in
theorem rfree_any (b : Nat) (s : List Int) (A : Option Addr) (c : Nat) (w : World) (hz : s.length ≤ 1000000) (h : NumsIn b w A s) :
    Calls Try.prog 16 #[.slice A s.length c] w fun e w' => e = .returned (.int .i64 (sFree s : Int)) ∧ w = w' := by
  have HH := hide h
  clear h
  go_enter Try.func16, Try.ntmps16
  go_wp2
  go_loop [3, 4] (fun n i => ∃ k : Nat, k ≤ s.length ∧ i = .int .i64 k ∧ n = .int .i64 (sFree (s.take k) : Int)) (fun _ i => s.length - (intOf i).toNat)
  case atStart => exact ⟨0, Nat.zero_le _, rfl, rfl⟩
  case round =>
    obtain ⟨k, hk, rfl, rfl⟩ := hrel
    by_cases hlt : k < s.length
    · obtain ⟨g, off, rfl, _, c0⟩ := num_at (unhide HH) hlt
      have kl : (k : Int) < (s.length : Int) := by omega
      have k0 : (0 : Int) ≤ (k : Int) := by omega
      have HS := hide (sFree_step hlt)
      have hb : sFree (s.take k) ≤ 1000000 := Nat.le_trans (sFree_le _) (by rw [List.length_take]; omega)
      generalize sFree (s.take k) = m at *
      by_cases h0 : s.getD k 0 = 0
      · have HS2 := hide (show sFree (s.take (k + 1)) = m + 1 by rw [unhide HS, if_pos h0])
        rw [h0] at c0
        clear h0
        go_wp2
        go_round
        case rel => exact ⟨k + 1, by omega, by go_num, by rw [unhide HS2]; go_num⟩
        case measure => simp [intOf]; omega
      · have HS2 := hide (show sFree (s.take (k + 1)) = m by rw [unhide HS, if_neg h0]; rfl)
        have z0 : (s.getD k 0 == 0) = false := by rw [beq_eq_false_iff_ne]; exact h0
        generalize s.getD k 0 = x at *
        clear h0
        go_wp2
        go_round
        case rel => exact ⟨k + 1, by omega, by go_num, by rw [unhide HS2]⟩
        case measure => simp [intOf]; omega
    · obtain rfl : k = s.length := by omega
      have kl : ¬ (s.length : Int) < (s.length : Int) := by omega
      rw [List.take_length]
      go_wp2
      go_ret
      exact ⟨rfl, rfl⟩

set_option maxHeartbeats 1000000 in
theorem sindex_any (b : Nat) (s : List Int) (x : Int) (A : Option Addr) (c : Nat) (w : World) (hz : s.length ≤ 1000000) (h : NumsIn b w A s) :
    Calls Try.prog 20 #[.slice A s.length c, .int .i64 x] w fun e w' => e = .returned (.int .i64 (sIdx s x : Int)) ∧ w = w' := by
  have HH := hide h
  clear h
  go_enter Try.func20, Try.ntmps20
  go_wp2
  go_loop [5] (fun i => ∃ k : Nat, k ≤ s.length ∧ i = .int .i64 k ∧ Hid (∀ j, j < k → s.getD j 0 ≠ x)) (fun i => s.length - (intOf i).toNat)
  case atStart => exact ⟨0, Nat.zero_le _, rfl, Lib.hid fun j hj => absurd hj (by omega)⟩
  case round =>
    obtain ⟨k, hk, rfl, hd⟩ := hrel
    by_cases hlt : k < s.length
    · obtain ⟨g, off, rfl, _, c0⟩ := num_at (unhide HH) hlt
      have kl : (k : Int) < (s.length : Int) := by omega
      have k0 : (0 : Int) ≤ (k : Int) := by omega
      have HD := hide (fun (h : s.getD k 0 ≠ x) (j : Nat) (hj : j < k + 1) => (show s.getD j 0 ≠ x from by
        by_cases e : j = k
        · rw [e]; exact h
        · exact hd.out j (by omega)))
      have HI := hide (fun (h : s.getD k 0 = x) => sIdx_go hlt hd.out h)
      clear hd
      cases h0 : (s.getD k 0 == x) with
      | true =>
        have HI2 := hide (unhide HI (by rwa [beq_iff_eq] at h0))
        generalize s.getD k 0 = y at *
        go_wp2
        go_ret
        exact ⟨ret_int (by rw [unhide HI2]), rfl⟩
      | false =>
        have HD2 := hide (unhide HD (by rwa [beq_eq_false_iff_ne] at h0))
        generalize s.getD k 0 = y at *
        go_wp2
        go_round
        case rel => exact ⟨k + 1, by omega, by go_num, Lib.hid (unhide HD2)⟩
        case measure => simp [intOf]; omega
    · obtain rfl : k = s.length := by omega
      have HE := hide (sIdx_end hd.out)
      have kl : ¬ (s.length : Int) < (s.length : Int) := by omega
      clear hd
      go_wp2
      go_ret
      exact ⟨ret_int (by rw [unhide HE]), rfl⟩
end Go.Proofs.Ytfddpdognelhmaa
