/-
  Lanes (layer 17): the document's own valid, last, Assign, Count, Chain, Check.
-/
import Derived.Test.YtmmhchhekmcihaaLanM
import Derived.Test.YtmmhchhekmcihaaNumO
import Derived.Lib.BufferOwn
import Derived.Laws.OwnMore
import Derived.Deep.AppendLies
import Derived.Deep.CutRange
namespace Go.Proofs.Ytmmhchhekmcihaa
open Go.RowKit

theorem num_cell {b i : Nat} {w : World} {A : Option Addr} {l : List Int} (h : NumsIn b w A l) (hi : i < l.length) : ∃ g off, A = some ⟨g, off, none⟩ ∧ w.cell? ⟨g, off + i, none⟩ = some (.int .i64 (l.getD i 0)) := by
  obtain ⟨g, off, e, _, hc⟩ := h (by omega)
  exact ⟨g, off, e, hc i hi⟩
theorem val_step {due : List Int} {k : Nat} (hk : k < due.length) (h : ∀ x ∈ due.take k, 0 ≤ x ∧ x ≤ 1048576) (hx : 0 ≤ due.getD k 0 ∧ due.getD k 0 ≤ 1048576) : ∀ x ∈ due.take (k + 1), 0 ≤ x ∧ x ≤ 1048576 := fun x hm => by
  rw [List.take_succ_eq_append_getElem hk, List.mem_append, List.mem_singleton] at hm
  rcases hm with hm | hm
  · exact h x hm
  · rw [hm, ← at_k hk (d := (0 : Int))]; exact hx
theorem val_ok {due : List Int} (h : valE due = 0) : due.length ≤ 200 ∧ ∀ x ∈ due, 0 ≤ x ∧ x ≤ 1048576 := by
  unfold valE at h
  split at h
  · cases h
  · split at h
    · rename_i h1 h2; exact ⟨by omega, h2⟩
    · cases h
theorem val_bad {due : List Int} (h0 : ¬ 200 < due.length) {k : Nat} (hk : k < due.length) (h : ¬ (0 ≤ due.getD k 0 ∧ due.getD k 0 ≤ 1048576)) : valE due = 1 := by
  unfold valE
  rw [if_neg h0, if_neg (fun hh => h (hh _ (by rw [at_k hk]; exact List.getElem_mem _)))]
theorem rvalid_any (b : Nat) (due : List Int) (A : Option Addr) (c : Nat) (w : World) (h : NumsIn b w A due) :
    Calls Try.prog 36 #[.slice A due.length c] w fun e w' => e = .returned (.int .i64 (valE due)) ∧ w = w' := by
  have HL := hide h
  clear h
  by_cases h2 : (200 : Int) < (due.length : Int)
  · have HE := hide (show valE due = 2 from if_pos (by omega))
    go_enter Try.func36, Try.ntmps36
    go_wp2
    go_ret
    exact ⟨by rw [unhide HE]; rfl, rfl⟩
  have H0 := hide (show ¬ 200 < due.length by omega)
  go_enter Try.func36, Try.ntmps36
  go_wp2
  go_loop [3] (fun i => ∃ k : Nat, k ≤ due.length ∧ i = .int .i64 k ∧ Hid (∀ x ∈ due.take k, 0 ≤ x ∧ x ≤ 1048576)) (fun i => due.length - (intOf i).toNat)
  case atStart => exact ⟨0, Nat.zero_le _, rfl, Lib.hid fun x hx => by simp at hx⟩
  case round =>
    obtain ⟨k, hk, rfl, HJ⟩ := hrel
    by_cases hlt : k < due.length
    · obtain ⟨g, off, rfl, c0⟩ := num_cell (unhide HL) hlt
      have kl : (k : Int) < (due.length : Int) := by omega
      have k0 : (0 : Int) ≤ (k : Int) := by omega
      have HB := hide (fun h => val_bad (unhide H0) hlt h)
      have HS := hide (fun h => val_step hlt (unhide HJ) h)
      generalize due.getD k 0 = x at *
      by_cases x0 : x < 0
      · have HE := hide (unhide HB (by omega))
        go_wp2
        go_ret
        exact ⟨by rw [unhide HE]; rfl, rfl⟩
      · by_cases x1 : 1048576 < x
        · have HE := hide (unhide HB (by omega))
          go_wp2
          go_ret
          exact ⟨by rw [unhide HE]; rfl, rfl⟩
        · have HE := hide (unhide HS (by omega))
          go_wp2
          go_round
          case rel => exact ⟨k + 1, by omega, by go_num, HE⟩
          case measure => simp [intOf]; omega
    · have kl : ¬ (k : Int) < (due.length : Int) := by omega
      have HE := hide (show valE due = 0 by
        have h9 := unhide HJ
        rw [List.take_of_length_le (by omega)] at h9
        unfold valE
        rw [if_neg (unhide H0), if_pos h9])
      go_wp2
      go_ret
      exact ⟨by rw [unhide HE]; rfl, rfl⟩
theorem rlast_any (b : Nat) (L : List Nat) (i lane j : Nat) (A : Option Addr) (c : Nat) (w : World) (hj : isLast L i lane j) (hi : i ≤ L.length) (hz : L.length ≤ 1000000) (h : NumsIn b w A (nI L)) :
    Calls Try.prog 37 #[.slice A L.length c, .int .i64 i, .int .i64 lane] w fun e w' => e = .returned (.int .i64 j) ∧ w = w' := by
  have HL := hide h
  have HJ := hide hj
  have j1 := hj.1
  have hw : IntKind.i64.wrap ((i : Int) - 1) = ((i - 1 : Nat) : Int) := by rw [IntKind.wrap_i64]; omega
  clear h hj
  go_enter Try.func37, Try.ntmps37
  go_wp2
  go_loop [7] (fun v => ∃ p : Nat, j ≤ p ∧ p < i ∧ v = .int .i64 p) (fun v => (intOf v).toNat)
  case atStart => exact ⟨i - 1, by omega, by omega, by first | rfl | (rw [show ((i - 1 : Nat) : Int) = (i : Int) - 1 by omega])⟩
  case round =>
    obtain ⟨p, hp, hpi, rfl⟩ := hrel
    have p0 : (0 : Int) ≤ (p : Int) := by omega
    have pl : (p : Int) < (L.length : Int) := by omega
    obtain ⟨g, off, rfl, c0⟩ := num_cell (unhide HL) (i := p) (by rw [nI_len]; omega)
    rw [nI_at (by omega)] at c0
    by_cases e : L.getD p 0 = lane
    · have hpj : p = j := by
        rcases Nat.lt_or_ge j p with h1 | h1
        · exact absurd e ((unhide HJ).2.2 p h1 hpi)
        · omega
      subst hpj
      rw [e] at c0
      go_wp2
      go_ret
      exact ⟨rfl, rfl⟩
    · have hpj : j < p := by
        rcases Nat.lt_or_ge j p with h1 | h1
        · exact h1
        · obtain rfl : p = j := by omega
          exact absurd (unhide HJ).2.1 e
      have q : ((L.getD p 0 : Int) == (lane : Int)) = false := by rw [beq_eq_false_iff_ne]; omega
      have HQ := hide e
      clear e
      generalize L.getD p 0 = y at *
      have hw2 : IntKind.i64.wrap ((p : Int) - 1) = ((p - 1 : Nat) : Int) := by rw [IntKind.wrap_i64]; omega
      go_wp2
      go_round
      case rel => exact ⟨p - 1, by omega, by omega, by first | rfl | (rw [show ((p - 1 : Nat) : Int) = (p : Int) - 1 by omega])⟩
      case measure => simp [intOf]; omega
def asgR (due : List Int) : List Nat := if valE due = 0 then asgF due else []
theorem asg_next {due : List Int} {i : Nat} (hi : i < due.length) {x : Int} (hx : due.getD i 0 = x) : (asgK due (i + 1)).L = (asgK due i).L ++ [plc (asgK due i).E x] ∧ (asgK due (i + 1)).E.length = if plc (asgK due i).E x < (asgK due i).E.length then (asgK due i).E.length else (asgK due i).E.length + 1 := by
  rw [asgK_step hi, hx]
  exact ⟨rfl, putE_len _ _⟩
/-- What a call that returns numbers of its own gives. -/
def GivesN (w : World) (l : List Nat) (w' : World) (A : Option Addr) (c : Nat) : Prop := w'.ownsRow w.heap.size 3 1 (.slice A l.length c) l.length ((nI l).map (Value.int .i64)) ∧ Below w.heap.size w w'
set_option maxHeartbeats 2000000 in
set_option maxRecDepth 100000 in
theorem rassign_any (b : Nat) (due : List Int) (A : Option Addr) (c : Nat) (w : World) (h : NumsIn b w A due) :
    Calls Try.prog 12 #[.slice A due.length c] w fun e w' => ∃ A' c', e = .returned (.tuple #[.slice A' (asgR due).length c', .int .i64 (valE due)]) ∧ GivesN w (asgR due) w' A' c' := by
  have HVa := hide (rvalid_any b due A c w h)
  have HD := hide (fun W (hb : Below w.heap.size w W) => NumsIn.keep h hb)
  clear h
  by_cases hv : valE due = 0
  case neg =>
    have HE := hide (show asgR due = [] from if_neg hv)
    have q : (valE due != 0) = true := by rw [bne_iff_ne]; exact hv
    clear hv
    generalize valE due = er at *
    go_enter Try.func12, Try.ntmps12
    go_wp2_with (go_at_call 36; refine (unhide HVa).mono ?_; rintro e wz ⟨rfl, hwz⟩; subst wz)
    go_ret2
    rw [unhide HE]
    exact ⟨none, 0, rfl, World.ownsRow_nil _ _ _ _, Below.refl _ _⟩
  have HE := hide (show asgR due = asgF due from if_pos hv)
  have HOk := hide (val_ok hv)
  have HVz := hide hv
  rw [hv] at HVa
  have HVa := hide (unhide HVa)
  clear hv
  have hz := (unhide HOk).1
  obtain ⟨i0, hi, hz0, hz1, hz2⟩ := info_parts linfo_int
  have HI0 := hide hi
  have HZ0 := hide hz0
  have HZ1 := hide hz1
  have HZ2 := hide hz2
  clear hi hz0 hz1 hz2
  have H0 := hide (show Below w.heap.size w w ∧ w.ownsRow w.heap.size 3 1 (.slice none 0 0) 0 ((nI (asgK due 0).L).map (Value.int .i64)) from ⟨Below.refl _ _, World.ownsRow_nil _ _ _ _⟩)
  go_enter Try.func12, Try.ntmps12
  go_wp2_with (go_at_call 36; refine (unhide HVa).mono ?_; rintro e wz ⟨rfl, hwz⟩; subst wz)
  go_loopw [5, 6, 7] (fun s5 s6 s7 wr => ∃ (i : Nat) (A' : Option Addr) (c' : Nat), i ≤ due.length ∧ s5 = .slice A' i c' ∧ s6 = .int .i64 ((asgK due i).E.length : Nat) ∧ s7 = .int .i64 i ∧ Hid (Below w.heap.size w wr ∧ wr.ownsRow w.heap.size 3 1 (.slice A' i c') i ((nI (asgK due i).L).map (Value.int .i64)))) (fun _ _ s7 _ => due.length - (intOf s7).toNat)
  case atStart => exact ⟨0, none, 0, Nat.zero_le _, rfl, rfl, rfl, H0⟩
  case round =>
    obtain ⟨i, A', c', hi, rfl, rfl, rfl, HP⟩ := hrel
    obtain ⟨wo, rfl⟩ : ∃ wo : World, wo = wr := ⟨_, rfl⟩
    clear H0
    by_cases hlt : i < due.length
    · have il : (i : Int) < (due.length : Int) := by omega
      have i0' : (0 : Int) ≤ (i : Int) := by omega
      have HI := hide (asgI due i hi)
      have HLn := hide (asg_len hi)
      have HRow := hide (show NumsIn wo.heap.size wo A' (nI (asgK due i).L) from nums_own (n := i) (unhide HP).2 (.inr (Nat.le_refl _)))
      have HDw := hide ((unhide HD) wo (unhide HP).1)
      obtain ⟨g, off, rfl, ci⟩ := num_cell (unhide HDw) hlt
      obtain ⟨x, hx⟩ : ∃ x, due.getD i 0 = x := ⟨_, rfl⟩
      rw [hx] at ci
      have HNx := hide (asg_next hlt hx)
      have HLow := hide (asg_low hi)
      generalize hs : asgK due i = s at *
      have HLast := hide (fun lane (hl : lane < s.E.length) => by
        obtain ⟨j, h1, h2⟩ := (unhide HI).ends lane hl
        have h3 := rlast_any wo.heap.size s.L i lane j A' c' wo h1 (by rw [unhide HLn]; exact Nat.le_refl _) (by rw [unhide HLn]; omega) (unhide HRow)
        rw [unhide HLn] at h3
        exact (⟨j, by have := h1.1; omega, h2, h3⟩ : ∃ j, j < due.length ∧ due.getD j 0 = s.E.getD lane 0 ∧ Calls Try.prog 37 #[.slice A' i c', .int .i64 i, .int .i64 lane] wo fun e w' => e = .returned (.int .i64 j) ∧ wo = w'))
      have hEl : s.E.length ≤ 200 := by have := unhide HLow; omega
      clear hs hx
      have hB0 := bestK_zero s.E x
      go_upto_region 11 with fail
      have hbest0 := bestK_zero s.E x
      go_loop [8, 9] (fun s8 s9 => ∃ k : Nat, k ≤ s.E.length ∧ s8 = .int .i64 (bestK s.E x k : Nat) ∧ s9 = .int .i64 k) (fun _ s9 => s.E.length - (intOf s9).toNat)
      case atStart => exact ⟨0, Nat.zero_le _, by rw [hbest0], rfl⟩
      case round =>
        obtain ⟨k, hk, rfl, rfl⟩ := hrel
        by_cases hkl : k < s.E.length
        · have kl : (k : Int) < (s.E.length : Int) := by omega
          obtain ⟨j, hj, hjd, hcall⟩ := (unhide HLast) k hkl
          obtain ⟨g', off', e', cj⟩ := num_cell (unhide HDw) hj
          injection e' with e'
          injection e' with e1 e2
          subst e1; subst e2
          rw [hjd] at cj
          have HCa := hide hcall
          have jl : (j : Int) < (due.length : Int) := by omega
          have j0 : (0 : Int) ≤ (j : Int) := by omega
          rcases bestK_step (unhide HI) (x := x) hkl with ⟨b1, b2⟩ | ⟨b1, b2, b3⟩ | ⟨b1, b2, b3, b4⟩
          · have HB := hide b2
            clear hcall hjd b2
            generalize s.E.getD k 0 = y at *
            go_wp2_with (go_at_call 37; with_reducible refine (unhide HCa).mono ?_; rintro e wz ⟨rfl, hwz⟩; subst wz)
            go_round
            case rel => exact ⟨k + 1, by omega, by rw [unhide HB], by go_num⟩
            case measure => simp [intOf]; omega
          · have HB := hide b3
            have hbq := b2
            clear hcall hjd b3 b2
            generalize s.E.getD k 0 = y at *
            have qq : ((bestK s.E x k : Nat) : Int) = (s.E.length : Int) := by omega
            have qb : (((bestK s.E x k : Nat) : Int) == (s.E.length : Int)) = true := by rw [beq_iff_eq]; exact qq
            clear qq hbq
            generalize bestK s.E x k = bk at *
            go_wp2_with (go_at_call 37; with_reducible refine (unhide HCa).mono ?_; rintro e wz ⟨rfl, hwz⟩; subst wz)
            go_round
            case rel => exact ⟨k + 1, by omega, by rw [unhide HB], by go_num⟩
            case measure => simp [intOf]; omega
          · have HB := hide b4
            obtain ⟨j2, hj2, hjd2, hcall2⟩ := (unhide HLast) (bestK s.E x k) b2
            obtain ⟨g2, off2, e2', cj2⟩ := num_cell (unhide HDw) hj2
            injection e2' with e2'
            injection e2' with e21 e22
            subst e21; subst e22
            rw [hjd2] at cj2
            have HCb := hide hcall2
            have jl2 : (j2 : Int) < (due.length : Int) := by omega
            have j20 : (0 : Int) ≤ (j2 : Int) := by omega
            have qb : (((bestK s.E x k : Nat) : Int) == (s.E.length : Int)) = false := by rw [beq_eq_false_iff_ne]; omega
            clear hcall hcall2 hjd hjd2 b4
            generalize s.E.getD (bestK s.E x k) 0 = y2 at *
            generalize s.E.getD k 0 = y at *
            generalize bestK s.E x k = bk at *
            go_wp2_with (first
              | (go_at_call 37; with_reducible refine (unhide HCa).mono ?_; rintro e wz ⟨rfl, hwz⟩; subst wz)
              | (go_at_call 37; with_reducible refine (unhide HCb).mono ?_; rintro e wz ⟨rfl, hwz⟩; subst wz))
            go_round
            case rel => exact ⟨k + 1, by omega, by rw [unhide HB], by go_num⟩
            case measure => simp [intOf]; omega
        · have kl : ¬ (k : Int) < (s.E.length : Int) := by omega
          obtain rfl : k = s.E.length := by omega
          have hba := bestK_all s.E x
          have hpl := plc_le s.E x
          have HN1 := hide (unhide HNx).1
          have HN2 := hide (unhide HNx).2
          rw [hba]
          clear hba
          generalize plc s.E x = p at *
          have by_ := (Below.refl wo.heap.size wo).alloc (Nat.le_refl _) (.cells #[.int .i64 p] 3)
          have HB2 := hide (onward (unhide HP).1 by_)
          have HO2 := hide (owns_later (unhide HP).2 by_)
          have HNw := hide (World.news_of_block (heap_alloc_new wo (.cells #[.int .i64 p] 3)))
          have hz2 := (unhide HB2).size
          have hz200 := (unhide HOk).1
          clear by_
          by_cases hpe : p < s.E.length
          · have qp : ((p : Int) == (s.E.length : Int)) = false := by rw [beq_eq_false_iff_ne]; omega
            have HE2 := hide (show (asgK due (i + 1)).E.length = s.E.length by rw [unhide HN2, if_pos hpe])
            clear hpe
            go_wp2_with (at_builtin; refine wpList_append_lies _ rfl _ _ 22 rfl w.heap.size 3 i0 (.int .i64 0) 1 8 Try.underlying22 (unhide HI0) (unhide HZ0) (unhide HZ1) (unhide HZ2) rfl (by decide) _ _ _ rfl (unhide HO2) ⟨wo.heap.size, 0, none⟩ 1 1 [.int .i64 p] rfl rfl (unhide HNw) (fun u hu => by rw [List.mem_singleton.1 hu]; rfl) (by decide) (by unfold maxLen; omega) (by omega) hz2 _ rfl ?_)
            intro q cap' w6 hown hgrow hat hlt6
            have HB6 := hide ((unhide HB2).grown hgrow (unhide HB2).size (fun j hj => by have := ((unhide HO2).lt j hj).1; omega))
            have HO6 := hide hown
            clear hown hgrow hat hlt6
            go_wp2
            go_roundw
            case rel => exact ⟨i + 1, some ⟨q, 0, none⟩, cap', by omega, rfl, by rw [unhide HE2], by go_num, hide ⟨unhide HB6, by rw [unhide HN1, nI_app, List.map_append]; exact unhide HO6⟩⟩
            case measure => simp [intOf]; omega
          · have qp : ((p : Int) == (s.E.length : Int)) = true := by rw [beq_iff_eq]; omega
            have HE2 := hide (show (asgK due (i + 1)).E.length = s.E.length + 1 by rw [unhide HN2, if_neg hpe])
            clear hpe
            go_wp2_with (at_builtin; refine wpList_append_lies _ rfl _ _ 22 rfl w.heap.size 3 i0 (.int .i64 0) 1 8 Try.underlying22 (unhide HI0) (unhide HZ0) (unhide HZ1) (unhide HZ2) rfl (by decide) _ _ _ rfl (unhide HO2) ⟨wo.heap.size, 0, none⟩ 1 1 [.int .i64 p] rfl rfl (unhide HNw) (fun u hu => by rw [List.mem_singleton.1 hu]; rfl) (by decide) (by unfold maxLen; omega) (by omega) hz2 _ rfl ?_)
            intro q cap' w6 hown hgrow hat hlt6
            have HB6 := hide ((unhide HB2).grown hgrow (unhide HB2).size (fun j hj => by have := ((unhide HO2).lt j hj).1; omega))
            have HO6 := hide hown
            clear hown hgrow hat hlt6
            go_wp2
            go_roundw
            case rel => exact ⟨i + 1, some ⟨q, 0, none⟩, cap', by omega, rfl, by rw [unhide HE2]; go_num, by go_num, hide ⟨unhide HB6, by rw [unhide HN1, nI_app, List.map_append]; exact unhide HO6⟩⟩
            case measure => simp [intOf]; omega
    · have il : ¬ (i : Int) < (due.length : Int) := by omega
      obtain rfl : i = due.length := by omega
      have HLn := hide (show (asgF due).length = due.length from asgF_len due)
      go_wp2
      go_ret2
      rw [unhide HE, unhide HVz, unhide HLn]
      exact ⟨A', c', rfl, by
        have h9 := (unhide HP).2
        unfold GivesN
        rw [unhide HLn]
        exact ⟨h9, (unhide HP).1⟩⟩
def cntR (due : List Int) : Nat := if valE due = 0 then cntF due else 0
def chnR (due : List Int) : List Nat := if valE due = 0 then chnF due else []
theorem cntR_max (due : List Int) : maxK (asgR due) (asgR due).length = cntR due := by
  unfold asgR cntR
  split
  · rw [asgF_len]; exact maxK_cnt due
  · rfl
theorem asgR_len (due : List Int) : (asgR due).length ≤ 200 := by
  unfold asgR
  split
  · rename_i h; rw [asgF_len]; exact (val_ok h).1
  · exact Nat.zero_le _
theorem cntR_le (due : List Int) : cntR due ≤ 200 := by
  unfold cntR
  split
  · rename_i h
    have := asg_low (due := due) (Nat.le_refl _)
    have := (val_ok h).1
    unfold cntF; omega
  · exact Nat.zero_le _
theorem asgR_low (due : List Int) {j : Nat} (hj : j < (asgR due).length) : (asgR due).getD j 0 < cntR due := by
  unfold asgR cntR at *
  split at hj
  · rename_i h; rw [if_pos h, if_pos h]; rw [asgF_len] at hj; exact asgF_low due hj
  · simp at hj
theorem GivesN.nums {w w' : World} {l : List Nat} {A : Option Addr} {c : Nat} (h : GivesN w l w' A c) {b : Nat} (hb : b < w.heap.size ∨ w'.heap.size ≤ b) : NumsIn b w' A (nI l) := nums_own (n := l.length) h.1 hb
set_option maxHeartbeats 1000000 in
theorem rcount_any (b : Nat) (due : List Int) (A : Option Addr) (c : Nat) (w : World) (h : NumsIn b w A due) :
    Calls Try.prog 15 #[.slice A due.length c] w fun e w' => e = .returned (.int .i64 (cntR due : Nat)) ∧ Below w.heap.size w w' := by
  have HC := hide (rassign_any b due A c w h)
  clear h
  go_enter Try.func15, Try.ntmps15
  go_wp2_with fail
  refine (unhide HC).mono ?_
  rintro e w2 ⟨A2, c2, rfl, hg⟩
  have HR := hide (hg.nums (b := w2.heap.size) (.inr (Nat.le_refl _)))
  have HB := hide hg.2
  have HM := hide (cntR_max due)
  have hl := asgR_len due
  have HLo := hide (fun j (hj : j < (asgR due).length) => asgR_low due hj)
  have HCl := hide (cntR_le due)
  clear hg
  generalize asgR due = L at *
  generalize valE due = er at *
  go_wp2_with fail
  go_loop [5, 6] (fun s5 s6 => ∃ k : Nat, k ≤ L.length ∧ s5 = .int .i64 (maxK L k : Nat) ∧ s6 = .int .i64 k) (fun _ s6 => L.length - (intOf s6).toNat)
  case atStart => exact ⟨0, Nat.zero_le _, rfl, rfl⟩
  case round =>
    obtain ⟨k, hk, rfl, rfl⟩ := hrel
    by_cases hlt : k < L.length
    · have kl : (k : Int) < (L.length : Int) := by omega
      have k0 : (0 : Int) ≤ (k : Int) := by omega
      obtain ⟨g, off, rfl, c0⟩ := num_cell (unhide HR) (i := k) (by rw [nI_len]; omega)
      rw [nI_at hlt] at c0
      have HS := hide (maxK_step hlt)
      have hy := (unhide HLo) k hlt
      have hcl := unhide HCl
      generalize L.getD k 0 = y at *
      generalize maxK L k = mk at *
      have hw : IntKind.i64.wrap ((y : Int) + 1) = ((y + 1 : Nat) : Int) := by rw [IntKind.wrap_i64]; omega
      by_cases hm : mk ≤ y + 1
      · have hm1 : (mk : Int) ≤ (y : Int) + 1 := by omega
        have HQ := hide (show maxK L (k + 1) = y + 1 by rw [unhide HS]; omega)
        go_wp2
        go_round
        case rel => exact ⟨k + 1, by omega, by rw [unhide HQ]; go_num, by go_num⟩
        case measure => simp [intOf]; omega
      · have hm1 : ¬ (mk : Int) ≤ (y : Int) + 1 := by omega
        have HQ := hide (show maxK L (k + 1) = mk by rw [unhide HS]; omega)
        go_wp2
        go_round
        case rel => exact ⟨k + 1, by omega, by rw [unhide HQ]; go_num, by go_num⟩
        case measure => simp [intOf]; omega
    · have kl : ¬ (k : Int) < (L.length : Int) := by omega
      obtain rfl : k = L.length := by omega
      go_wp2
      go_ret
      exact ⟨by rw [unhide HM]; rfl, unhide HB⟩
end Go.Proofs.Ytmmhchhekmcihaa
