/-
  Contract of the document's own check of one node.
-/
import Derived.Test.YtfddpdognelhmaaGreatDoorLayRa
import Derived.BigQuiet
namespace Go.Proofs.YtfddpdognelhmaaGreatDoor
open Go.RowKit

/-- An exit as the document checks it: in range, and its own index exactly at exit 0 of a Loop. -/
def exR (N i : Nat) (x : Nd) (e : Nat) : Bool := wIn (x.exits.getD e 0) 0 ((N : Int) - 1) && ((x.exits.getD e 0 == (i : Int)) == ownB x e)
theorem exR_no {N i : Nat} {x : Nd} {k : Nat} (hk : k < x.exits.length) (h : exR N i x k = false) : exOk N i x = false := by
  refine exOk_no hk ?_
  unfold exR at h
  unfold exOk1
  rw [show decide (x.exits.getD k 0 = (i : Int)) = (x.exits.getD k 0 == (i : Int)) from rfl]
  rw [Bool.and_eq_false_iff] at h ⊢
  rcases h with h | h
  · exact .inl h
  · rw [h]; exact .inr rfl
theorem exR_dup {N i : Nat} {x : Nd} (hl : x.exits.length = 2) (h : x.exits.getD 0 0 = x.exits.getD 1 0) : exOk N i x = false := by
  refine exOk_no (k := 1) (by omega) ?_
  match hx : x.exits, hl with
  | [a, b], _ =>
    rw [hx] at h
    have h' : a = b := h
    subst h'
    unfold exOk1
    rw [hx]
    simp
theorem exR_yes {N i : Nat} {x : Nd} (hl : x.exits.length = exN x.kind) (h : ∀ k, k < x.exits.length → exR N i x k = true) (hd : x.exits.length = 2 → x.exits.getD 0 0 ≠ x.exits.getD 1 0) : exOk N i x = true := by
  refine exOk_yes hl fun k hk => ?_
  have h1 := h k hk
  unfold exR at h1
  rw [Bool.and_eq_true] at h1
  unfold exOk1
  rw [h1.1, show decide (x.exits.getD k 0 = (i : Int)) = (x.exits.getD k 0 == (i : Int)) from rfl, h1.2, Bool.true_and, Bool.true_and]
  have hle := exN_le x.kind
  rcases (show k = 0 ∨ k = 1 by omega) with rfl | rfl
  · simp
  · have h2 : x.exits.length = 2 := by omega
    have h3 := hd h2
    match hx : x.exits, h2 with
    | [p, q], _ =>
      rw [hx] at h3
      have h3' : ¬ p = q := h3
      have : ¬ q = p := fun e => h3' e.symm
      simp [this]
theorem lenOk_bin {x : Nd} (h : 7 ≤ x.kind ∧ x.kind ≤ 9) : lenOk x = wIn x.len 0 0 := by
  unfold lenOk
  rw [if_pos (by omega), Bool.eq_iff_iff, wIn_iff, decide_eq_true_eq]
  omega
theorem lenOk_loop {x : Nd} (h : x.kind = 5) : lenOk x = wIn x.len 2 8 := by
  unfold lenOk
  rw [if_neg (by omega), if_pos h]
theorem lenOk_strip {x : Nd} (h : 1 ≤ x.kind ∧ x.kind ≤ 6) (h5 : x.kind ≠ 5) : lenOk x = wIn x.len 1 8 := by
  unfold lenOk
  rw [if_neg (by omega), if_neg h5]
/-- The three kinds of kinds: which numbers of windows they can have. -/
theorem kinds3 {x : Nd} (h : wIn x.kind 1 9 = true) : ∃ lo hi : Int, lenOk x = wIn x.len lo hi ∧ ((wIn x.kind 1 6 = true ∧ (x.kind == 5) = true ∧ lo = 2 ∧ hi = 8) ∨ (wIn x.kind 1 6 = true ∧ (x.kind == 5) = false ∧ lo = 1 ∧ hi = 8) ∨ (wIn x.kind 1 6 = false ∧ (x.kind == 5) = false ∧ lo = 0 ∧ hi = 0)) := by
  rw [wIn_iff] at h
  by_cases h5 : x.kind = 5
  · exact ⟨2, 8, lenOk_loop h5, .inl ⟨wIn_iff.2 (by omega), by rw [beq_iff_eq]; exact h5, rfl, rfl⟩⟩
  · by_cases h6 : x.kind ≤ 6
    · exact ⟨1, 8, lenOk_strip (by omega) h5, .inr (.inl ⟨wIn_iff.2 (by omega), by rw [beq_eq_false_iff_ne]; exact h5, rfl, rfl⟩)⟩
    · exact ⟨0, 0, lenOk_bin (by omega), .inr (.inr ⟨wIn_not.2 (by omega), by rw [beq_eq_false_iff_ne]; exact h5, rfl, rfl⟩)⟩

set_option maxHeartbeats 8000000 in
set_option maxRecDepth 100000 in
theorem rnode_any (b : Nat) (x : Lay) (i : Nat) (A D : Option Addr) (c d : Nat) (w : World) (h : LayIn b w x A D) (hi : i < x.nodes.length) :
    Calls Tryz.prog 37 #[lV x A c D d, .int .i64 (i : Int)] w fun e w' => e = .returned (.int .i64 (ndE x.nodes.length i (x.nodes.getD i nd0))) ∧ Below w.heap.size w w' := by
  have b1 := (Below.refl w.heap.size w).alloc (Nat.le_refl _) (lO x A c D d)
  have hex := h.few.at hi
  have hnn := h.nn
  obtain ⟨g, off, rfl, _, hc⟩ := (h.nds.keep b1) (by omega)
  obtain ⟨c0, c1, c2, c3, P, cp, c4, hld, hn⟩ := hc i hi
  have l0 : (w.alloc (lO x (some ⟨g, off, none⟩) c D d)).cell? ⟨w.heap.size, 0, none⟩ = some (.slice (some ⟨g, off, none⟩) x.nodes.length c) := by rw [Lib.cell_of_heap (heap_alloc_new w _)]; rfl
  have H3 := hide (@ndE_3 x.nodes.length i (x.nodes.getD i nd0))
  have H4 := hide (@ndE_4 x.nodes.length i (x.nodes.getD i nd0))
  have HX := hide (@ndE_x x.nodes.length i (x.nodes.getD i nd0))
  have HNo := hide fun k => @exR_no x.nodes.length i (x.nodes.getD i nd0) k
  have HDu := hide (@exR_dup x.nodes.length i (x.nodes.getD i nd0))
  have HYe := hide (@exR_yes x.nodes.length i (x.nodes.getD i nd0))
  have HLe := hide (@exOk_len x.nodes.length i (x.nodes.getD i nd0))
  have HRd := hide fun e => (show exR x.nodes.length i (x.nodes.getD i nd0) e = (wIn ((x.nodes.getD i nd0).exits.getD e 0) 0 ((x.nodes.length : Int) - 1) && (((x.nodes.getD i nd0).exits.getD e 0 == (i : Int)) == ownB (x.nodes.getD i nd0) e)) from rfl)
  have HK3 := hide (@kinds3 (x.nodes.getD i nd0))
  generalize hxo : exOk x.nodes.length i (x.nodes.getD i nd0) = xb at *
  clear hxo
  generalize hxr : exR x.nodes.length i (x.nodes.getD i nd0) = xr at *
  clear hxr
  generalize ndE x.nodes.length i (x.nodes.getD i nd0) = r at *
  generalize x.nodes.getD i nd0 = nd at *
  have il : (i : Int) < (x.nodes.length : Int) := by omega
  have i0 : (0 : Int) ≤ (i : Int) := by omega
  have b2 := b1.alloc (by rw [World.size_alloc]; omega) (ndO nd P cp)
  obtain ⟨W2, hW2⟩ : ∃ W2 : World, (w.alloc (lO x (some ⟨g, off, none⟩) c D d)).alloc (ndO nd P cp) = W2 := ⟨_, rfl⟩
  have HBx : W2.heap[w.heap.size + 1]? = some (ndO nd P cp) := by
    rw [← hW2]
    have := heap_alloc_new (w.alloc (lO x (some ⟨g, off, none⟩) c D d)) (ndO nd P cp)
    rwa [World.size_alloc] at this
  have k0 : W2.cell? ⟨w.heap.size, 0, none⟩ = some (.slice (some ⟨g, off, none⟩) x.nodes.length c) := by rw [← hW2]; exact kept (below_new (Below.refl _ _) _) l0
  obtain ⟨d0, d1, d2, d3, d4⟩ := nd_cells HBx
  have HN := hide (show NumsIn b W2 P nd.exits by rw [← hW2]; exact hn.keep (below_new (Below.refl _ _) _))
  rw [hW2] at b2
  have B2 := hide b2
  have HLd := hide hld
  clear hc hn b1 b2 h hld HBx
  cases hnm : nameB nd.name with
  | false =>
    have HR := hide (unhide H3 hnm)
    go_enter Tryz.func37, Tryz.ntmps37
    go_wp2_with (first | (go_at_call 61; refine (rname_any _ _).mono ?_; rw [hnm]; rintro e w1 ⟨rfl, rfl⟩))
    go_ret
    exact ⟨ret_int (unhide HR).symm, unhide B2⟩
  | true =>
    cases hkd : wIn nd.kind 1 9 with
    | false =>
      have HR := hide (unhide H4 hnm hkd)
      go_enter Tryz.func37, Tryz.ntmps37
      go_wp2_with (first
        | (go_at_call 61; refine (rname_any _ _).mono ?_; rw [hnm]; rintro e w1 ⟨rfl, rfl⟩)
        | (go_at_call 41; refine (rin_any _ _ _ _).mono ?_; rw [hkd]; rintro e w1 ⟨rfl, rfl⟩))
      go_ret
      exact ⟨ret_int (unhide HR).symm, unhide B2⟩
    | true =>
      obtain ⟨lo, hi', hlk, hcase⟩ := unhide HK3 hkd
      have HLk := hide hlk
      clear hlk
      cases hle : wIn nd.len lo hi' <;> cases hzo : wIn nd.zone 0 1 <;> cases hln : ((nd.exits.length : Int) != (exN nd.kind : Int))
      all_goals
        have HIa := hide fun W => rin_any nd.len lo hi' W
        have HIb := hide fun W => rin_any nd.zone 0 1 W
        rw [hle] at HIa
        rw [hzo] at HIb
        have HEx := hide fun W => rexits_any nd.kind W
        rcases hcase with ⟨hs6, hk5, rfl, rfl⟩ | ⟨hs6, hk5, rfl, rfl⟩ | ⟨hs6, hk5, rfl, rfl⟩
      all_goals
        go_enter Tryz.func37, Tryz.ntmps37
        go_wp2_with (first
          | (go_at_call 61; refine (rname_any _ _).mono ?_; rw [hnm]; rintro e w1 ⟨rfl, rfl⟩)
          | (go_at_call 41; refine (rin_any _ _ _ _).mono ?_; rw [hkd]; rintro e w1 ⟨rfl, rfl⟩)
          | (go_at_call 31; refine (rstrip_any _ _).mono ?_; rw [hs6]; rintro e w1 ⟨rfl, rfl⟩))
        go_quiet (first
          | (go_at_call 41; first | (with_reducible exact Calls.quiet_of_same ((unhide HIa _).mono fun e w' h => ⟨h.1, h.2.symm⟩)) | (with_reducible exact Calls.quiet_of_same ((unhide HIb _).mono fun e w' h => ⟨h.1, h.2.symm⟩)))
          | (go_at_call 62; exact Calls.quiet_of_same ((unhide HEx _).mono fun e w' h => ⟨h.1, h.2.symm⟩)))
        first
          | (go_wp2
             go_ret
             exact ⟨ret_int (by rw [unhide HX hnm hkd ((unhide HLk).trans hle) hzo rfl]; first | rfl | (cases xb <;> rfl) | (rw [unhide HLe (fun e => by rw [e] at hln; simp at hln)]; rfl)), draws (unhide B2) _⟩)
          | skip
      all_goals
        have hL2 : nd.exits.length = exN nd.kind := by
          rw [bne_eq_false_iff_eq] at hln
          omega
        have HL2 := hide hL2
        have HHle := hide hle
        have hsub : IntKind.i64.wrap ((x.nodes.length : Int) - 1) = (x.nodes.length : Int) - 1 := IntWalk.i64_in _ (by omega)
        clear hL2 hln HIa HIb HEx HLe hs6 hle
        go_wp2
        go_loopw [8] (fun iv wr => ∃ k : Nat, k ≤ nd.exits.length ∧ iv = .int .i64 k ∧ Hid (∀ j, j < k → xr j = true) ∧ Hid (Below W2.heap.size W2 wr)) (fun iv _ => nd.exits.length - (intOf iv).toNat)
        case atStart => exact ⟨0, Nat.zero_le _, rfl, Lib.hid fun j hj => absurd hj (Nat.not_lt_zero _), Lib.hid (draws (Below.refl _ _) _)⟩
        case round =>
          obtain ⟨k, hk, rfl, hal, hb⟩ := hrel
          obtain ⟨wo, rfl⟩ : ∃ wo : World, wo = wr := ⟨_, rfl⟩
          have f0 := kept hb.out k0
          have f1 := kept hb.out d1
          have f4 := kept hb.out d4
          have BO := hide (onward (unhide B2) hb.out)
          by_cases hlt : k < nd.exits.length
          · obtain ⟨g', off', rfl, _, hc'⟩ := ((unhide HN).keep hb.out) (by omega)
            have e0 := hc' k hlt
            clear hc'
            have kl : (k : Int) < (nd.exits.length : Int) := by omega
            have kz : (0 : Int) ≤ (k : Int) := by omega
            have HR1 := hide (unhide HRd k)
            have HP := hide fun h => upto_step (p := fun j => xr j = true) (k := k) hal.out h
            have HQ := hide fun h => unhide HNo k hlt h
            have HBo := hide hb.out
            generalize nd.exits.getD k 0 = y at *
            generalize xr k = rk at *
            clear hal hb
            rcases own3 nd k with ⟨h5, hob⟩ | ⟨h5, hk0, hob⟩ | ⟨h5, hk0, hob⟩
            all_goals (try (rw [hk5] at h5; exact Bool.noConfusion h5))
            all_goals
              rw [hob] at HR1
              clear hob h5
              cases hwn : wIn y 0 ((x.nodes.length : Int) - 1) <;> cases hy : (y == (i : Int))
            all_goals
              rw [hwn, hy] at HR1
              have HRR := hide (unhide HR1)
              clear HR1
              have HIa := hide fun W => rin_any y 0 ((x.nodes.length : Int) - 1) W
              rw [hwn] at HIa
              go_wp2
              go_quiet (first
                | (go_at_call 41; with_reducible exact Calls.quiet_of_same ((unhide HIa _).mono fun e w' h => ⟨h.1, h.2.symm⟩)))
              go_wp2
              first
                | (go_ret; exact ⟨ret_int (by rw [unhide HX hnm hkd ((unhide HLk).trans (unhide HHle)) hzo (unhide HQ (by rw [unhide HRR]; rfl))]; rfl), draws (unhide BO) _⟩)
                | (go_roundw
                   case rel => exact ⟨k + 1, by omega, by go_num, Lib.hid (unhide HP (by rw [unhide HRR]; rfl)), Lib.hid (draws (unhide HBo) _)⟩
                   case measure => simp [intOf]; omega)
          · obtain rfl : k = nd.exits.length := by omega
            have kl : ¬ ((nd.exits.length : Int) < (nd.exits.length : Int)) := by omega
            have HAl := hide hal.out
            have HBo := hide hb.out
            clear hal
            by_cases h2 : nd.exits.length = 2
            · obtain ⟨g', off', rfl, _, hc'⟩ := ((unhide HN).keep hb.out) (by omega)
              have e0 := hc' 0 (by omega)
              have e1 := hc' 1 (by omega)
              have l2 : ((nd.exits.length : Int) == 2) = true := by rw [beq_iff_eq]; omega
              have n0 : (0 : Int) < (nd.exits.length : Int) := by omega
              have n1 : (1 : Int) < (nd.exits.length : Int) := by omega
              have HD := hide (unhide HDu h2)
              have HY := hide fun h => unhide HYe (unhide HL2) (unhide HAl) fun _ => h
              simp only [Nat.add_zero] at e0
              clear hc' hb h2 HNo HDu HYe HRd
              generalize nd.exits.getD 0 0 = y0 at *
              generalize nd.exits.getD 1 0 = y1 at *
              cases hyy : (y0 == y1) with
              | true =>
                have HE := hide (show y0 = y1 from eq_of_beq hyy)
                go_wp2_with fail
                go_quiet (fail)
                go_wp2
                go_ret
                exact ⟨ret_int (by rw [unhide HX hnm hkd ((unhide HLk).trans (unhide HHle)) hzo (unhide HD (unhide HE))]; rfl), draws (unhide BO) _⟩
              | false =>
                have HE := hide (show y0 ≠ y1 from by rw [beq_eq_false_iff_ne] at hyy; exact hyy)
                go_wp2_with fail
                go_quiet (fail)
                go_wp2
                go_ret
                exact ⟨ret_int (by rw [unhide HX hnm hkd ((unhide HLk).trans (unhide HHle)) hzo (unhide HY (unhide HE))]; rfl), draws (unhide BO) _⟩
            · have l2 : ((nd.exits.length : Int) == 2) = false := by rw [beq_eq_false_iff_ne]; omega
              have HY := hide (unhide HYe (unhide HL2) (unhide HAl) fun h => absurd h h2)
              clear h2 hb
              go_wp2_with fail
              go_quiet (fail)
              go_wp2
              go_ret
              exact ⟨ret_int (by rw [unhide HX hnm hkd ((unhide HLk).trans (unhide HHle)) hzo (unhide HY)]; rfl), draws (unhide BO) _⟩
end Go.Proofs.YtfddpdognelhmaaGreatDoor
