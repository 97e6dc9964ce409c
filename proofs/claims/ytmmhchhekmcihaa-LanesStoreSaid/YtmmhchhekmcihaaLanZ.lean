/-
  Lanes (layer 17): the program's Chain, Count and Check; what the laws want of the program's assignments holds.
-/
import Derived.Test.YtmmhchhekmcihaaLanY
import Derived.Maps.OwnOps
import Derived.Maps.Views
namespace Go.Proofs.Ytmmhchhekmcihaa
open Go.RowKit

/-- The chain under way: bag bg is the next one to be noted, cl are those noted, the last one first. -/
def ChW (due : List Int) (bg : Int) (cl : List Nat) : Prop :=
  (bg = -1 ∧ cl.reverse = chnF due) ∨ ∃ q i : Nat, bg = i ∧ i < due.length ∧ (asgF due).getD i 0 = q ∧ preC (asgF due) i q ++ [i] ++ cl.reverse = chnF due
theorem ChW.start (due : List Int) : ChW due (opF due) [] := by
  unfold ChW opF chnF
  by_cases h : cntF due = 0
  · rw [if_pos h, if_pos h]; exact .inl ⟨rfl, rfl⟩
  · obtain ⟨f1, f2, _⟩ := firstI_spec (L := asgF due) (lane := cntF due - 1) (by rw [asgF_len]; exact asgF_has due (by omega))
    rw [asgF_len] at f1
    rw [if_neg h, if_neg h]
    exact .inr ⟨_, _, rfl, f1, f2, by rw [List.reverse_nil, List.append_nil]⟩
theorem ChW.step {due : List Int} {i : Nat} {cl : List Nat} (h : ChW due i cl) : i < due.length ∧ ChW due (plF due i).2 (cl ++ [i]) ∧ (plF due i).2 < i ∧ -1 ≤ (plF due i).2 := by
  rcases h with ⟨h, _⟩ | ⟨q, j, h1, h2, h3, h4⟩
  · omega
  · obtain rfl : i = j := by omega
    refine ⟨h2, ?_⟩
    show ChW due (befF due i) _ ∧ befF due i < i ∧ -1 ≤ befF due i
    unfold befF
    cases q with
    | zero =>
      rw [h3, if_pos rfl]
      refine ⟨.inl ⟨rfl, ?_⟩, by omega, by omega⟩
      rw [← h4, List.reverse_append]; rfl
    | succ q =>
      obtain ⟨b1, b2, _⟩ := asgF_back due h2 h3
      rw [h3, if_neg (Nat.succ_ne_zero q), Nat.add_sub_cancel]
      refine ⟨.inr ⟨q, _, rfl, by omega, b2, ?_⟩, by omega, by omega⟩
      rw [← h4, List.reverse_append]
      show _ = preC (asgF due) (lastI (asgF due) q i) q ++ [lastI (asgF due) q i] ++ [i] ++ cl.reverse
      rw [List.append_assoc, List.append_assoc, List.append_assoc]; rfl
theorem nI_rev (l : List Nat) : (nI l).reverse = nI l.reverse := (List.map_reverse (f := Int.ofNat) (l := l)).symm
structure ChS (due : List Int) (w wr : World) (A : Option Addr) (c : Nat) (cl : List Nat) : Prop where
  own : wr.ownsRow (w.heap.size + 1) 3 1 (.slice A cl.length c) cl.length ((nI cl).map (Value.int .i64))
  pl : PlI wr w.heap.size due.length due.length (plF due)
  blw : Below w.heap.size w wr
  lt : w.heap.size < wr.heap.size
set_option maxHeartbeats 2000000 in
set_option maxRecDepth 100000 in
theorem pChain_any (b : Nat) (due : List Int) (A : Option Addr) (c : Nat) (w : World) (hz : due.length ≤ 1000) (h : NumsIn b w A due) :
    Calls Try.prog 16 #[.slice A due.length c] w fun e w' => ∃ A' c', e = .returned (.slice A' (chnR due).length c') ∧ GivesR w (chnR due) w' A' c' := by
  have HV := hide (val_any b due A c w (by omega) h)
  by_cases hv : valE due = 0
  · obtain ⟨v1, v2⟩ := valE_ok hv
    have HAs := hide (assign_any b due A c w v1 v2 h)
    have hr : chnR due = chnF due := if_pos hv
    have HS := hide (ChW.start due)
    obtain ⟨i0, hi, hz0, hz1, hz2⟩ := info_parts linfo_int
    have HI0 := hide hi
    have HZ0 := hide hz0
    have HZ1 := hide hz1
    have HZ2 := hide hz2
    rw [hr]
    rw [hv] at HV
    have HV := hide (unhide HV)
    have HOp := hide (show -1 ≤ opF due ∧ opF due < due.length from by
      rcases unhide HS with ⟨h1, _⟩ | ⟨q, i, h1, h2, _⟩ <;> omega)
    clear hv hr v2 h hz hi hz0 hz1 hz2
    go_enter Try.func16, Try.ntmps16
    go_wp2_with (first
      | (go_at_call 34; refine (unhide HV).mono ?_; rintro e w' ⟨rfl, rfl⟩)
      | (go_at_call 35; refine (unhide HAs).mono ?_; rintro e w1 ⟨rfl, hp1, hb1, hz1⟩; have HH := hide (show ChS due w w1 none 0 [] from ⟨World.ownsRow_nil _ _ _ _, hp1, hb1, hz1⟩); clear hp1 hb1 hz1))
    go_loopw [3, 6] (fun s3 s6 wr => ∃ (cl : List Nat) (B : Option Addr) (cB : Nat) (bg : Int), s3 = .slice B cl.length cB ∧ s6 = .int .i64 bg ∧ Hid (ChS due w wr B cB cl ∧ ChW due bg cl ∧ -1 ≤ bg ∧ (cl.length : Int) + bg < due.length)) (fun _ s6 _ => (intOf s6 + 1).toNat)
    case atStart => exact ⟨[], none, 0, opF due, rfl, rfl, hide ⟨unhide HH, unhide HS, (unhide HOp).1, by have := (unhide HOp).2; simpa using this⟩⟩
    case round =>
      obtain ⟨cl, B, cB, bg, rfl, rfl, HI⟩ := hrel
      obtain ⟨wo, rfl⟩ : ∃ wo : World, wo = wr := ⟨_, rfl⟩
      clear HH
      by_cases hbg : bg = -1
      · have q0 : (bg != -1) = false := by rw [bne_eq_false_iff_eq]; exact hbg
        have HE := hide (show cl.reverse = chnF due from by
          rcases (unhide HI).2.1 with ⟨_, h⟩ | ⟨q, i, h, _⟩
          · exact h
          · omega)
        clear hbg
        have hcl : cl.length ≤ 201 := by have := (unhide HI).2.2; omega
        rcases Nat.eq_zero_or_pos cl.length with h0 | h0
        · obtain rfl : cl = [] := List.eq_nil_of_length_eq_zero h0
          have HRv := hide (Try.slices_Reverse_int_empty B cB wo)
          have HE2 := hide (show chnF due = [] from (unhide HE).symm)
          clear h0
          go_wp2_with (go_at_call 38; refine (unhide HRv).mono ?_; rintro e w2 ⟨rfl, hw⟩; subst hw)
          go_ret
          rw [unhide HE2]
          exact ⟨_, _, rfl, fun _ _ => NumsIn.nil _ _ _, (unhide HI).1.blw, Nat.zero_le _⟩
        · obtain ⟨g, rfl⟩ := own_some (unhide HI).1.own h0
          have hn := nums_own (unhide HI).1.own (b := w.heap.size) (.inl (Nat.lt_succ_self _)) (by rw [nI_len]; exact h0)
          obtain ⟨g', off, hA, _, hc⟩ := hn
          injection hA with hA
          injection hA with hA hB _
          subst hA; subst hB
          have hown := (unhide HI).1.own
          have hth := own_there hown
          rw [List.length_map, nI_len] at hth
          have hgl : w.heap.size + 1 ≤ g ∧ g < wo.heap.size := hown.lt g rfl
          have HRv := hide (Try.slices_Reverse_int_cells g 0 cl.length cB (nI cl) wo (by rw [nI_len]; exact Nat.le_refl _) (by omega) hc (fun j hj => by rw [Nat.zero_add]; exact (hth j hj).2))
          have HF := hide (fun (n : Nat) => show ((wo.drewN n).setCells g 0 (((nI cl).take cl.length).reverse.map (Value.int .i64))).ownsRow (w.heap.size + 1) 3 1 (.slice (some ⟨g, 0, none⟩) cl.length cB) cl.length ((nI (chnF due)).map (Value.int .i64)) from by
            have h1 := own_setCells (((nI cl).take cl.length).reverse.map (Value.int .i64)) 0 (wo.drewN n) _ (owns_later hown (draws (Below.refl _ _) n)) (by rw [List.length_map, List.length_reverse, List.length_take, List.length_map, nI_len]; omega)
            rw [List.take_zero, List.nil_append, List.drop_eq_nil_of_le (by simp [nI_len]), List.append_nil] at h1
            rw [← unhide HE, ← nI_rev]
            rw [List.take_of_length_le (by rw [nI_len]; exact Nat.le_refl _)] at h1 ⊢
            exact h1)
          have HG := hide (fun (n : Nat) => grown_setCells (((nI cl).take cl.length).reverse.map (Value.int .i64)) 0 (wo.drewN n) wo (g := g) ⟨rfl, rfl, rfl, Nat.le_refl _, fun _ _ _ => rfl⟩)
          clear hown hth hc h0
          go_wp2_with (go_at_call 38; refine (unhide HRv).mono ?_; rintro e w2 ⟨rfl, n, hw⟩; have HW := hide hw; clear hw)
          go_ret
          have ho : w2.ownsRow (w.heap.size + 1) 3 1 (.slice (some ⟨g, 0, none⟩) cl.length cB) cl.length ((nI (chnF due)).map (Value.int .i64)) := by rw [unhide HW]; exact unhide HF n
          have hg : wo.grownBy w2 (some g) := by rw [unhide HW]; exact unhide HG n
          have hlen : (chnF due).length = cl.length := by rw [← unhide HE, List.length_reverse]
          refine ⟨_, _, by rw [hlen]; rfl, fun b' hb' => nums_own ho (by omega), (unhide HI).1.blw.grown hg (Nat.le_of_lt (unhide HI).1.lt) (fun k e => by injection e with e; omega), by rw [hlen]; exact own_cap ho⟩
      · have q0 : (bg != -1) = true := by rw [bne_iff_ne]; exact hbg
        obtain ⟨i, rfl⟩ : ∃ i : Nat, bg = i := ⟨bg.toNat, by have := (unhide HI).2.2.1; omega⟩
        obtain ⟨s1, s2, s3, s4⟩ := (unhide HI).2.1.step
        have HS2 := hide s2
        have hcl : (cl.length : Int) + i < due.length := (unhide HI).2.2.2
        have il : (i : Int) < (due.length : Int) := by omega
        have i0' : (0 : Int) ≤ (i : Int) := by omega
        obtain ⟨cur, p1, p2, p3⟩ := (unhide HI).1.pl
        have c1 := (p3 i s1).2
        clear p3 p2 s2 hbg
        have b2 := below_new (Below.refl wo.heap.size wo) (.cells #[.int .i64 i] 3)
        have HNw := hide (World.news_of_block (heap_alloc_new wo (.cells #[.int .i64 i] 3)))
        have HO3 := hide (owns_later (unhide HI).1.own b2)
        have HP3 := hide ((unhide HI).1.pl.keep b2)
        have HB3 := hide (onward (unhide HI).1.blw b2)
        have hz3 : w.heap.size + 1 ≤ (wo.alloc (.cells #[.int .i64 i] 3)).heap.size := by rw [World.size_alloc]; have := (unhide HI).1.lt; omega
        have hl200 : cl.length ≤ 200 := by omega
        clear b2 p1
        go_wp2_with (at_builtin; refine wpList_append_lies _ rfl _ _ 22 rfl (w.heap.size + 1) 3 i0 (.int .i64 0) 1 8 Try.underlying22 (unhide HI0) (unhide HZ0) (unhide HZ1) (unhide HZ2) rfl (by decide) _ _ _ rfl (unhide HO3) ⟨wo.heap.size, 0, none⟩ 1 1 [.int .i64 i] rfl rfl (unhide HNw) (fun u hu => by rw [List.mem_singleton.1 hu]; rfl) (by decide) (by unfold maxLen; omega) (by omega) hz3 _ rfl ?_)
        intro q cq w6 hown hgrow hat hlt6
        have hr : ∀ j, (Value.slice B cl.length cB).ownBlock = some j → w.heap.size + 1 ≤ j := fun j e => ((unhide HO3).lt j e).1
        have hp6 := (unhide HP3).other hgrow (fun e => by have := hr _ e.symm; omega)
        obtain ⟨cur6, p1, p2, p3⟩ := hp6
        have c6 := (p3 i s1).2
        have c7 : w6.cell? ⟨w.heap.size, i * 2 + 1, none⟩ = some (.int .i64 (plF due i).2) := by rw [Lib.cell_of_heap p1]; exact c6
        have HH6 := hide (show ChS due w w6 (some ⟨q, 0, none⟩) cq (cl ++ [i]) from ⟨by rw [List.length_append, nI_app, List.map_append]; exact hown, (unhide HP3).other hgrow (fun e => by have := hr _ e.symm; omega), (unhide HB3).grown hgrow (unhide HB3).size (fun j e => by have := hr j e; omega), Nat.lt_of_lt_of_le (by omega) hgrow.size⟩)
        clear hown hgrow hat hlt6 hr hz3 p1 p2 p3 c6 c1
        have HS4 := hide s4
        have HS3 := hide s3
        clear s3 s4
        generalize (plF due i).2 = bf at c7 HS2 HS3 HS4
        go_wp2
        go_roundw
        case rel => exact ⟨cl ++ [i], _, _, bf, by rw [List.length_append]; rfl, rfl, hide ⟨unhide HH6, unhide HS2, unhide HS4, by have := unhide HS3; rw [List.length_append]; simp; omega⟩⟩
        case measure => have := unhide HS3; have := unhide HS4; simp [intOf]; omega
  · have hr : chnR due = [] := if_neg hv
    have q : (valE due != 0) = true := by rw [bne_iff_ne]; exact hv
    rw [hr]
    generalize valE due = v at *
    have HV := hide (unhide HV)
    clear hv hr h hz
    go_enter Try.func16, Try.ntmps16
    go_wp2_with (go_at_call 34; refine (unhide HV).mono ?_; rintro e w' ⟨rfl, rfl⟩)
    go_ret
    exact ⟨none, 0, rfl, fun _ _ => NumsIn.nil _ _ _, Below.refl _ _, Nat.le_refl _⟩
theorem chnR_len (due : List Int) : (chnR due).length = cntR due := by
  unfold chnR cntR
  split
  · exact chnF_len due
  · rfl
theorem pCount_any (b : Nat) (due : List Int) (A : Option Addr) (c : Nat) (w : World) (hz : due.length ≤ 1000) (h : NumsIn b w A due) :
    Calls Try.prog 14 #[.slice A due.length c] w fun e w' => e = .returned (.int .i64 (cntR due : Nat)) ∧ Below w.heap.size w w' := by
  have HC := hide (pChain_any b due A c w hz h)
  have HL := hide (chnR_len due)
  clear h hz
  go_enter Try.func14, Try.ntmps14
  go_wp2_with (go_at_call 16; refine (unhide HC).mono ?_; rintro e w1 ⟨A1, c1, rfl, _, hb1, _⟩; have HB1 := hide hb1; clear hb1)
  go_ret
  exact ⟨by rw [← unhide HL]; rfl, unhide HB1⟩
end Go.Proofs.Ytmmhchhekmcihaa
