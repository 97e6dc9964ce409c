/-
  Lanes (layer 17): LanesLeast: its walk.
-/
import Derived.Test.YtmmhchhekmcihaaLanP
import Derived.Test.YtmmhchhekmcihaaRowB
import Derived.Deep.CutRange
namespace Go.Proofs.Ytmmhchhekmcihaa
open Go.RowKit

theorem times_valD {T : List Int} (hl : T.length ≤ 29) (h : ∀ x ∈ T, 0 ≤ x ∧ x ≤ 11) : valE T = 0 := by
  unfold valE
  rw [if_neg (by omega), if_pos (fun x hx => by have := h x hx; omega)]
theorem one_lane {T : List Int} (hv : valE T = 0) (h1 : cntF T = 1) : chkE T (List.replicate T.length 0) = 0 := by
  refine chk_good hv (by simp) (fun x hx => by rw [List.eq_of_mem_replicate hx]; exact Int.le_refl _) (fun a b hab hb _ => ?_)
  rw [List.length_replicate] at hb
  have l1 := asgF_low T (j := a) (by omega)
  have l2 := asgF_low T (j := b) hb
  exact asgF_good T hab hb (by omega)
theorem chk_few {T a : List Int} {n : Nat} (hv : valE T = 0) (hn : cntF T = n) (h0 : 0 < n) (hl : a.length = T.length) (h : ∀ x ∈ a, 0 ≤ x ∧ x < (n : Int) - 1) : chkE T a = 9 := by
  have hg := fewer_bad hn hl h h0
  unfold chkE
  rw [if_neg (by simp [hv]), if_neg (by simp [hl]), if_neg (by rw [negb_iff.2 (fun x hx => (h x hx).1)]; simp), if_neg (fun h9 => hg (goodb_iff.1 h9))]
set_option maxHeartbeats 2000000 in
set_option maxRecDepth 100000 in
theorem least_any (P : LanOk) (A0 : Option Addr) (n0 c0 : Nat) (w : World) (hc : n0 ≤ c0) (hA : IntsIn w.heap.size w A0 n0) (A9 : Option Addr) (n9 c9 : Nat) (hc9 : n9 ≤ c9) (hA9 : IntsIn w.heap.size w A9 n9) :
    Calls Try.prog 5 #[.slice A0 n0 c0, .slice A9 n9 c9] w fun e w' => e = .returned (.bool true) ∧ Below w.heap.size w w' := by
  have HP := hide P
  have HT := hide (times_any A0 n0 c0 w hc hA)
  have HNew := hide (fun W (hb : Below w.heap.size w W) => new_any A9 n9 c9 W hc9 (fun h => by
    obtain ⟨g, off, h1, h2, h3⟩ := hA9 h
    have := hb.size
    refine ⟨g, off, h1, by omega, fun i hi => ?_⟩
    obtain ⟨x, hx⟩ := h3 i hi
    exact ⟨x, kept hb hx⟩))
  clear P hA hA9
  go_enter Try.func5, Try.ntmps5
  go_wp2_with fail
  refine (unhide HT).mono ?_
  rintro e w1 ⟨T, A1, c1, hl, hr, rfl, hown, hb1, hsz⟩
  have HCap := hide (own_cap hown)
  have HD1 := hide (nums_own (n := T.length) (b := w.heap.size) hown (.inl (Nat.lt_succ_self _)))
  have HSm := hide (show SmL T from ⟨by omega, small_wf (m := 11) (by omega) hr⟩)
  have hv := times_valD hl hr
  have HV := hide hv
  have HB1 := hide hb1
  have hcn : cntR T = cntF T := if_pos hv
  clear hown hb1 HT hr hv
  go_wp2_with fail
  refine ((unhide HP).count w.heap.size T A1 c1 w1 (unhide HSm) (unhide HCap) (unhide HD1)).mono ?_
  rw [hcn]
  rintro e w2 ⟨rfl, hb2⟩
  have HD2 := hide ((unhide HD1).keep hb2)
  have HB2 := hide (onward (unhide HB1) hb2)
  have HS2 := hide (show w.heap.size < w2.heap.size by have := hb2.size; omega)
  have HPos := hide (cntF_pos T)
  have HNl := hide (show cntF T ≤ T.length from asg_low (Nat.le_refl _))
  have HOne := hide (fun (h : cntF T = 1) => one_lane (unhide HV) h)
  have HFew := hide (fun (a : List Int) (h0 : 0 < cntF T) hl h => chk_few (a := a) (unhide HV) rfl h0 hl h)
  clear hb2 hcn HD1 HB1 hsz
  generalize cntF T = n at *
  by_cases hn : n = 0
  · subst hn
    have t0 : T.length = 0 := (unhide HPos).1 rfl
    have ht0 : ((T.length : Int) == 0) = true := by rw [beq_iff_eq]; omega
    clear t0
    go_wp2_with (go_at_call 9; refine (awake_lan (unhide HP) _).mono ?_; rintro e wz ⟨rfl, hbz⟩; have HBZ := hide (onward (unhide HB2) hbz); clear hbz)
    go_ret
    exact ⟨rfl, unhide HBZ⟩
  have n1 : ¬ (n : Int) < 1 := by omega
  have HT0 := hide (show 0 < T.length from by
    have h9 : ¬ T.length = 0 := fun h => hn ((unhide HPos).2 h)
    omega)
  have HN0 := hide hn
  go_wp2_with fail
  refine ((unhide HNew) w2 (unhide HB2)).mono ?_
  rintro e w3 ⟨rfl, hs3, hb3⟩
  have HD3 := hide ((unhide HD2).keep hb3)
  have HB3 := hide (onward (unhide HB2) hb3)
  have HS3 := hide hs3
  have HDk := hide (fun W (hb : Below w2.heap.size w2 W) => (unhide HD2).keep hb)
  have HBk := hide (fun W (hb : Below w2.heap.size w2 W) => onward (unhide HB2) hb)
  have HR3 := hide hb3
  obtain ⟨R, hR⟩ : ∃ R, w2.heap.size = R := ⟨_, rfl⟩
  have HRR := hide (show w.heap.size < R by have := unhide HS2; omega)
  have HRe := hide hR
  rw [hR] at HS3 HDk HBk HR3 ⊢
  clear hs3 hb3 HD2 HB2 HS2 HNew hR hn
  by_cases hn1 : n = 1
  · subst hn1
    have hmk := smake T.length (by omega)
    have t0 : (0 : Int) < (T.length : Int) := by have := unhide HT0; omega
    have b4 := (Below.refl w3.heap.size w3).alloc (Nat.le_refl _) (.cells (madeCells #[.int .i64 0] T.length) 3)
    have HCk := hide ((unhide HP).check w.heap.size T (List.replicate T.length 0) A1 (some ⟨w3.heap.size, 0, none⟩) c1 T.length _ (unhide HSm) ⟨by rw [List.length_replicate]; omega, small_wf (m := 0) (by omega) (fun x hx => by rw [List.eq_of_mem_replicate hx]; omega)⟩ (unhide HCap) (by rw [List.length_replicate]; exact Nat.le_refl _) ((unhide HD3).keep b4) ((RowB.zeros w3 T.length).nums (by have := (unhide HB3).size; have := (unhide HS3).lt; have := unhide HRR; omega)))
    rw [(unhide HOne) rfl, List.length_replicate] at HCk
    have HB4 := hide (onward (unhide HB3) b4)
    have HCk := hide (unhide HCk)
    clear b4
    go_wp2_with fail
    go_loop [9] (fun s9 => s9 = .int .i64 0) (fun _ => 0)
    case atStart => rfl
    case round =>
      obtain rfl := hrel
      go_wp2_with (first
        | (go_at_call 18; refine (unhide HCk).mono ?_; rintro e w5 ⟨rfl, hb5⟩; have HB5 := hide (onward (unhide HB4) hb5); clear hb5)
        | (go_at_call 9; refine (awake_lan (unhide HP) _).mono ?_; rintro e wz ⟨rfl, hbz⟩; have HBZ := hide (onward (unhide HB5) hbz); clear hbz))
      go_ret
      exact ⟨rfl, unhide HBZ⟩
  have q1 : ((n : Int) == 1) = false := by rw [beq_eq_false_iff_ne]; omega
  have hn2 : 2 ≤ n := by have := unhide HN0; omega
  have hnl : n ≤ 29 := by have := unhide HNl; omega
  have hwn : IntKind.i64.wrap ((n : Int) - 1) = (n : Int) - 1 := by rw [IntKind.wrap_i64]; omega
  have H0 := hide (show Src R R w3 ∧ Below R w2 w3 ∧ w3.ownsRow (R + 1) 3 1 (.slice none 0 0) 0 (([] : List Int).map (Value.int .i64)) ∧ ∀ x ∈ ([] : List Int), 0 ≤ x ∧ x < (n : Int) - 1 from
    ⟨unhide HS3, unhide HR3, World.ownsRow_nil _ _ _ _, fun x hx => by cases hx⟩)
  obtain ⟨i0, hi, hz0, hz1, hz2⟩ := info_parts linfo_int
  have HI0 := hide hi
  have HZ0 := hide hz0
  have HZ1 := hide hz1
  have HZ2 := hide hz2
  clear hi hz0 hz1 hz2 hn1
  go_wp2_with fail
  go_loopw [8, 9] (fun s8 s9 wr => ∃ (i : Nat) (a : List Int) (A : Option Addr) (c : Nat), i ≤ T.length ∧ a.length = i ∧ s8 = .slice A i c ∧ s9 = .int .i64 i ∧ Hid (Src R R wr ∧ Below R w2 wr ∧ wr.ownsRow (R + 1) 3 1 (.slice A i c) i (a.map (Value.int .i64)) ∧ ∀ x ∈ a, 0 ≤ x ∧ x < (n : Int) - 1)) (fun _ s9 _ => T.length - (intOf s9).toNat)
  case atStart => exact ⟨0, [], none, 0, Nat.zero_le _, rfl, rfl, rfl, H0⟩
  case round =>
    obtain ⟨i, a, A, c, hi, hal, rfl, rfl, HPr⟩ := hrel
    obtain ⟨wo, rfl⟩ : ∃ wo : World, wo = wr := ⟨_, rfl⟩
    have HAL := hide hal
    clear H0 hal
    by_cases hlt : i < T.length
    · have il : (i : Int) < (T.length : Int) := by omega
      go_wp2_with fail
      refine (n_any _ _ ((n : Int) - 1) _ (unhide HPr).1 (by omega) (by omega)).mono ?_
      rintro e wn ⟨x, rfl, x0, x1, hs, hg⟩
      have bx := (Below.refl wn.heap.size wn).alloc (Nat.le_refl _) (.cells #[.int .i64 x] 3)
      have hRR := unhide HRR
      have hbn := below_reads (unhide HPr).2.1 hg (Nat.le_refl _) (Nat.le_of_lt (unhide HPr).1.lt)
      have HS2 := hide (hs.keep bx)
      have HB2 := hide (show Below R w2 (wn.alloc (.cells #[.int .i64 x] 3)) from by rw [← unhide HRe] at hbn ⊢; exact onward hbn bx)
      have HO2 := hide (owns_later ((unhide HPr).2.2.1.kept hg (.inr (fun e => by have := ((unhide HPr).2.2.1.lt _ e).1; omega))) bx)
      have HNw := hide (World.news_of_block (heap_alloc_new wn (.cells #[.int .i64 x] 3)))
      have HSm2 := hide (show ∀ y ∈ a ++ [x], 0 ≤ y ∧ y < (n : Int) - 1 from fun y hy => by
        rcases List.mem_append.1 hy with hy | hy
        · exact (unhide HPr).2.2.2 y hy
        · rw [List.mem_singleton.1 hy]; omega)
      have hz2 : R + 1 ≤ (wn.alloc (.cells #[.int .i64 x] 3)).heap.size := by rw [World.size_alloc]; have := hs.lt; omega
      have hi29 : i ≤ 29 := by omega
      clear hs hg bx hbn HPr
      go_wp2_with (at_builtin; refine wpList_append_lies _ rfl _ _ 22 rfl (R + 1) 3 i0 (.int .i64 0) 1 8 Try.underlying22 (unhide HI0) (unhide HZ0) (unhide HZ1) (unhide HZ2) rfl (by decide) _ _ _ rfl (unhide HO2) ⟨wn.heap.size, 0, none⟩ 1 1 [.int .i64 x] rfl rfl (unhide HNw) (fun u hu => by rw [List.mem_singleton.1 hu]; rfl) (by decide) (by unfold maxLen; omega) (by omega) hz2 _ rfl ?_)
      intro q cap' w6 hown hgrow hat hlt6
      have hrw : ∀ j, (Value.slice A i c).ownBlock = some j → R + 1 ≤ j := fun j e => ((unhide HO2).lt j e).1
      have HS6 := hide ((unhide HS2).grown hgrow (fun j e => hrw j e))
      have HB6 := hide ((unhide HB2).grown hgrow (by omega) (fun j e => by have := hrw j e; omega))
      have HO6 := hide hown
      clear hown hgrow hat hlt6 hrw
      go_wp2
      go_roundw
      case rel => exact ⟨i + 1, a ++ [x], some ⟨q, 0, none⟩, cap', by omega, by rw [List.length_append, unhide HAL]; rfl, rfl, by go_num, hide ⟨unhide HS6, unhide HB6, by rw [List.map_append]; exact unhide HO6, unhide HSm2⟩⟩
      case measure => simp [intOf]; omega
    · have il : ¬ (i : Int) < (T.length : Int) := by omega
      obtain rfl : i = T.length := by omega
      have HCk := hide ((unhide HP).check w.heap.size T a A1 A c1 c wo (unhide HSm) ⟨by rw [unhide HAL]; omega, small_wf (m := 1000) (by omega) (fun x hx => by have := (unhide HPr).2.2.2 x hx; omega)⟩ (unhide HCap) (by rw [unhide HAL]; exact own_cap (unhide HPr).2.2.1) ((unhide HDk) wo (unhide HPr).2.1) (nums_own (n := T.length) (unhide HPr).2.2.1 (.inl (by have := unhide HRR; omega))))
      rw [(unhide HFew) a (by omega) (unhide HAL) (unhide HPr).2.2.2, unhide HAL] at HCk
      go_wp2_with (first
        | (go_at_call 18; refine (unhide HCk).mono ?_; rintro e w5 ⟨rfl, hb5⟩; have HB5 := hide (onward ((unhide HBk) wo (unhide HPr).2.1) hb5); clear hb5)
        | (go_at_call 9; refine (awake_lan (unhide HP) _).mono ?_; rintro e wz ⟨rfl, hbz⟩; have HBZ := hide (onward (unhide HB5) hbz); clear hbz))
      go_ret
      exact ⟨rfl, unhide HBZ⟩
end Go.Proofs.Ytmmhchhekmcihaa
