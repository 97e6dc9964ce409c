/-
  Crane (layer 18): the document's own Finish and Check.
-/
import Derived.Test.YtjgjgilpebeelaaCraH
import Derived.Deep.AppendLies
namespace Go.Proofs.Ytjgjgilpebeelaa
open Go.RowKit

/-- The first k finish times. -/
def finK (now : Int) (jobs : List Jb) (o : List Int) (k : Nat) : List Int := (List.range k).map fun i => endK now jobs o (i + 1)
theorem finK_len (now : Int) (jobs : List Jb) (o : List Int) (k : Nat) : (finK now jobs o k).length = k := by unfold finK; rw [List.length_map, List.length_range]
theorem finK_succ (now : Int) (jobs : List Jb) (o : List Int) (k : Nat) : finK now jobs o (k + 1) = finK now jobs o k ++ [endK now jobs o (k + 1)] := by unfold finK; rw [List.range_succ, List.map_append]; rfl
theorem finK_all (now : Int) (jobs : List Jb) (o : List Int) : finK now jobs o o.length = finJ now jobs o := rfl
theorem numsR_own {w w' : World} {B c n : Nat} {A : Option Addr} {l : List Int} (h : w'.ownsRow B 3 1 (.slice A n c) n (l.map (Value.int .i64))) (hB : w.heap.size ≤ B) (hb : Below w.heap.size w w') : NumsR w l A c w' := by
  have hl : l.length = n := by have := h.1; rw [List.length_map] at this; omega
  subst hl
  exact ⟨fun b hb2 => nums_own h (hb2.elim (fun h2 => .inl (Nat.lt_of_lt_of_le h2 hB)) .inr), hb, own_cap h⟩
set_option maxHeartbeats 2000000 in
set_option maxRecDepth 100000 in
theorem rfin_any (b : Nat) (now : Int) (jobs : List Jb) (o : List Int) (A A' : Option Addr) (c c' : Nat) (w : World) (hz : jobs.length ≤ 1000) (hzo : o.length ≤ 1000) (hco : o.length ≤ c') (h : JbsIn b w A jobs) (h' : NumsIn b w A' o) :
    Calls Try.prog 15 #[.int .i64 now, .slice A jobs.length c, .slice A' o.length c'] w (GivN w (finL now jobs o)) := by
  have HVa := hide (rvalid_any b now jobs A c w (by omega) h)
  have HB0 := hide (Below.refl w.heap.size w)
  by_cases hv : valJ now jobs = 0
  case neg =>
    have HP := hide (show finL now jobs o = [] from if_neg (fun h => hv h.1))
    obtain ⟨v, hvv⟩ : ∃ v, valJ now jobs = v := ⟨_, rfl⟩
    rw [hvv] at HVa hv
    have HVa := hide (unhide HVa)
    have q0 : (v != 0) = true := by rw [bne_iff_ne]; exact hv
    clear hvv hv h h'
    go_enter Try.func15, Try.ntmps15
    go_wp2_with (go_at_call 30; refine (unhide HVa).mono ?_; rintro e w1 ⟨rfl, rfl⟩)
    go_ret
    rw [unhide HP]
    exact ⟨none, 0, rfl, numsR_nil (unhide HB0)⟩
  have HV := hide hv
  rw [hv] at HVa
  have HVa := hide (unhide HVa)
  have HIO := hide (risOrd_any b jobs.length A c o A' c' w hzo hco h')
  by_cases hl : o.length = jobs.length
  case neg =>
    have q0 : ((o.length : Int) != (jobs.length : Int)) = true := by rw [bne_iff_ne]; omega
    have HP := hide (show finL now jobs o = [] from if_neg (fun h => hl (isOrd_ok h.2).1))
    clear hl hv h h'
    go_enter Try.func15, Try.ntmps15
    go_wp2_with (go_at_call 30; refine (unhide HVa).mono ?_; rintro e w1 ⟨rfl, rfl⟩)
    go_ret
    rw [unhide HP]
    exact ⟨none, 0, rfl, numsR_nil (unhide HB0)⟩
  have q0 : ((o.length : Int) != (jobs.length : Int)) = false := by rw [bne_eq_false_iff_eq]; omega
  cases hi : isOrd jobs.length o with
  | false =>
    have HP := hide (show finL now jobs o = [] from if_neg (fun h => by rw [hi] at h; cases h.2))
    rw [hi] at HIO
    have HIO := hide (unhide HIO)
    clear hi hl hv h h'
    go_enter Try.func15, Try.ntmps15
    go_wp2_with (first
      | (go_at_call 30; refine (unhide HVa).mono ?_; rintro e w1 ⟨rfl, rfl⟩)
      | (go_at_call 34; refine (unhide HIO).mono ?_; rintro e w2 ⟨rfl, hb2⟩; have HB2 := hide hb2; clear hb2))
    go_ret
    rw [unhide HP]
    exact ⟨none, 0, rfl, numsR_nil (unhide HB2)⟩
  | true =>
    have HP := hide (show finL now jobs o = finJ now jobs o from if_pos ⟨hv, hi⟩)
    have HVJ := hide (valJ_iff.1 hv)
    have HO := hide (isOrd_ok hi).2
    rw [hi] at HIO
    have HIO := hide (unhide HIO)
    have HJ := hide h
    have HN := hide h'
    have hz2 : o.length ≤ 200 := by have := (unhide HVJ).len; omega
    obtain ⟨i0, hi0, hz0, hz1, hz3⟩ := info_parts linfo_int
    have HI0 := hide hi0
    have HZ0 := hide hz0
    have HZ1 := hide hz1
    have HZ2 := hide hz3
    clear hi hl hv h h' hi0 hz0 hz1 hz3
    go_enter Try.func15, Try.ntmps15
    go_wp2_with (first
      | (go_at_call 30; refine (unhide HVa).mono ?_; rintro e w1 ⟨rfl, rfl⟩)
      | (go_at_call 34; refine (unhide HIO).mono ?_; rintro e w2 ⟨rfl, hb2⟩; have HB2 := hide hb2; clear hb2))
    have H0 := hide (show Below w.heap.size w w2 ∧ w2.ownsRow w.heap.size 3 1 (.slice none 0 0) 0 ((finK now jobs o 0).map (Value.int .i64)) from ⟨unhide HB2, World.ownsRow_nil _ _ _ _⟩)
    go_loopw [0, 7, 8] (fun s0 s7 s8 wr => ∃ (k : Nat) (T : Option Addr) (cT : Nat), k ≤ o.length ∧ s8 = .int .i64 k ∧ s0 = .int .i64 (endK now jobs o k) ∧ s7 = .slice T k cT ∧ Hid (Below w.heap.size w wr ∧ wr.ownsRow w.heap.size 3 1 (.slice T k cT) k ((finK now jobs o k).map (Value.int .i64)))) (fun _ _ s8 _ => o.length - (intOf s8).toNat)
    case atStart => exact ⟨0, none, 0, Nat.zero_le _, rfl, rfl, rfl, H0⟩
    case round =>
      clear H0
      obtain ⟨k, T, cT, hk, rfl, rfl, rfl, HI⟩ := hrel
      obtain ⟨wo, rfl⟩ : ∃ wo : World, wo = wr := ⟨_, rfl⟩
      by_cases hlt : k < o.length
      · have kl : (k : Int) < (o.length : Int) := by omega
        have k0 : (0 : Int) ≤ (k : Int) := by omega
        obtain ⟨g', off', rfl, _, hc⟩ := ((unhide HN).keep (unhide HI).1) (by omega)
        have c0 := hc k hlt
        have hx := (unhide HO) (o.getD k 0) (by rw [at_k hlt]; exact List.getElem_mem _)
        obtain ⟨j, hj⟩ := Int.eq_ofNat_of_zero_le hx.1
        have hE : endK now jobs o (k + 1) = endK now jobs o k + cstI (posJ jobs (j : Int)) := by rw [← hj]; rfl
        have hlo := endK_low (unhide HVJ) o k
        have hlo1 := endK_low (unhide HVJ) o (k + 1)
        rw [hj] at c0 hx
        have jn : (j : Int) < (jobs.length : Int) := hx.2
        have j0 : (0 : Int) ≤ (j : Int) := hx.1
        obtain ⟨g, off, rfl, c1, _⟩ := jbs_get ((unhide HJ).keep (unhide HI).1) (j := j) (by omega)
        have HC := hide (fun W => rcost_any (posJ jobs (j : Int)) W)
        have HFs := hide (finK_succ now jobs o k)
        generalize cstI (posJ jobs (j : Int)) = q at HC hE
        generalize posJ jobs (j : Int) = p at c1 HC
        have wq : IntKind.i64.wrap (endK now jobs o k + q) = endK now jobs o (k + 1) := by rw [IntKind.wrap_i64]; omega
        clear hc hx hE hlo hlo1 hj
        obtain ⟨E1, hE1⟩ : ∃ E1, endK now jobs o (k + 1) = E1 := ⟨_, rfl⟩
        rw [hE1] at wq HFs
        have HE1 := hide hE1
        have HFs := hide (unhide HFs)
        have bx := (Below.refl wo.heap.size wo).alloc (Nat.le_refl _) (.cells #[.int .i64 E1] 3)
        have HB3 := hide (onward (unhide HI).1 bx)
        have HO3 := hide (owns_later (unhide HI).2 bx)
        have HNw := hide (World.news_of_block (heap_alloc_new wo (.cells #[.int .i64 E1] 3)))
        have hzz : w.heap.size ≤ (wo.alloc (.cells #[.int .i64 E1] 3)).heap.size := by rw [World.size_alloc]; have := (unhide HI).1.size; omega
        clear hE1 bx
        go_wp2_with (first
          | (go_at_call 21; refine (unhide HC _).mono ?_; rintro e w' ⟨rfl, rfl⟩)
          | (at_builtin; refine wpList_append_lies _ rfl _ _ 23 rfl w.heap.size 3 i0 (.int .i64 0) 1 8 Try.underlying23 (unhide HI0) (unhide HZ0) (unhide HZ1) (unhide HZ2) rfl (by decide) _ _ _ rfl (unhide HO3) ⟨wo.heap.size, 0, none⟩ 1 1 [.int .i64 E1] rfl rfl (unhide HNw) (fun u hu => by rw [List.mem_singleton.1 hu]; rfl) (by decide) (by unfold maxLen; omega) (by omega) hzz _ rfl ?_))
        intro q' cap' w6 hown hgrow hat hlt6
        have HI6 := hide (show Below w.heap.size w w6 ∧ w6.ownsRow w.heap.size 3 1 (.slice (some ⟨q', 0, none⟩) (k + 1) cap') (k + 1) ((finK now jobs o (k + 1)).map (Value.int .i64)) from
          ⟨(unhide HB3).grown hgrow (unhide HB3).size (fun j e => ((unhide HO3).lt j e).1), by rw [unhide HFs, List.map_append]; exact hown⟩)
        clear hown hgrow hat hlt6 hzz
        go_wp2
        go_roundw
        case rel => exact ⟨k + 1, some ⟨q', 0, none⟩, cap', by omega, by go_num, by rw [unhide HE1], rfl, HI6⟩
        case measure => simp [intOf]; omega
      · obtain rfl : k = o.length := by omega
        have kl : ¬ (o.length : Int) < (o.length : Int) := by omega
        go_wp2
        go_ret
        rw [unhide HP]
        have hn := numsR_own (w := w) (unhide HI).2 (Nat.le_refl _) (unhide HI).1
        exact ⟨T, cT, by rw [finJ_len]; rfl, by rw [← finK_all]; exact hn⟩
theorem finL_ok {now : Int} {jobs : List Jb} {o : List Int} (hv : valJ now jobs = 0) (hi : isOrd jobs.length o = true) : finL now jobs o = finJ now jobs o := if_pos ⟨hv, hi⟩
theorem rfin_ok (b : Nat) (now : Int) (jobs : List Jb) (o : List Int) (A A' : Option Addr) (c c' : Nat) (w : World) (hv : valJ now jobs = 0) (hi : isOrd jobs.length o = true) (hz : jobs.length ≤ 1000) (hzo : o.length ≤ 1000) (hco : o.length ≤ c') (h : JbsIn b w A jobs) (h' : NumsIn b w A' o) :
    Calls Try.prog 15 #[.int .i64 now, .slice A jobs.length c, .slice A' o.length c'] w fun e w' => ∃ A3 c3, e = .returned (.slice A3 o.length c3) ∧ NumsR w (finJ now jobs o) A3 c3 w' := by
  have h9 := rfin_any b now jobs o A A' c c' w hz hzo hco h h'
  rw [finL_ok hv hi] at h9
  unfold GivN at h9
  rw [finJ_len] at h9
  exact h9
set_option maxHeartbeats 2000000 in
set_option maxRecDepth 100000 in
theorem rchk_any (b : Nat) (now : Int) (jobs : List Jb) (o : List Int) (A A' : Option Addr) (c c' : Nat) (w : World) (hz : jobs.length ≤ 1000) (hzo : o.length ≤ 1000) (hco : o.length ≤ c') (h : JbsIn b w A jobs) (h' : NumsIn b w A' o) :
    Calls Try.prog 19 #[.int .i64 now, .slice A jobs.length c, .slice A' o.length c'] w fun e w' => e = .returned (.int .i64 (chkE now jobs o)) ∧ Below w.heap.size w w' := by
  have HVa := hide (rvalid_any b now jobs A c w (by omega) h)
  have HB0 := hide (Below.refl w.heap.size w)
  by_cases hv : valJ now jobs = 0
  case neg =>
    have HP := hide (chk_bad (o := o) hv)
    obtain ⟨v, hvv⟩ : ∃ v, valJ now jobs = v := ⟨_, rfl⟩
    rw [hvv] at HVa hv HP
    have HVa := hide (unhide HVa)
    have HP := hide (unhide HP)
    have q0 : (v != 0) = true := by rw [bne_iff_ne]; exact hv
    clear hvv hv h h'
    go_enter Try.func19, Try.ntmps19
    go_wp2_with (go_at_call 30; refine (unhide HVa).mono ?_; rintro e w1 ⟨rfl, rfl⟩)
    go_ret
    exact ⟨ret_int (unhide HP).symm, unhide HB0⟩
  have HV := hide hv
  rw [hv] at HVa
  have HVa := hide (unhide HVa)
  have HIO := hide (risOrd_any b jobs.length A c o A' c' w hzo hco h')
  by_cases hl : o.length = jobs.length
  case neg =>
    have q0 : ((o.length : Int) != (jobs.length : Int)) = true := by rw [bne_iff_ne]; omega
    have HP := hide (chk_order (o := o) hv (by
      cases hi : isOrd jobs.length o with
      | false => rfl
      | true => exact absurd (isOrd_ok hi).1 hl))
    clear hl hv h h'
    go_enter Try.func19, Try.ntmps19
    go_wp2_with (go_at_call 30; refine (unhide HVa).mono ?_; rintro e w1 ⟨rfl, rfl⟩)
    go_ret
    exact ⟨ret_int (unhide HP).symm, unhide HB0⟩
  have q0 : ((o.length : Int) != (jobs.length : Int)) = false := by rw [bne_eq_false_iff_eq]; omega
  cases hi : isOrd jobs.length o with
  | false =>
    have HP := hide (chk_order hv hi)
    rw [hi] at HIO
    have HIO := hide (unhide HIO)
    clear hi hl hv h h'
    go_enter Try.func19, Try.ntmps19
    go_wp2_with (first
      | (go_at_call 30; refine (unhide HVa).mono ?_; rintro e w1 ⟨rfl, rfl⟩)
      | (go_at_call 34; refine (unhide HIO).mono ?_; rintro e w2 ⟨rfl, hb2⟩; have HB2 := hide hb2; clear hb2))
    go_ret
    exact ⟨ret_int (unhide HP).symm, unhide HB2⟩
  | true =>
    have HI := hide hi
    have HO := hide (isOrd_ok hi).2
    rw [hi] at HIO
    have HIO := hide (unhide HIO)
    have HJ := hide h
    have HN := hide h'
    have HFi := hide (fun W (hJ : JbsIn b W A jobs) (hN : NumsIn b W A' o) => rfin_ok b now jobs o A A' c c' W hv (unhide HI) hz hzo hco hJ hN)
    clear hi hl hv h h'
    go_enter Try.func19, Try.ntmps19
    go_wp2_with (first
      | (go_at_call 30; refine (unhide HVa).mono ?_; rintro e w1 ⟨rfl, rfl⟩)
      | (go_at_call 34; refine (unhide HIO).mono ?_; rintro e w2 ⟨rfl, hb2⟩; have HB2 := hide hb2; clear hb2)
      | (go_at_call 15; refine (unhide HFi _ ((unhide HJ).keep (unhide HB2)) ((unhide HN).keep (unhide HB2))).mono ?_; rintro e w3 ⟨A3, c3, rfl, hn3, hb3, _⟩; have HB3 := hide (onward (unhide HB2) hb3); have HN3 := hide (hn3 w3.heap.size (.inr (Nat.le_refl _))); clear hn3 hb3))
    have HFl := hide (finJ_len now jobs o)
    have H0 := hide (show Below w.heap.size w w3 ∧ Below w3.heap.size w3 w3 from ⟨unhide HB3, Below.refl _ _⟩)
    go_loopw [9] (fun s9 wr => ∃ k : Nat, k ≤ o.length ∧ s9 = .int .i64 k ∧ Hid (Below w.heap.size w wr ∧ Below w3.heap.size w3 wr) ∧ Hid (∀ j, j < k → latB now jobs o j = false)) (fun s9 _ => o.length - (intOf s9).toNat)
    case atStart => exact ⟨0, Nat.zero_le _, rfl, H0, hide fun j hj => absurd hj (Nat.not_lt_zero _)⟩
    case round =>
      clear H0
      obtain ⟨k, hk, rfl, HB, HP⟩ := hrel
      obtain ⟨wo, rfl⟩ : ∃ wo : World, wo = wr := ⟨_, rfl⟩
      by_cases hlt : k < o.length
      · have kl : (k : Int) < (o.length : Int) := by omega
        have k0 : (0 : Int) ≤ (k : Int) := by omega
        obtain ⟨g3, off3, rfl, _, hc3⟩ := ((unhide HN3).keep (unhide HB).2) (by rw [unhide HFl]; omega)
        have r0 := hc3 k (by rw [unhide HFl]; exact hlt)
        rw [finJ_at hlt] at r0
        obtain ⟨g', off', rfl, _, hc⟩ := ((unhide HN).keep (unhide HB).1) (by omega)
        have c0 := hc k hlt
        have hx := (unhide HO) (o.getD k 0) (by rw [at_k hlt]; exact List.getElem_mem _)
        obtain ⟨j, hj⟩ := Int.eq_ofNat_of_zero_le hx.1
        have hL : latB now jobs o k = decide (dueJ jobs (j : Int) < endK now jobs o (k + 1)) := by unfold latB; rw [hj]
        rw [hj] at c0 hx
        have jn : (j : Int) < (jobs.length : Int) := hx.2
        have j0 : (0 : Int) ≤ (j : Int) := hx.1
        obtain ⟨g, off, rfl, _, c1⟩ := jbs_get ((unhide HJ).keep (unhide HB).1) (j := j) (by omega)
        have HA := hide (show latB now jobs o k = true → chkE now jobs o = 12 from fun h9 => chk_late (unhide HV) (unhide HI) (by rw [latI_at hlt (unhide HP) h9]; omega))
        have HS := hide (show latB now jobs o k = false → ∀ j, j < k + 1 → latB now jobs o j = false from fun h9 j hj9 => by
          rcases Nat.lt_or_ge j k with c1 | c1
          · exact unhide HP j c1
          · obtain rfl : j = k := by omega
            exact h9)
        rw [hL] at HA HS
        generalize endK now jobs o (k + 1) = E1 at r0 HA HS
        generalize dueJ jobs (j : Int) = D at c1 HA HS
        replace r0 := After.cell r0
        replace c0 := After.cell c0
        replace c1 := After.cell c1
        clear hc hc3 hx hL hj
        by_cases hd : D < E1
        · have HV2 := hide (unhide HA (decide_eq_true hd))
          clear HA HS
          go_wp2_with fail
          refine wp_region_after (by kernel_rfl) (by kernel_rfl) ?_
          repeat (go_big_quiet_step (fail))
          refine wpQuiet_nil ?_
          rintro _ ⟨t, rfl⟩
          go_wp2
          go_ret
          exact ⟨ret_int (unhide HV2).symm, onward (unhide HB).1 t.is⟩
        · have HV2 := hide (unhide HS (decide_eq_false hd))
          clear HA HS
          go_wp2_with fail
          refine wp_region_after (by kernel_rfl) (by kernel_rfl) ?_
          repeat (go_big_quiet_step (fail))
          refine wpQuiet_nil ?_
          rintro _ ⟨t, rfl⟩
          have HB4 := hide (show Below w.heap.size w t.to ∧ Below w3.heap.size w3 t.to from ⟨onward (unhide HB).1 t.is, onward (unhide HB).2 t.is⟩)
          generalize t.to = w4 at HB4 ⊢
          clear r0 c0 c1 t
          go_wp2
          go_roundw
          case rel => exact ⟨k + 1, by omega, by go_num, HB4, HV2⟩
          case measure => simp [intOf]; omega
      · obtain rfl : k = o.length := by omega
        have kl : ¬ (o.length : Int) < (o.length : Int) := by omega
        have HV2 := hide (chk_ok (unhide HV) (unhide HI) (latI_end (unhide HP)))
        go_wp2
        go_ret
        exact ⟨ret_int (unhide HV2).symm, (unhide HB).1⟩
end Go.Proofs.Ytjgjgilpebeelaa
