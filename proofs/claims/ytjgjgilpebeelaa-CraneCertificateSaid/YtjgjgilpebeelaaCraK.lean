/-
  Crane (layer 18): CraneCertificate: its mathematics and its walk.
-/
import Derived.Test.YtjgjgilpebeelaaCraG
import Derived.Test.YtjgjgilpebeelaaCraI
namespace Go.Proofs.Ytjgjgilpebeelaa
open Go.RowKit

theorem endK_take {now : Int} {jobs : List Jb} {o : List Int} {m : Nat} (hm : m ≤ o.length) : ∀ i : Nat, i ≤ m → endK now jobs (o.take m) i = endK now jobs o i
  | 0, _ => rfl
  | i + 1, h => by
    unfold endK
    rw [endK_take hm i (by omega), at_k (l := o.take m) (by rw [List.length_take]; omega), List.getElem_take, ← at_k (d := 0) (by omega)]
/-- What Overload returns where a job is late: jobs that do not fit ahead of time D, the greatest of their due times. -/
structure OvT (now : Int) (jobs : List Jb) (T : List Int) (D : Int) : Prop where
  pos : 0 < T.length
  len : T.length ≤ 200
  rng : ∀ x ∈ T, 0 ≤ x ∧ x < (jobs.length : Int)
  nod : T.Nodup
  due : ∀ x ∈ T, dueJ jobs x ≤ D
  low : 0 ≤ D
  big : D < endK now jobs T T.length
theorem over_cert {now : Int} {jobs : List Jb} (hv : ValJ now jobs) (hp : planE now jobs = 12) : ∃ D, OvT now jobs (ovL now jobs) D := by
  obtain ⟨o, ho⟩ := isBy_ex jobs
  have hv0 := valJ_iff.2 hv
  rcases latN_cases now jobs o with ⟨k, hk, h1, h2, h3⟩ | ⟨_, h1⟩
  · obtain ⟨m, hm, e1, e2⟩ := over_ok (now := now) hv0 ho
    rw [latI_at hk h1 h2] at e1
    obtain rfl : m = k + 1 := by omega
    have hl : (o.take (k + 1)).length = k + 1 := by rw [List.length_take]; omega
    refine ⟨dueJ jobs (o.getD k 0), ?_⟩
    rw [e2]
    refine ⟨by omega, by have := hv.len; have := ho.len; omega, fun x hx => ho.mem.1 (List.mem_of_mem_take hx), (ho.perm.symm.nodup (upI_nodup _)).sublist (List.take_sublist _ _), fun x hx => ?_, (hv.due _).1, ?_⟩
    · rw [List.mem_take_iff_getElem] at hx
      obtain ⟨i, hi, e⟩ := hx
      rw [← e, ← at_k (d := 0) (show i < o.length by omega)]
      rcases Nat.lt_or_ge i k with c | c
      · have := ho.far c hk; unfold lexR at this; omega
      · obtain rfl : i = k := by omega
        exact Int.le_refl _
    · rw [hl, endK_take hm _ (Nat.le_refl _)]
      unfold latB at h2
      exact of_decide_eq_true h2
  · have : planE now jobs = 0 := (plan_ok hv0 ho (by unfold latI; rw [h1, if_neg (Nat.lt_irrefl _)])).1
    omega
theorem plan_zero {now : Int} {jobs : List Jb} (hv : ValJ now jobs) (hp : planE now jobs = 0) : ∃ o, planL now jobs = o ∧ o.length = jobs.length ∧ ovL now jobs = [] ∧ chkE now jobs o = 0 := by
  obtain ⟨o, ho⟩ := isBy_ex jobs
  have hv0 := valJ_iff.2 hv
  have hl : latI now jobs o = -1 := by
    apply Classical.byContradiction
    intro hc
    have := (plan_late hv0 ho hc).1
    omega
  obtain ⟨k, _, h1, h2⟩ := over_ok (now := now) hv0 ho
  rw [hl] at h1
  obtain rfl : k = 0 := by omega
  exact ⟨o, (plan_ok hv0 ho hl).2, ho.len, by rw [h2, List.take_zero], chk_ok hv0 ho.ordb hl⟩
set_option maxHeartbeats 4000000 in
set_option maxRecDepth 100000 in
theorem cert_any (A0 : Option Addr) (n0 c0 : Nat) (w : World) (hc : n0 ≤ c0) (hA : IntsIn w.heap.size w A0 n0) :
    Calls Try.prog 4 #[.slice A0 n0 c0] w fun e w' => e = .returned (.bool true) ∧ Below w.heap.size w w' := by
  have HSo := hide (some_any 10 (by omega) A0 n0 c0 w hc hA)
  have HAw := hide (fun W => awake_any W)
  clear hA
  go_enter Try.func4, Try.ntmps4
  go_wp2_with fail
  refine (unhide HSo).mono ?_
  rintro e w1 ⟨now, jobs, A1, c1, rfl, hsm, hown, hb1, hlt1⟩
  have HV := hide (hsm.val (by omega))
  have HJ1 := hide (jbs_own (b := w.heap.size) hown (.inl (Nat.lt_succ_self _)))
  have HB1 := hide hb1
  have HLt := hide hlt1
  have hl10 : jobs.length ≤ 10 := hsm.len
  have HPl := hide (plan_any w.heap.size now jobs A1 c1 w1 (by omega) (unhide HJ1))
  clear hsm hown hb1 HSo hlt1
  rcases planE_two (unhide HV) with hp | hp
  · obtain ⟨o, h1, h2, h3, h4⟩ := plan_zero (unhide HV) hp
    have HOv := hide (fun W (hJ : JbsIn w.heap.size W A1 jobs) => over_any w.heap.size now jobs A1 c1 W (by omega) hJ)
    rw [hp, h1] at HPl
    rw [h3] at HOv
    have HPl := hide (unhide HPl)
    have HOv := hide (unhide HOv)
    have HOl := hide h2
    have HCE := hide h4
    clear hp h1 h2 h3 h4
    go_wp2_with fail
    refine (unhide HPl).mono ?_
    rintro e w2 ⟨A2, c2, rfl, hn2, hb2, hc2⟩
    have HB2 := hide (onward (unhide HB1) hb2)
    have HJ2 := hide ((unhide HJ1).keep hb2)
    have HN2 := hide (hn2 w.heap.size (.inl (unhide HLt)))
    have HC2 := hide hc2
    clear hn2 hb2 hc2 HPl HJ1 HB1
    have HCk := hide (fun W (hJ : JbsIn w.heap.size W A1 jobs) (hN : NumsIn w.heap.size W A2 o) => chk_any w.heap.size now jobs o A1 A2 c1 c2 W (by omega) (by have := unhide HOl; omega) hJ hN)
    have HRk := hide (fun W (hJ : JbsIn w.heap.size W A1 jobs) (hN : NumsIn w.heap.size W A2 o) => rchk_any w.heap.size now jobs o A1 A2 c1 c2 W (by omega) (by have := unhide HOl; omega) (unhide HC2) hJ hN)
    rw [unhide HCE] at HCk HRk
    have HCk := hide (unhide HCk)
    have HRk := hide (unhide HRk)
    go_wp2_with fail
    refine (unhide HOv _ (unhide HJ2)).mono ?_
    rintro e w3 ⟨A3, c3, rfl, _, hb3, _⟩
    have HB3 := hide (onward (unhide HB2) hb3)
    have HJ3 := hide ((unhide HJ2).keep hb3)
    have HN3 := hide ((unhide HN2).keep hb3)
    clear hb3 HB2 HJ2 HN2
    go_wp2_with (first
      | (go_at_call 18; refine (unhide HCk _ (unhide HJ3) (unhide HN3)).mono ?_; rintro e w4 ⟨rfl, hb4⟩; have HB4 := hide (onward (unhide HB3) hb4); have HJ4 := hide ((unhide HJ3).keep hb4); have HN4 := hide ((unhide HN3).keep hb4); clear hb4)
      | (go_at_call 19; refine (unhide HRk _ (unhide HJ4) (unhide HN4)).mono ?_; rintro e w5 ⟨rfl, hb5⟩; have HB5 := hide (onward (unhide HB4) hb5); clear hb5)
      | (go_at_call 8; refine (unhide HAw _).mono ?_; rintro e w6 ⟨rfl, hb6⟩; have HB6 := hide (onward (unhide HB5) hb6); clear hb6))
    go_ret
    exact ⟨rfl, unhide HB6⟩
  · obtain ⟨D, hT⟩ := over_cert (unhide HV) hp
    have HOv := hide (fun W (hJ : JbsIn w.heap.size W A1 jobs) => over_any w.heap.size now jobs A1 c1 W (by omega) hJ)
    rw [hp] at HPl
    generalize ovL now jobs = T at hT HOv
    have HPl := hide (unhide HPl)
    have HOv := hide (unhide HOv)
    have HT := hide hT
    clear hp
    go_wp2_with fail
    refine (unhide HPl).mono ?_
    rintro e w2 ⟨A2, c2, rfl, _, hb2, _⟩
    have HB2 := hide (onward (unhide HB1) hb2)
    have HJ2 := hide ((unhide HJ1).keep hb2)
    have HLt2 := hide (Nat.lt_of_lt_of_le (unhide HLt) hb2.size)
    clear hb2 HPl HJ1 HB1
    go_wp2_with fail
    refine (unhide HOv _ (unhide HJ2)).mono ?_
    rintro e w3 ⟨A3, c3, rfl, hn3, hb3, hc3⟩
    have HB3 := hide (onward (unhide HB2) hb3)
    have HJ3 := hide ((unhide HJ2).keep hb3)
    have HN3 := hide (hn3 w.heap.size (.inl (unhide HLt2)))
    have q0 : ((T.length : Int) == 0) = false := by rw [beq_eq_false_iff_ne]; have := hT.pos; omega
    have ht200 := hT.len
    have HC3 := hide hc3
    clear hn3 hb3 HB2 HJ2 hT hc3
    go_wp2_with fail
    have H0 := hide (Below.refl w3.heap.size w3)
    go_loopw [8, 9, 10] (fun s8 s9 s10 wr => ∃ (k : Nat) (m : Int), k ≤ T.length ∧ s10 = .int .i64 k ∧ s8 = .int .i64 (endK now jobs T k) ∧ s9 = .int .i64 m ∧ Hid (0 ≤ m ∧ m ≤ D) ∧ Hid (Below w3.heap.size w3 wr)) (fun _ _ s10 _ => T.length - (intOf s10).toNat)
    case atStart => exact ⟨0, 0, Nat.zero_le _, rfl, rfl, rfl, hide ⟨Int.le_refl _, (unhide HT).low⟩, H0⟩
    case round =>
      clear H0
      obtain ⟨k, m, hk, rfl, rfl, rfl, HM, HB⟩ := hrel
      obtain ⟨wo, rfl⟩ : ∃ wo : World, wo = wr := ⟨_, rfl⟩
      by_cases hlt : k < T.length
      · have HNo := hide ((unhide HN3).keep (unhide HB))
        obtain ⟨g, off, rfl, _, hcc⟩ := (unhide HNo) (by omega)
        have kl : (k : Int) < (T.length : Int) := by omega
        have k0 : (0 : Int) ≤ (k : Int) := by omega
        have kc : (k : Int) ≤ (c3 : Int) := by have := unhide HC3; omega
        have hxm : T.getD k 0 ∈ T := by rw [at_k hlt]; exact List.getElem_mem _
        have hx := (unhide HT).rng _ hxm
        obtain ⟨j, hj⟩ := Int.eq_ofNat_of_zero_le hx.1
        have hE : endK now jobs T (k + 1) = endK now jobs T k + cstI (posJ jobs (j : Int)) := by rw [← hj]; rfl
        have hlo := endK_low (unhide HV) T k
        have hlo1 := endK_low (unhide HV) T (k + 1)
        have hdue := (unhide HT).due _ hxm
        have hnm : T.getD k 0 ∉ T.take k := fun h9 => by
          have := (unhide HT).nod
          have h8 := this.sublist (List.take_sublist (k + 1) T)
          rw [List.take_succ_eq_append_getElem hlt, List.nodup_append] at h8
          exact h8.2.2 _ h9 _ (by rw [List.mem_singleton, at_k hlt]) rfl
        have HIn := hide (fun (t : After wo) => kin_any w.heap.size (T.take k) (T.getD k 0) (some ⟨g, off, none⟩) c3 t.to (by rw [List.length_take]; omega) (nums_take ((unhide HNo).keep t.is) k))
        rw [List.length_take, Nat.min_eq_left hk, decide_eq_false hnm] at HIn
        have c0 := hcc k hlt
        rw [hj] at hdue
        obtain ⟨x, hxe⟩ : ∃ x, T.getD k 0 = x := ⟨_, rfl⟩
        rw [hxe] at c0 hx HIn hj
        have HIn := hide (unhide HIn)
        have HXj := hide hj
        have q1 : decide (x < 0) = false := decide_eq_false (by omega)
        have q1' : ¬ x < 0 := by omega
        have q2 : decide ((jobs.length : Int) ≤ x) = false := decide_eq_false (by omega)
        have q2' : ¬ (jobs.length : Int) ≤ x := by omega
        rw [hj] at hx
        have HCc := hide (fun W (hb : Below wo.heap.size wo W) => kept hb c0)
        have jn : (j : Int) < (jobs.length : Int) := hx.2
        have j0 : (0 : Int) ≤ (j : Int) := hx.1
        obtain ⟨g1, off1, rfl, d0, d1⟩ := jbs_get ((unhide HJ3).keep (unhide HB)) (j := j) (by omega)
        have HCd := hide (fun W (hb : Below wo.heap.size wo W) => (⟨kept hb d0, kept hb d1⟩ : _ ∧ _))
        have HC := hide (fun W => rcost_any (posJ jobs (j : Int)) W)
        generalize cstI (posJ jobs (j : Int)) = q at HC hE
        generalize posJ jobs (j : Int) = p at HC HCd
        obtain ⟨dj, hdj⟩ : ∃ dj, dueJ jobs (j : Int) = dj := ⟨_, rfl⟩
        rw [hdj] at HCd hdue
        have HCd := hide (unhide HCd)
        have wq : IntKind.i64.wrap (endK now jobs T k + q) = endK now jobs T (k + 1) := by rw [IntKind.wrap_i64]; omega
        have HM2 := hide (show 0 ≤ max m dj ∧ max m dj ≤ D by have := unhide HM; omega)
        clear hcc hx hE hlo hlo1 hj hxm hnm hdue d0 d1 hdj hxe
        replace c0 := After.cell c0
        obtain ⟨E1, hE1⟩ : ∃ E1, endK now jobs T (k + 1) = E1 := ⟨_, rfl⟩
        rw [hE1] at wq
        have HE1 := hide hE1
        clear hE1
        go_wp2_with fail
        refine wp_region_after (by kernel_rfl) (by kernel_rfl) ?_
        repeat (go_big_quiet_step (fail))
        go_big_quiet_step (exact After.same ((unhide HIn _).mono fun e w' h => ⟨h.1, h.2⟩))
        repeat (go_big_quiet_step (fail))
        refine wpQuiet_nil ?_
        rintro _ ⟨t, rfl⟩
        have k1 := unhide HCc t.to t.is
        obtain ⟨k2, k3⟩ := unhide HCd t.to t.is
        have HB4 := hide (onward (unhide HB) t.is)
        clear c0
        generalize t.to = w4 at k1 k2 k3 HB4 ⊢
        clear t
        have hxj := unhide HXj
        subst hxj
        clear q1 q1' q2 q2'
        go_wp2_with (go_at_call 21; refine (unhide HC _).mono ?_; rintro e w' ⟨rfl, rfl⟩)
        go_roundw
        case rel => exact ⟨k + 1, max m dj, by omega, by go_num, by rw [unhide HE1], rfl, HM2, HB4⟩
        case measure => simp [intOf]; omega
      · obtain rfl : k = T.length := by omega
        have kl : ¬ (T.length : Int) < (T.length : Int) := by omega
        have hbig : m < endK now jobs T T.length := by have := (unhide HT).big; have := unhide HM; omega
        generalize endK now jobs T T.length = E1 at hbig ⊢
        have q3 : decide (m < E1) = true := decide_eq_true hbig
        go_wp2_with (go_at_call 8; refine (unhide HAw _).mono ?_; rintro e w6 ⟨rfl, hb6⟩; have HB6 := hide (onward (onward (unhide HB3) (unhide HB)) hb6); clear hb6)
        go_ret
        exact ⟨rfl, unhide HB6⟩
end Go.Proofs.Ytjgjgilpebeelaa
