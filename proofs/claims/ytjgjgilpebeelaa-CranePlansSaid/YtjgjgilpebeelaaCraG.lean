/-
  Crane (layer 18): CraneRelaxed: its mathematics and its walk.
-/
import Derived.Test.YtjgjgilpebeelaaCraE
namespace Go.Proofs.Ytjgjgilpebeelaa
open Go.RowKit

theorem isBy_ex (jobs : List Jb) : ∃ o, IsBy jobs o := by
  let le : Int → Int → Bool := fun x y => decide (¬ (dueJ jobs y < dueJ jobs x ∨ (dueJ jobs y = dueJ jobs x ∧ y < x)))
  refine ⟨(upI jobs.length).mergeSort le, List.mergeSort_perm _ _, ?_⟩
  have h1 : ((upI jobs.length).mergeSort le).Pairwise fun x y => le x y = true := List.pairwise_mergeSort
    (fun a b c h1 h2 => by
      simp only [le, decide_eq_true_eq] at h1 h2 ⊢
      omega)
    (fun a b => by
      simp only [le, Bool.or_eq_true, decide_eq_true_eq]
      omega) _
  have h2 : ((upI jobs.length).mergeSort le).Nodup := (List.mergeSort_perm (upI jobs.length) le).symm.nodup (upI_nodup _)
  refine List.Pairwise.imp₂ (fun x y a b => ?_) h1 h2
  simp only [le, decide_eq_true_eq] at a
  unfold lexR
  omega
theorem planE_two {now : Int} {jobs : List Jb} (hv : ValJ now jobs) : planE now jobs = 0 ∨ planE now jobs = 12 := by
  unfold planE
  rw [if_neg (by rw [valJ_iff.2 hv]; decide)]
  split
  · exact .inr rfl
  · exact .inl rfl
/-- The due time of the job at place i is later. -/
def latrJ (jobs : List Jb) (i : Nat) (v : Int) : List Jb := jobs.set i ((jobs.getD i (0, 0)).1, (jobs.getD i (0, 0)).2 + v)
theorem latr_len (jobs : List Jb) (i : Nat) (v : Int) : (latrJ jobs i v).length = jobs.length := List.length_set
theorem latr_at {jobs : List Jb} {i : Nat} {v : Int} (j : Nat) (hi : i < jobs.length) : (latrJ jobs i v).getD j (0, 0) = if i = j then ((jobs.getD i (0, 0)).1, (jobs.getD i (0, 0)).2 + v) else jobs.getD j (0, 0) := by
  unfold latrJ
  rw [List.getD_eq_getElem?_getD, List.getElem?_set]
  by_cases e : i = j
  · subst e; rw [if_pos rfl, if_pos rfl, if_pos hi]; rfl
  · rw [if_neg e, if_neg e, List.getD_eq_getElem?_getD]
theorem latr_flat : ∀ (jobs : List Jb) (i : Nat) (v : Int), i < jobs.length → (latrJ jobs i v).flatMap jbC = (jobs.flatMap jbC).set (i * 2 + 1) (.int .i64 ((jobs.getD i (0, 0)).2 + v))
  | [], _, _, h => absurd h (Nat.not_lt_zero _)
  | s :: jobs, 0, v, _ => rfl
  | s :: jobs, i + 1, v, h => by
    have ih := latr_flat jobs i v (by simpa using h)
    show jbC s ++ (latrJ jobs i v).flatMap jbC = (jbC s ++ jobs.flatMap jbC).set ((i + 1) * 2 + 1) (.int .i64 ((jobs.getD i (0, 0)).2 + v))
    rw [ih, List.set_append_right _ _ (by show 2 ≤ (i + 1) * 2 + 1; omega), jbC_len, show (i + 1) * 2 + 1 - 2 = i * 2 + 1 by omega]
section
variable {now now' v : Int} {jobs : List Jb} {i : Nat}
theorem latr_pos (hi : i < jobs.length) (x : Int) : posJ (latrJ jobs i v) x = posJ jobs x := by
  unfold posJ
  rw [latr_at _ hi]
  split
  · rename_i e; rw [e]
  · rfl
theorem latr_due (hi : i < jobs.length) (hv : 0 ≤ v) (x : Int) : dueJ jobs x ≤ dueJ (latrJ jobs i v) x := by
  unfold dueJ
  rw [latr_at _ hi]
  split
  · rename_i e; rw [← e]; simp only []; omega
  · exact Int.le_refl _
theorem latr_end (hi : i < jobs.length) (hn : now' ≤ now) (o : List Int) : ∀ k, endK now' (latrJ jobs i v) o k ≤ endK now jobs o k
  | 0 => hn
  | k + 1 => by
    have := latr_end hi hn o k
    have e : cstJ (latrJ jobs i v) (o.getD k 0) = cstJ jobs (o.getD k 0) := by unfold cstJ; rw [latr_pos hi]
    unfold endK
    rw [e]; omega
theorem relax (hv : ValJ now jobs) (hv' : ValJ now' (latrJ jobs i v)) (hi : i < jobs.length) (hn : now' ≤ now) (h0 : 0 ≤ v) (hp : planE now jobs = 0) : planE now' (latrJ jobs i v) = 0 := by
  obtain ⟨o, ho⟩ := isBy_ex jobs
  have hl : latI now jobs o = -1 := by
    apply Classical.byContradiction
    intro hc
    have := (plan_late (valJ_iff.2 hv) ho hc).1
    omega
  have hl2 : ∀ j, j < o.length → latB now jobs o j = false := by
    rcases latI_cases now jobs o with ⟨k, _, _, h2⟩ | ⟨h1, _⟩
    · omega
    · exact latN_ok.1 h1
  refine plan_best hv' (p := o) (by rw [latr_len]; exact ho.ordb) (latI_end fun j hj => ?_)
  have h1 := hl2 j hj
  unfold latB at h1 ⊢
  rw [decide_eq_false_iff_not] at h1 ⊢
  have h2 := latr_due hi h0 (o.getD j 0)
  have h3 := latr_end (v := v) hi hn o (j + 1)
  omega
theorem latr_val {most : Nat} (hs : SmJ most now jobs) (hm : most ≤ 10) (hi : i < jobs.length) (h0 : 0 ≤ v) (h1 : v ≤ 1000) (hn : 0 ≤ now' ∧ now' ≤ 4) : ValJ now' (latrJ jobs i v) := by
  refine ⟨by rw [latr_len]; have := hs.len; omega, by omega, fun s hs2 => ?_⟩
  rcases List.mem_or_eq_of_mem_set hs2 with h | rfl
  · have := hs.ok s h; omega
  · have := hs.ok (jobs.getD i (0, 0)) (by rw [at_k hi]; exact List.getElem_mem _)
    simp only []
    omega
end
theorem own_jbs {w : World} {B n c : Nat} {A : Option Addr} {l : List Jb} (h : w.ownsRow B 39 2 (.slice A n c) n (l.flatMap jbC)) (hn : 0 < n) :
    ∃ q, A = some ⟨q, 0, none⟩ ∧ n ≤ c ∧ (∀ j u, (l.flatMap jbC)[j]? = some u → w.cell? ⟨q, j, none⟩ = some u) ∧ (∀ j, w.frozen? ⟨q, j, none⟩ = false) ∧ B ≤ q ∧ q < w.heap.size := by
  rcases h.2 with ⟨h1, h2⟩ | ⟨g, cap, cur, hv, hb, hg, h3, h4, h5, ht⟩
  · omega
  · injection hv with e1 e2 e3
    subst e3
    refine ⟨g, e1, h3, fun j u hu => ?_, fun j => frozen_of_row w g j _ _ hg, hb, (Array.getElem?_eq_some_iff.1 hg).1⟩
    rw [Lib.cell_of_heap hg, ← Array.getElem?_toList]
    rw [← ht, List.getElem?_take] at hu
    split at hu
    · exact hu
    · cases hu
set_option maxHeartbeats 2000000 in
set_option maxRecDepth 100000 in
theorem relaxed_any (A0 : Option Addr) (n0 c0 : Nat) (w : World) (hc : n0 ≤ c0) (hA : IntsIn w.heap.size w A0 n0) (kk : Int) (_wk : (Lit.int .i64 kk).wf = true) (by_ : Int) (_wb : (Lit.int .i64 by_).wf = true) :
    Calls Try.prog 6 #[.slice A0 n0 c0, .int .i64 kk, .int .i64 by_] w fun e w' => e = .returned (.bool true) ∧ Below w.heap.size w w' := by
  have HSo := hide (some_any 8 (by omega) A0 n0 c0 w hc hA)
  have HAw := hide (fun W => awake_any W)
  obtain ⟨i0, zz, hi0, hia, hib, hic, hid⟩ := info_size info_jb
  have HI0 := hide hi0
  have HIA := hide hia
  have HIB := hide hib
  have HIC := hide hic
  have HID := hide hid
  clear hA hi0 hia hib hic hid
  go_enter Try.func6, Try.ntmps6
  go_wp2_with fail
  refine (unhide HSo).mono ?_
  rintro e w1 ⟨now, jobs, A1, c1, rfl, hsm, hown, hb1, hlt1⟩
  have HSm := hide hsm
  have HV := hide (hsm.val (by omega))
  have HJ1 := hide (jbs_own (b := w.heap.size) hown (.inl (Nat.lt_succ_self _)))
  have HB1 := hide hb1
  have HLt := hide hlt1
  have hl8 : jobs.length ≤ 8 := hsm.len
  have HPl := hide (plan_any w.heap.size now jobs A1 c1 w1 (by omega) (unhide HJ1))
  clear hsm hown hb1 HSo hlt1
  obtain ⟨pE, hpE⟩ : ∃ pE, planE now jobs = pE := ⟨_, rfl⟩
  have HpE := hide hpE
  have HTwo := hide (planE_two (unhide HV))
  rw [hpE] at HPl HTwo
  have HPl := hide (unhide HPl)
  clear hpE
  go_wp2_with fail
  refine (unhide HPl).mono ?_
  rintro e w2 ⟨A2, c2, rfl, _, hb2, _⟩
  have HB2 := hide (onward (unhide HB1) hb2)
  have HJ2 := hide ((unhide HJ1).keep hb2)
  have HLt2 := hide (Nat.lt_of_lt_of_le (unhide HLt) hb2.size)
  clear hb2 HPl HJ1 HB1
  by_cases hz : jobs.length = 0
  · have q0 : ((jobs.length : Int) == 0) = true := by rw [beq_iff_eq]; omega
    rcases unhide HTwo with rfl | rfl
    · clear HTwo HpE
      go_wp2_with (go_at_call 8; refine (unhide HAw _).mono ?_; rintro e w5 ⟨rfl, hb5⟩; have HB5 := hide (onward (unhide HB2) hb5); clear hb5)
      go_ret
      exact ⟨rfl, unhide HB5⟩
    · clear HTwo HpE
      go_wp2_with (go_at_call 8; refine (unhide HAw _).mono ?_; rintro e w5 ⟨rfl, hb5⟩; have HB5 := hide (onward (unhide HB2) hb5); clear hb5)
      go_ret
      exact ⟨rfl, unhide HB5⟩
  have q0 : ((jobs.length : Int) == 0) = false := by rw [beq_eq_false_iff_ne]; omega
  rcases unhide HTwo with rfl | rfl
  case inr =>
    clear HTwo HpE
    go_wp2_with (go_at_call 8; refine (unhide HAw _).mono ?_; rintro e w5 ⟨rfl, hb5⟩; have HB5 := hide (onward (unhide HB2) hb5); clear hb5)
    go_ret
    exact ⟨rfl, unhide HB5⟩
  clear HTwo
  have bE := (Below.refl w2.heap.size w2).alloc (Nat.le_refl _) (.cells #[] 39)
  obtain ⟨WE, hWE⟩ : ∃ WE : World, w2.alloc (.cells #[] 39) = WE := ⟨_, rfl⟩
  obtain ⟨E, hE⟩ : ∃ E, w2.heap.size = E := ⟨_, rfl⟩
  have HEm := hide (show WE.ownsRow (w.heap.size + 1) 39 2 (.slice (some ⟨E, 0, none⟩) 0 0) 0 [] from by
    rw [← hWE, ← hE]
    exact ⟨rfl, .inr ⟨w2.heap.size, 0, #[], rfl, by have := unhide HLt2; omega, heap_alloc_new w2 _, Nat.le_refl _, Nat.zero_le _, rfl, rfl⟩⟩)
  have HBE := hide (show Below w.heap.size w WE from by rw [← hWE]; exact onward (unhide HB2) bE)
  have HSz := hide (show w.heap.size + 1 ≤ WE.heap.size ∧ w.heap.size < E by rw [← hWE, ← hE, World.size_alloc]; have := unhide HLt2; omega)
  have HSr := hide (show 0 < jobs.length → ∃ g off, A1 = some ⟨g, off, none⟩ ∧ ∀ j u, (jobs.flatMap jbC)[j]? = some u → WE.cell? ⟨g, off + j, none⟩ = some u from fun hn => by
    rw [← hWE]
    obtain ⟨g, off, h1, _, h3⟩ := ((unhide HJ2).keep bE) hn
    exact ⟨g, off, h1, h3⟩)
  have HFl := hide (flatK_len jbC 2 jbC_len jobs)
  clear bE
  go_wp2_with (at_builtin; refine wpList_copyG (H := w.heap.size + 1) (e := E) (xs := jobs.flatMap jbC) rfl _ _ rfl rfl rfl rfl Try.underlying22 (unhide HI0) (unhide HIA) (unhide HIB) (unhide HIC) (unhide HID) (by decide) (unhide HFl) (by unfold maxLen; omega) (by omega) (fun u hu => by obtain ⟨s, _, hs⟩ := List.mem_flatMap.1 hu; simp only [jbC, List.mem_cons, List.not_mem_nil, or_false] at hs; rcases hs with rfl | rfl <;> rfl) (unhide HSz).1 (unhide HEm) (unhide HSr) ?_)
  intro A3 c3 w3 hown3 hg3
  have HO3 := hide hown3
  have HB3 := hide ((unhide HBE).grown hg3 (unhide HBE).size (fun j e => by injection e with e; have := (unhide HSz).2; omega))
  clear hown3 hg3 HSr hWE hE
  have hn0 : 0 < jobs.length := by omega
  have hmr := modN_range kk (jobs.length : Int) (by omega)
  obtain ⟨i, hi⟩ := Int.eq_ofNat_of_zero_le hmr.1
  have hvr := modN_range by_ 1000 (by omega)
  have HMk := hide (fun W => mod_any kk (jobs.length : Int) W (by omega) (by omega))
  have HMb := hide (fun W => mod_any by_ 1000 W (by omega) (by omega))
  rw [hi] at HMk hmr
  obtain ⟨v, hv⟩ : ∃ v, modN by_ 1000 = v := ⟨_, rfl⟩
  rw [hv] at HMb hvr
  have HMk := hide (unhide HMk)
  have HMb := hide (unhide HMb)
  have hin : i < jobs.length := by omega
  obtain ⟨q, rfl, hnc, hcells, hfz, hqB, hql⟩ := own_jbs (unhide HO3) hn0
  have hflat := flatK_at jbC 2 jbC_len jobs i hin 1 (by omega)
  have c0 := hcells (i * 2 + 1) (.int .i64 (jobs.getD i (0, 0)).2) (by rw [hflat, ← at_k (d := (0, 0)) hin]; rfl)
  have hdv := (unhide HSm).ok (jobs.getD i (0, 0)) (by rw [at_k hin]; exact List.getElem_mem _)
  have HFl2 := hide (latr_flat jobs i v hin)
  have HRx := hide (fun (now' : Int) (hn' : 0 ≤ now' ∧ now' ≤ 4) (hle : now' ≤ now) => relax (i := i) (unhide HV) (latr_val (unhide HSm) (by omega) hin hvr.1 (by omega) hn') hin hle hvr.1 (unhide HpE))
  have HIn := hide hin
  obtain ⟨d, hd⟩ : ∃ d, (jobs.getD i (0, 0)).2 = d := ⟨_, rfl⟩
  rw [hd] at c0 hdv HFl2
  have HFl2 := hide (unhide HFl2)
  have wd : IntKind.i64.wrap (d + v) = d + v := by rw [IntKind.wrap_i64]; omega
  have i1 : (i : Int) < (jobs.length : Int) := by omega
  have i2 : (0 : Int) ≤ (i : Int) := by omega
  have HQ := hide (show w.heap.size + 1 ≤ q ∧ q < w3.heap.size from ⟨hqB, hql⟩)
  have hnow := (unhide HSm).now
  have c0' := c0
  replace c0 := After.cell c0
  clear hcells hfz hflat hd hdv hvr hmr hi hv HpE
  go_wp2_with fail
  refine wp_region_after_tail 13 (by kernel_rfl) (by kernel_rfl) ?_
  simp only [List.take_succ_cons, List.take_zero, List.drop_succ_cons, List.drop_zero]
  repeat (go_big_quiet_step (fail))
  go_big_quiet_step (exact After.same (unhide HMk _))
  repeat (go_big_quiet_step (fail))
  go_big_quiet_step (exact After.same (unhide HMb _))
  repeat (go_big_quiet_step (fail))
  refine wpQuiet_nil ?_
  rintro _ ⟨t, rfl⟩
  have k0 := c0 t
  obtain ⟨q', e', _, _, hfz4, _, _⟩ := own_jbs (owns_later (unhide HO3) t.is) hn0
  injection e' with e'
  injection e' with e'
  subst e'
  have k1 := hfz4 (i * 2 + 1)
  have HO4 := hide (own_put (j := i * 2 + 1) (owns_later (unhide HO3) t.is) (.int .i64 (d + v)))
  have HB4 := hide ((onward (unhide HB3) t.is).setCell (p := ⟨q, i * 2 + 1, none⟩) (by have := unhide HQ; simp only []; omega) (.int .i64 (d + v)))
  clear c0 c0' hfz4
  generalize t.to = w4 at *
  obtain ⟨W5, hW5⟩ : ∃ W5 : World, w4.setCell ⟨q, i * 2 + 1, none⟩ (.int .i64 (d + v)) = W5 := ⟨_, rfl⟩
  rw [hW5] at HO4 HB4
  have HB4 := hide (unhide HB4)
  have HO5 := hide (show W5.ownsRow (w.heap.size + 1) 39 2 (.slice (some ⟨q, 0, none⟩) (latrJ jobs i v).length c3) (latrJ jobs i v).length ((latrJ jobs i v).flatMap jbC) from by rw [latr_len, unhide HFl2]; exact unhide HO4)
  obtain ⟨n2, hn2⟩ : ∃ n2, max 0 (now - 1) = n2 := ⟨_, rfl⟩
  have wn : IntKind.i64.wrap (now - 1) = now - 1 := by rw [IntKind.wrap_i64]; omega
  have HP5 := hide (plan_any w.heap.size n2 (latrJ jobs i v) (some ⟨q, 0, none⟩) c3 W5 (by rw [latr_len]; omega) (jbs_own (b := w.heap.size) (unhide HO5) (.inl (Nat.lt_succ_self _))))
  rw [unhide HRx n2 (by omega) (by omega), latr_len] at HP5
  have HP5 := hide (unhide HP5)
  go_wp2_with fail
  refine (unhide HP5).mono ?_
  rintro e w6 ⟨A6, c6, rfl, _, hb6, _⟩
  have HB6 := hide (onward (unhide HB4) hb6)
  clear hb6
  go_wp2_with (go_at_call 8; refine (unhide HAw _).mono ?_; rintro e w7 ⟨rfl, hb7⟩; have HB7 := hide (onward (unhide HB6) hb7); clear hb7)
  go_ret
  exact ⟨rfl, unhide HB7⟩
end Go.Proofs.Ytjgjgilpebeelaa
