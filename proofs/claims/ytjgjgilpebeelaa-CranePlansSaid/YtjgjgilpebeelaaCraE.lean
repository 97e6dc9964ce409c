/-
  Crane (layer 18): CraneBest: its walk.
-/
import Derived.Test.YtjgjgilpebeelaaCraD
namespace Go.Proofs.Ytjgjgilpebeelaa
open Go.RowKit

theorem ints_later {w w' : World} {A : Option Addr} {n : Nat} (h : IntsIn w.heap.size w A n) (hb : Below w.heap.size w w') : IntsIn w'.heap.size w' A n := fun hn => by
  obtain ⟨g, off, h1, h2, h3⟩ := h hn
  exact ⟨g, off, h1, Nat.lt_of_lt_of_le h2 hb.size, fun i hi => by
    obtain ⟨x, hx⟩ := h3 i hi
    exact ⟨x, kept hb hx⟩⟩
theorem jbs_own {base b c : Nat} {w : World} {A : Option Addr} {l : List Jb} (h : w.ownsRow base 39 2 (.slice A l.length c) l.length (l.flatMap jbC)) (hb : b < base ∨ w.heap.size ≤ b) : JbsIn b w A l := RowIn.own h hb
theorem perm_ord {n : Nat} {o : List Int} (h : o.Perm (upI n)) : isOrd n o = true := by
  unfold isOrd
  rw [decide_eq_true_eq]
  exact ⟨by rw [h.length_eq, upI_len], fun x hx => upI_mem.1 (h.mem_iff.1 hx), h.symm.nodup (upI_nodup _)⟩
theorem plan_best {now : Int} {jobs : List Jb} {p : List Int} (hv : ValJ now jobs) (hp : isOrd jobs.length p = true) (h : latI now jobs p = -1) : planE now jobs = 0 := by
  have hl : latN now jobs p = p.length := by
    rcases latI_cases now jobs p with ⟨k, _, _, h2⟩ | ⟨h1, _⟩
    · omega
    · exact h1
  unfold planE
  rw [if_neg (by rw [valJ_iff.2 hv]; decide)]
  by_cases he : ∃ o, IsBy jobs o
  · obtain ⟨o, ho⟩ := he
    rw [← ho.ord, best hv ho hp hl, if_neg (Nat.lt_irrefl _)]
  · have : ordJ jobs = [] := by unfold ordJ; rw [dif_neg he]
    rw [this]; exact if_neg (Nat.not_lt_zero _)
set_option maxHeartbeats 2000000 in
set_option maxRecDepth 100000 in
theorem best_any (A0 : Option Addr) (n0 c0 : Nat) (w : World) (hc : n0 ≤ c0) (hA : IntsIn w.heap.size w A0 n0) (A9 : Option Addr) (n9 c9 : Nat) (hc9 : n9 ≤ c9) (hA9 : IntsIn w.heap.size w A9 n9) :
    Calls Try.prog 5 #[.slice A0 n0 c0, .slice A9 n9 c9] w fun e w' => e = .returned (.bool true) ∧ Below w.heap.size w w' := by
  have HSo := hide (some_any 7 (by omega) A0 n0 c0 w hc hA)
  have HA9 := hide hA9
  have HAw := hide (fun W => awake_any W)
  clear hA hA9
  go_enter Try.func5, Try.ntmps5
  go_wp2_with fail
  refine (unhide HSo).mono ?_
  rintro e w1 ⟨now, jobs, A1, c1, rfl, hsm, hown, hb1, hlt1⟩
  have HSm := hide hsm
  have HV := hide (hsm.val (by omega))
  have HJ1 := hide (jbs_own (b := w.heap.size) hown (.inl (Nat.lt_succ_self _)))
  have HB1 := hide hb1
  have HLt := hide hlt1
  have hl7 : jobs.length ≤ 7 := hsm.len
  have HPl := hide (plan_any w.heap.size now jobs A1 c1 w1 (by omega) (unhide HJ1))
  clear hsm hown hb1 HSo hlt1
  go_wp2_with fail
  refine (unhide HPl).mono ?_
  rintro e w2 ⟨A2, c2, rfl, _, hb2, _⟩
  have HB2 := hide (onward (unhide HB1) hb2)
  have HJ2 := hide ((unhide HJ1).keep hb2)
  have HPe := hide (perm_any jobs.length (by omega) A9 n9 c9 w2 hc9 (ints_later (unhide HA9) (unhide HB2)))
  have HLt2 := hide (Nat.lt_of_lt_of_le (unhide HLt) hb2.size)
  clear hb2 HPl HJ1 HB1
  obtain ⟨pE, hpE⟩ : ∃ pE, planE now jobs = pE := ⟨_, rfl⟩
  have HpE := hide hpE
  rw [hpE]
  clear hpE
  go_wp2_with fail
  refine (unhide HPe).mono ?_
  rintro e w3 ⟨o, A3, c3, rfl, hpm, hown, hb3, _⟩
  have HPm := hide hpm
  have hol : o.length = jobs.length := by rw [hpm.length_eq, upI_len]
  have HB3 := hide (onward (unhide HB2) hb3)
  have HJ3 := hide ((unhide HJ2).keep hb3)
  have HN3 := hide (nums_own (n := jobs.length) (b := w.heap.size) hown (.inl (by have := (unhide HB2).size; omega)))
  have HCh := hide (chk_any w.heap.size now jobs o A1 A3 c1 c3 w3 (by omega) (by omega) (unhide HJ3) (unhide HN3))
  rw [hol] at HCh
  have HCh := hide (unhide HCh)
  have HOl := hide hol
  clear hpm hown hb3 hol HPe HJ2 HB2
  by_cases hl : latI now jobs o = -1
  · have hE := chk_ok (valJ_iff.2 (unhide HV)) (perm_ord (unhide HPm)) hl
    rw [hE] at HCh
    have HCh := hide (unhide HCh)
    have hP0 : pE = 0 := by rw [← unhide HpE]; exact plan_best (unhide HV) (perm_ord (unhide HPm)) hl
    subst hP0
    clear hl hE HpE
    go_wp2_with (first
      | (go_at_call 18; refine (unhide HCh).mono ?_; rintro e w4 ⟨rfl, hb4⟩; have HB4 := hide (onward (unhide HB3) hb4); clear hb4)
      | (go_at_call 8; refine (unhide HAw _).mono ?_; rintro e w5 ⟨rfl, hb5⟩; have HB5 := hide (onward (unhide HB4) hb5); clear hb5))
    go_ret
    exact ⟨rfl, unhide HB5⟩
  · have hE := chk_late (valJ_iff.2 (unhide HV)) (perm_ord (unhide HPm)) hl
    rw [hE] at HCh
    have HCh := hide (unhide HCh)
    clear hl hE HpE
    go_wp2_with (first
      | (go_at_call 18; refine (unhide HCh).mono ?_; rintro e w4 ⟨rfl, hb4⟩; have HB4 := hide (onward (unhide HB3) hb4); clear hb4)
      | (go_at_call 8; refine (unhide HAw _).mono ?_; rintro e w5 ⟨rfl, hb5⟩; have HB5 := hide (onward (unhide HB4) hb5); clear hb5))
    go_ret
    exact ⟨rfl, unhide HB5⟩
end Go.Proofs.Ytjgjgilpebeelaa
