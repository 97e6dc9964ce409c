/-
  Early (layer 19): what Next and Rank give: mathematics; the program's Next.
-/
import Derived.Test.YtbajmbegkacbbaaEarL
import Derived.Test.YtbajmbegkacbbaaEarP
import Derived.Test.YtbajmbegkacbbaaRowB
namespace Go.Proofs.Ytbajmbegkacbbaa
open Go.RowKit

/-- The root of a heap is the first of the rank. -/
theorem heap_rk {l o : List Sb} (hp : o.Perm (l.filter cntS)) (hf : HpF leS (0, 0) 0 o.length o) : (o = [] → rkL l = []) ∧ (0 < o.length → ∃ r, rkL l = o.getD 0 (0, 0) :: r) := by
  have hr := rk_is l
  have hpo : (rkL l).Perm o := hr.perm.trans hp.symm
  refine ⟨fun e => by subst e; exact List.Perm.eq_nil hpo, fun h0 => ?_⟩
  have hne : o.getD 0 (0, 0) ∈ o := by rw [at_k h0]; exact List.getElem_mem _
  cases hc : rkL l with
  | nil => rw [hc] at hpo; rw [hpo.symm.eq_nil] at h0; exact absurd h0 (Nat.lt_irrefl 0)
  | cons s r =>
    rw [hc] at hpo hr
    have h1 : leS (o.getD 0 (0, 0)) s := leS_all hf s (hpo.mem_iff.1 (by simp))
    have h2 : leS s (o.getD 0 (0, 0)) := by
      rcases List.mem_cons.1 (hpo.mem_iff.2 hne) with e | e
      · rw [e]; exact leS_refl _
      · exact (List.pairwise_cons.1 hr.asc).1 _ e
    rw [leS_anti h2 h1]
    exact ⟨r, rfl⟩
set_option maxHeartbeats 1000000 in
set_option maxRecDepth 100000 in
theorem next_any (b : Nat) (l : List Sb) (A : Option Addr) (c : Nat) (now : Int) (w : World) (hz : l.length ≤ 1000) (h : SbIn b w A l) :
    Calls Try.prog 14 #[.slice A l.length c, .int .i64 now] w fun e w' => e = .returned (.int .i64 (nxtI l now)) ∧ Below w.heap.size w w' := by
  have HC := hide (collect_any b l A c w hz h)
  clear h
  go_enter Try.func14, Try.ntmps14
  go_upto_region 1 with fail
  go_wp2_with fail
  refine (unhide HC).mono ?_
  rintro e w1 ⟨A1, c1, o, rfl, hs, hp, hf⟩
  obtain ⟨h0, h1⟩ := heap_rk hp hf
  have HB := hide hs.bel
  rcases Nat.eq_zero_or_pos o.length with hl | hl
  · have HE := hide (nxtI_nil (h0 (List.eq_nil_of_length_eq_zero hl)) now)
    clear hs hp hf h0 h1 HC
    go_wp2
    go_ret
    exact ⟨ret_int (unhide HE).symm, unhide HB⟩
  · obtain ⟨r, hr⟩ := h1 hl
    have HE := hide (nxtI_cons hr now)
    obtain ⟨q, rfl, a0, a1⟩ := hs.at hl
    generalize o.getD 0 (0, 0) = s at *
    rw [Nat.zero_mul] at a0 a1
    have kl : (0 : Int) < (o.length : Int) := by omega
    have kn : ((o.length : Int) == 0) = false := by rw [beq_eq_false_iff_ne]; omega
    clear hs hp hf h0 hr HC hl h1
    by_cases hd : s.2 ≤ now
    · have HE2 := hide (show nxtI l now = s.1 by rw [unhide HE, if_pos hd])
      have hd2 : ¬ now < s.2 := by omega
      clear HE
      go_wp2
      go_ret
      exact ⟨ret_int (unhide HE2).symm, unhide HB⟩
    · have HE2 := hide (show nxtI l now = 0 by rw [unhide HE, if_neg hd])
      have hd2 : now < s.2 := by omega
      clear HE
      go_wp2
      go_ret
      exact ⟨ret_int (unhide HE2).symm, unhide HB⟩
end Go.Proofs.Ytbajmbegkacbbaa
