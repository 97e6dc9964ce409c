/-
  Early (layer 19): the document's own Rank and Next.
-/
import Derived.Test.YtbajmbegkacbbaaEarJ
import Derived.Test.YtbajmbegkacbbaaEarP
import Derived.Test.YtbajmbegkacbbaaNumO
namespace Go.Proofs.Ytbajmbegkacbbaa
open Go.RowKit

/-- The bags of the first k. -/
def mapS (o : List Sb) (k : Nat) : List Value := (o.take k).map (fun s => Value.int .i64 s.1)
theorem map_step {o : List Sb} {k : Nat} (hk : k < o.length) : mapS o (k + 1) = mapS o k ++ [.int .i64 (o.getD k (0, 0)).1] := by
  unfold mapS
  rw [List.take_succ_eq_append_getElem hk, List.map_append, at_k hk]; rfl
set_option maxHeartbeats 1000000 in
set_option maxRecDepth 100000 in
theorem rrank_any (b : Nat) (l : List Sb) (A : Option Addr) (c : Nat) (w : World) (hz : l.length ≤ 1000) (h : SbIn b w A l) :
    Calls Try.prog 13 #[.slice A l.length c] w (GivR w (rnkI l)) := by
  have HC := hide (rsorted_any b l A c w hz h)
  have HLe := hide (rkL_le l)
  obtain ⟨i0, hi, hz0, hz1, hz2⟩ := info_parts linfo_int
  have HI0 := hide hi
  have HZ0 := hide hz0
  have HZ1 := hide hz1
  have HZ2 := hide hz2
  clear h hi hz0 hz1 hz2
  go_enter Try.func13, Try.ntmps13
  go_upto_region 2 with fail
  go_wp2_with fail
  refine (unhide HC).mono ?_
  rintro e w2 ⟨o, A2, c2, rfl, hr, ho, hb⟩
  have hro := hr.rk
  have HRo := hide hro
  have HOw := hide ho
  have HB := hide hb
  have hn9 : o.length ≤ 1000 := by rw [hro]; have := unhide HLe; omega
  have H0 := hide (show Below w2.heap.size w2 w2 ∧ w2.ownsRow w2.heap.size 3 1 (.slice none 0 0) 0 (mapS o 0) from ⟨Below.refl _ _, World.ownsRow_nil _ _ _ _⟩)
  have HRd := hide (fun (wr : World) (hb : Below w2.heap.size w2 wr) (k : Nat) (hk : k < o.length) => (show ∃ q, A2 = some ⟨q, 0, none⟩ ∧ wr.cell? ⟨q, k * 2, none⟩ = some (.int .i64 (o.getD k (0, 0)).1) from by
    rcases own_openS (owns_later (unhide HOw) hb) with ⟨_, ⟨_, e, _, _⟩ | ⟨q, e, _, _, hc⟩⟩
    · omega
    · have hat := flatK_at sbC 2 sbC_len o k hk
      exact ⟨q, e, hc (k * 2) _ (by rw [at_k hk]; exact hat 0 (by omega))⟩))
  clear hr hro ho hb HC HLe
  obtain ⟨n, hn⟩ : ∃ n, o.length = n := ⟨_, rfl⟩
  have HN := hide hn
  rw [hn] at hn9 HRd ⊢
  have HRd := hide (unhide HRd)
  clear hn
  go_wp2_with fail
  go_loopw [3, 5] (fun s3 s5 wr => ∃ (k : Nat) (A' : Option Addr) (c' : Nat), k ≤ n ∧ s3 = .slice A' k c' ∧ s5 = .int .i64 k ∧ Hid (Below w2.heap.size w2 wr ∧ wr.ownsRow w2.heap.size 3 1 (.slice A' k c') k (mapS o k))) (fun _ s5 _ => n - (intOf s5).toNat)
  case atStart => exact ⟨0, none, 0, Nat.zero_le _, rfl, rfl, H0⟩
  case round =>
    obtain ⟨k, A', c', hk, rfl, rfl, HP⟩ := hrel
    obtain ⟨wo, rfl⟩ : ∃ wo : World, wo = wr := ⟨_, rfl⟩
    clear H0
    by_cases hlt : k < n
    · have kl : (k : Int) < (n : Int) := by omega
      have k0 : (0 : Int) ≤ (k : Int) := by omega
      obtain ⟨q, rfl, e0⟩ := unhide HRd wo (unhide HP).1 k hlt
      have HSt := hide (map_step (o := o) (k := k) (by rw [unhide HN]; exact hlt))
      obtain ⟨x, hx⟩ : ∃ x, (o.getD k (0, 0)).1 = x := ⟨_, rfl⟩
      rw [hx] at e0 HSt
      have HLT := hide hlt
      clear hx hlt
      have by_ := (Below.refl wo.heap.size wo).alloc (Nat.le_refl _) (.cells #[.int .i64 x] 3)
      have HB2 := hide (onward (unhide HP).1 by_)
      have HO2 := hide (owns_later (unhide HP).2 by_)
      have HNw := hide (World.news_of_block (heap_alloc_new wo (.cells #[.int .i64 x] 3)))
      have hz2 : w2.heap.size ≤ (wo.alloc (.cells #[.int .i64 x] 3)).heap.size := (unhide HB2).size
      clear by_
      go_wp2_with (at_builtin; refine wpList_append_lies _ rfl _ _ 23 rfl w2.heap.size 3 i0 (.int .i64 0) 1 8 Try.underlying23 (unhide HI0) (unhide HZ0) (unhide HZ1) (unhide HZ2) rfl (by decide) _ _ _ rfl (unhide HO2) ⟨wo.heap.size, 0, none⟩ 1 1 [.int .i64 x] rfl rfl (unhide HNw) (fun u hu => by rw [List.mem_singleton.1 hu]; rfl) (by decide) (by unfold maxLen; omega) (by omega) hz2 _ rfl ?_)
      intro q1 cap' w6 hown hgrow hat hlt6
      have HB6 := hide ((unhide HB2).grown hgrow (unhide HB2).size (fun j hj => ((unhide HO2).lt j hj).1))
      have HO6 := hide hown
      clear hown hgrow hat hlt6
      go_wp2
      go_roundw
      case rel => exact ⟨k + 1, some ⟨q1, 0, none⟩, cap', by have := unhide HLT; omega, rfl, by go_num, hide ⟨unhide HB6, by rw [unhide HSt]; exact unhide HO6⟩⟩
      case measure => simp [intOf]; have := unhide HLT; omega
    · have kl : ¬ (k : Int) < (n : Int) := by omega
      obtain rfl : k = n := by omega
      have hf : mapS o k = (rnkI l).map (Value.int .i64) := by
        unfold mapS
        rw [← unhide HN, List.take_length]
        unfold rnkI
        rw [← unhide HRo, List.map_map]; rfl
      have hl : (rnkI l).length = k := by unfold rnkI; rw [List.length_map, ← unhide HRo]; exact unhide HN
      have ho := (unhide HP).2
      rw [hf] at ho
      have HF := hide ho
      have HLk := hide hl
      clear hf hl ho
      go_wp2
      go_ret
      refine ⟨A', c', by rw [unhide HLk]; rfl, by rw [unhide HLk]; exact own_cap (unhide HF), fun b hb => nums_own (unhide HF) (hb.imp (fun h => Nat.lt_of_lt_of_le h (unhide HB).size) id), onward (unhide HB) (unhide HP).1⟩
set_option maxHeartbeats 1000000 in
set_option maxRecDepth 100000 in
theorem rnext_any (b : Nat) (l : List Sb) (A : Option Addr) (c : Nat) (now : Int) (w : World) (hz : l.length ≤ 1000) (h : SbIn b w A l) :
    Calls Try.prog 15 #[.slice A l.length c, .int .i64 now] w fun e w' => e = .returned (.int .i64 (nxtI l now)) ∧ Below w.heap.size w w' := by
  have HC := hide (rsorted_any b l A c w hz h)
  clear h
  go_enter Try.func15, Try.ntmps15
  go_upto_region 1 with fail
  go_wp2_with fail
  refine (unhide HC).mono ?_
  rintro e w1 ⟨o, A1, c1, rfl, hr, ho, hb⟩
  have hro := hr.rk
  have HB := hide hb
  cases hc : rkL l with
  | nil =>
    have HE := hide (nxtI_nil hc now)
    rw [hc] at hro
    subst hro
    clear ho hr hc HC hb
    go_wp2
    go_ret
    exact ⟨ret_int (unhide HE).symm, unhide HB⟩
  | cons s r =>
    have HE := hide (nxtI_cons hc now)
    rw [hc] at hro
    have hl : 0 < o.length := by rw [hro]; exact Nat.succ_pos _
    have hs : o.getD 0 (0, 0) = s := by rw [hro]; rfl
    rcases own_openS ho with ⟨_, ⟨_, e, _, _⟩ | ⟨q, rfl, _, _, hcl⟩⟩
    · omega
    have hat := flatK_at sbC 2 sbC_len o 0 hl
    have a0 : w1.cell? ⟨q, 0, none⟩ = some (.int .i64 s.1) := hcl 0 _ (by rw [← hs, at_k hl]; exact hat 0 (by omega))
    have a1 : w1.cell? ⟨q, 1, none⟩ = some (.int .i64 s.2) := hcl 1 _ (by rw [← hs, at_k hl]; exact hat 1 (by omega))
    have kl : (0 : Int) < (o.length : Int) := by omega
    have kn : ((o.length : Int) == 0) = false := by rw [beq_eq_false_iff_ne]; omega
    clear ho hr hc HC hb hcl hat hs hro hl
    by_cases hd : s.2 ≤ now
    · have HE2 := hide (show nxtI l now = s.1 by rw [unhide HE, if_pos hd])
      have hd2 : ¬ now < s.2 := by omega
      clear HE
      go_wp2
      go_ret
      exact ⟨ret_int (unhide HE2).symm, unhide HB⟩
    · have HE2 := hide (show nxtI l now = 0 by rw [unhide HE, if_neg hd])
      have hd2 : now < s.2 := by omega
      clear HE
      go_wp2
      go_ret
      exact ⟨ret_int (unhide HE2).symm, unhide HB⟩
end Go.Proofs.Ytbajmbegkacbbaa
