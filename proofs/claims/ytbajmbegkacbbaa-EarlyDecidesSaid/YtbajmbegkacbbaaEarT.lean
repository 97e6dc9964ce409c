/-
  Early (layer 19): the law EarlyDecides: its walk.
-/
import Derived.Test.YtbajmbegkacbbaaEarR
namespace Go.Proofs.Ytbajmbegkacbbaa
open Go.RowKit

set_option maxHeartbeats 4000000 in
set_option maxRecDepth 100000 in
theorem decides_any (x0 : Int) (_ : (Lit.int .i64 x0).wf = true) (x1 : Int) (_ : (Lit.int .i64 x1).wf = true) (x2 : Int) (_ : (Lit.int .i64 x2).wf = true) (x3 : Int) (_ : (Lit.int .i64 x3).wf = true) {w : World} (A4 : Option Addr) (X4 : List Sb) (c4 : Nat) (_ : X4.length ≤ c4) (h4 : SbIn w.heap.size w A4 X4)
    (A5 : Option Addr) (n5 c5 : Nat) (hc5 : n5 ≤ c5) (h5 : IntsIn w.heap.size w A5 n5) :
    Calls Try.prog 3 #[.int .i64 x0, .int .i64 x1, .int .i64 x2, .int .i64 x3, .slice A4 X4.length c4, .slice A5 n5 c5] w fun e w' => e = .returned (.bool true) ∧ Below w.heap.size w w' := by
  by_cases hz : X4.length ≤ 100
  case neg =>
    have hz2 : (100 : Int) < (X4.length : Int) := by omega
    clear h4 h5
    go_enter Try.func3, Try.ntmps3
    go_wp2_with (go_at_call 6; refine (awake_any _).mono ?_; rintro e w6 ⟨rfl, hb6⟩)
    go_ret
    exact ⟨rfl, hb6⟩
  have hz2 : ¬ (100 : Int) < (X4.length : Int) := by omega
  have HSt := hide (stored_any A5 n5 c5 w hc5 h5)
  have HX := hide h4
  have HZ := hide (show X4.length ≤ 1000 by omega)
  clear h4 h5 hz
  go_enter Try.func3, Try.ntmps3
  go_upto_region 3 with fail
  go_wp2_with fail
  refine (unhide HSt).mono ?_
  rintro e w1 ⟨T, A1, c1, rfl, hT, ho, hb⟩
  have HB0 := hide hb
  have HR := hide ((unhide HX).keep hb)
  have HT := hide (RowIn.own ho (.inl (Nat.lt_succ_self w.heap.size)))
  have HZT := hide (show T.length ≤ 1000 by have := hT.len; omega)
  clear hT ho hb HSt HX
  go_upto_region 5 with (go_at_call 8; refine (mod_any _ _ _ (by omega) (by omega)).mono ?_; rintro e w9 ⟨rfl, rfl⟩)
  generalize modN x0 40 = a at *
  generalize modN x1 40 = b at *
  generalize modN x2 10 = c at *
  generalize modN x3 10 = d at *
  go_wp2_with (first
    | (go_at_call 9; refine (hold_any _ _ _ _ _).mono ?_; rintro e w9 ⟨rfl, rfl⟩)
    | (go_at_call 10; refine (rhold_any _ _ _ _ _).mono ?_; rintro e w9 ⟨rfl, rfl⟩))
  generalize hldB x0 x1 x2 x3 = v1 at *
  generalize hldB a b c d = v2 at *
  -- Rank of the list that came in
  refine (rank_any w.heap.size X4 A4 c4 w1 (unhide HZ) (unhide HR)).mono ?_
  rintro e w2 ⟨Ap, cp, rfl, _, hn, hb⟩
  have HB1 := hide hb
  have HN := hide hn
  clear hn hb
  go_wp2_with fail
  refine (rrank_any w.heap.size X4 A4 c4 w2 (unhide HZ) ((unhide HR).keep (unhide HB1))).mono ?_
  rintro e w3 ⟨Aq, cq, rfl, _, hn, hb⟩
  have HK := hide (kints_any w3.heap.size (rnkI X4) (rnkI X4) Ap Aq cp cq w3 (by have := rkL_le X4; have := unhide HZ; unfold rnkI; rw [List.length_map]; omega) ((unhide HN w3.heap.size (.inr hb.size)).keep hb) (hn w3.heap.size (.inr (Nat.le_refl _))))
  rw [decide_eq_true rfl] at HK
  have HB2 := hide (onward (unhide HB1) hb)
  clear hn hb HN HB1
  go_wp2_with fail
  refine (unhide HK).mono ?_
  rintro e w4 ⟨rfl, hb⟩
  have HB3 := hide (onward (unhide HB2) hb)
  clear hb HB2 HK
  -- Rank of the list that was read
  go_wp2_with fail
  refine (rank_any w.heap.size T A1 c1 w4 (unhide HZT) ((unhide HT).keep (unhide HB3))).mono ?_
  rintro e w5 ⟨Ar, cr, rfl, _, hn, hb⟩
  have HB4 := hide (onward (unhide HB3) hb)
  have HN := hide hn
  clear hn hb HB3
  go_wp2_with fail
  refine (rrank_any w.heap.size T A1 c1 w5 (unhide HZT) ((unhide HT).keep (unhide HB4))).mono ?_
  rintro e w6 ⟨As, cs, rfl, _, hn, hb⟩
  have HK := hide (kints_any w6.heap.size (rnkI T) (rnkI T) Ar As cr cs w6 (by have := rkL_le T; have := unhide HZT; unfold rnkI; rw [List.length_map]; omega) ((unhide HN w6.heap.size (.inr hb.size)).keep hb) (hn w6.heap.size (.inr (Nat.le_refl _))))
  rw [decide_eq_true rfl] at HK
  have HB5 := hide (onward (unhide HB4) hb)
  clear hn hb HN HB4
  go_wp2_with fail
  refine (unhide HK).mono ?_
  rintro e w7 ⟨rfl, hb⟩
  have HB6 := hide (onward (unhide HB5) hb)
  clear hb HB5 HK
  -- Next of both
  go_wp2_with fail
  refine (next_any w.heap.size X4 A4 c4 x0 w7 (unhide HZ) ((unhide HR).keep (unhide HB6))).mono ?_
  rintro e w8 ⟨rfl, hb⟩
  have HB7 := hide (onward (unhide HB6) hb)
  clear hb HB6
  go_wp2_with fail
  refine (rnext_any w.heap.size X4 A4 c4 x0 w8 (unhide HZ) ((unhide HR).keep (unhide HB7))).mono ?_
  rintro e w9 ⟨rfl, hb⟩
  have HB8 := hide (onward (unhide HB7) hb)
  clear hb HB7
  generalize nxtI X4 x0 = n1 at *
  go_wp2_with (go_at_call 8; refine (mod_any _ _ _ (by omega) (by omega)).mono ?_; rintro e w19 ⟨rfl, rfl⟩)
  refine (next_any w.heap.size T A1 c1 _ w9 (unhide HZT) ((unhide HT).keep (unhide HB8))).mono ?_
  rintro e w10 ⟨rfl, hb⟩
  have HB9 := hide (onward (unhide HB8) hb)
  clear hb HB8
  go_wp2_with (go_at_call 8; refine (mod_any _ _ _ (by omega) (by omega)).mono ?_; rintro e w19 ⟨rfl, rfl⟩)
  refine (rnext_any w.heap.size T A1 c1 _ w10 (unhide HZT) ((unhide HT).keep (unhide HB9))).mono ?_
  rintro e w11 ⟨rfl, hb⟩
  have HB10 := hide (onward (unhide HB9) hb)
  clear hb HB9
  go_wp2_with fail
  refine (awake_any _).mono ?_
  rintro e w12 ⟨rfl, hb⟩
  have HB11 := hide (onward (onward (unhide HB0) (unhide HB10)) hb)
  clear hb HB10
  go_wp2
  go_ret
  exact ⟨rfl, unhide HB11⟩
end Go.Proofs.Ytbajmbegkacbbaa
