/-
  Lanes (layer 17): the program's choice of a lane in a store; the copy of a store; New.
-/
import Derived.Test.YtmmhchhekmcihaaLanBB
namespace Go.Proofs.Ytmmhchhekmcihaa
open Go.RowKit

theorem end_small {l : List Bg} (h : ∀ s ∈ l, 0 ≤ s.2 ∧ s.2 ≤ 1048576) : 0 ≤ endS l ∧ endS l ≤ 1048576 := by
  unfold endS
  cases he : l.getLast? with
  | none => exact ⟨by decide, by decide⟩
  | some s => exact h s (List.mem_of_getLast? he)
set_option maxHeartbeats 1000000 in
set_option maxRecDepth 100000 in
theorem choose_any (S : Nat → Prop) (dp : Nat) (due : Int) (L : List (List Bg)) (A : Option Addr) (c : Nat) (w : World) (hv : ValL dp L) (hd : 0 ≤ due) (h : StoI S w A L c) :
    Calls Try.prog 49 #[lnsV dp A L.length c, .int .i64 due] w fun e w' => e = .returned (.int .i64 (chO dp L due)) ∧ Below w.heap.size w w' := by
  obtain ⟨W, hW⟩ : ∃ W : World, w.alloc (lnsO dp A L.length c) = W := ⟨_, rfl⟩
  have b1 : Below w.heap.size w W := by rw [← hW]; exact below_new (Below.refl w.heap.size w) _
  have hx : W.heap[w.heap.size]? = some (lnsO dp A L.length c) := by rw [← hW]; exact heap_alloc_new w _
  have HX := hide hx
  have HS := hide (h.below b1)
  have HB := hide b1
  have HV := hide hv
  have HE := hide (chK_end (dp := dp) (L := L) hd fun l hl s hs => ((hv.bag l hl s hs).2).1)
  have hL : L.length ≤ 20 := hv.n.2
  have hdp : 1 ≤ dp ∧ dp ≤ 20 := hv.d
  have z1 : W.cell? ⟨w.heap.size, 1, none⟩ = some (.slice A L.length c) := by rw [Lib.cell_of_heap hx]; rfl
  clear b1 h hv hx
  go_enter Try.func49, Try.ntmps49
  go_wp2_with fail
  refine (chooser_any due _).mono ?_
  rintro e w1 ⟨rfl, hc1, hb1, hz1⟩
  have z1' := kept hb1 z1
  have HI0 := hide (show ChI w1 W.heap.size due (chK dp L due 0) ∧ Below W.heap.size W w1 from ⟨hc1, hb1⟩)
  clear hc1 hb1 hz1 z1
  go_wp2_with fail
  go_loopw [5, 14] (fun s5 s14 wr => ∃ i : Nat, i ≤ L.length ∧ s14 = .int .i64 i ∧ s5 = .int .i64 (chK dp L due i).1 ∧ Hid (ChI wr W.heap.size due (chK dp L due i) ∧ Below W.heap.size W wr)) (fun _ s14 _ => L.length - (intOf s14).toNat)
  case atStart => exact ⟨0, Nat.zero_le _, rfl, rfl, HI0⟩
  case round =>
    obtain ⟨i, hi, rfl, rfl, HI⟩ := hrel
    obtain ⟨wo, rfl⟩ : ∃ wo : World, wo = wr := ⟨_, rfl⟩
    clear HI0 z1'
    by_cases hil : i < L.length
    · have il : (i : Int) < (L.length : Int) := by omega
      have i0 : (0 : Int) ≤ (i : Int) := by omega
      obtain ⟨g, off, rfl, _, hc⟩ := ((unhide HS).below (unhide HI).2).row (by omega)
      obtain ⟨A', c', c0, hcap, hb⟩ := hc i hil
      have z0 : wo.cell? ⟨w.heap.size, 0, none⟩ = some (.int .i64 dp) := by rw [Lib.cell_of_heap (heap_below (unhide HX) (unhide HI).2)]; rfl
      have hll : (L.getD i []).length ≤ 20 := Nat.le_trans ((unhide HV).len _ (mem_at hil)) (unhide HV).d.2
      obtain ⟨e0, e1⟩ := end_small (l := L.getD i []) fun s hs => ((unhide HV).bag _ (mem_at hil) s hs).2
      have HT := hide (tailOf_any S (L.getD i []) A' c' wo (by omega) hb)
      have HCh := hide (show chK dp L due (i + 1) = if (L.getD i []).length < dp then showF (chK dp L due i) i (rateF (L.getD i []).isEmpty (endS (L.getD i [])) due) else chK dp L due i from rfl)
      clear hc hb
      generalize L.getD i [] = l at c0 hll e0 e1 HT HCh
      generalize endS l = en at e0 e1 HT HCh
      by_cases hr : l.length < dp
      · have q1 : decide ((l.length : Int) < (dp : Int)) = true := by rw [decide_eq_true_eq]; omega
        have q2 : decide (l.length < dp) = true := decide_eq_true hr
        have HCh := hide (show chK dp L due (i + 1) = showF (chK dp L due i) i (rateF l.isEmpty en due) from by rw [unhide HCh, if_pos hr])
        have HSh := hide (fun W' (hb : Below wo.heap.size wo W') => show_any i l.isEmpty en due (chK dp L due i) W.heap.size W' e0 e1 ((unhide HI).1.keep hb))
        clear hr
        go_wp2_with fail
        refine (unhide HT).mono ?_
        rintro e w2 ⟨rfl, hb2⟩
        have HSh2 := hide (unhide HSh _ hb2)
        have HB2 := hide (show Below W.heap.size W w2 from (unhide HI).2.trans (hb2.mono (unhide HI).2.size))
        clear hb2
        go_wp2_with fail
        refine (unhide HSh2).mono ?_
        rintro e w3 ⟨rfl, hc3, hb3⟩
        have HI3 := hide (show ChI w3 W.heap.size due (chK dp L due (i + 1)) ∧ Below W.heap.size W w3 from ⟨by rw [unhide HCh]; exact hc3, (unhide HB2).trans hb3⟩)
        clear hc3 hb3
        rw [← unhide HCh]
        generalize hk1 : chK dp L due (i + 1) = k1 at HI3
        have HK1 := hide hk1
        clear hk1
        go_wp2
        go_roundw
        case rel => exact ⟨i + 1, by omega, by go_num, by rw [unhide HK1], by rw [unhide HK1]; exact HI3⟩
        case measure => simp [intOf]; omega
      · have q1 : decide ((l.length : Int) < (dp : Int)) = false := by rw [decide_eq_false_iff_not]; omega
        have q2 : decide (l.length < dp) = false := decide_eq_false hr
        have HCh := hide (show chK dp L due (i + 1) = chK dp L due i from by rw [unhide HCh, if_neg hr])
        clear hr
        go_wp2
        go_roundw
        case rel => exact ⟨i + 1, by omega, by go_num, by rw [unhide HCh], by rw [unhide HCh]; exact HI⟩
        case measure => simp [intOf]; omega
    · have il : ¬ (i : Int) < (L.length : Int) := by omega
      obtain rfl : i = L.length := by omega
      go_wp2
      go_ret
      exact ⟨ret_int (unhide HE), onward (unhide HB) (unhide HI).2⟩
end Go.Proofs.Ytmmhchhekmcihaa
