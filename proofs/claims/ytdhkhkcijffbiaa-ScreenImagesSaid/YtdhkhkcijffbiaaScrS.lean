/-
  Screening (layer 15): the program's New and Start.
-/
import Derived.Test.YtdhkhkcijffbiaaScrR
import Derived.Test.YtdhkhkcijffbiaaScrC
import Derived.Test.YtdhkhkcijffbiaaAnyZ
import Derived.Deep.CutRange
import Derived.Deep.WholeRow
namespace Go.Proofs.Ytdhkhkcijffbiaa
open Go.RowKit

set_option maxRecDepth 100000 in
set_option maxHeartbeats 1000000 in
theorem pnew_any (a b c d : Int) (w : World) :
    Calls Try.prog 8 #[.agg #[.int .i64 a, .int .i64 b, .int .i64 c, .int .i64 d]] w fun e w' => e = .returned (.tuple #[scrV (newS a b c d) none 0, .int .i64 (newE a b c d)]) ∧ Below w.heap.size w w' := by
  have i0 : ∀ w : World, (Instr.index 22 (.agg #[.int .i64 a, .int .i64 b, .int .i64 c, .int .i64 d]) (.int .i64 0)).run Try.prog w = .ok (.int .i64 a) w := fun _ => by kernel_rfl
  have i1 : ∀ w : World, (Instr.index 22 (.agg #[.int .i64 a, .int .i64 b, .int .i64 c, .int .i64 d]) (.int .i64 1)).run Try.prog w = .ok (.int .i64 b) w := fun _ => by kernel_rfl
  have i2 : ∀ w : World, (Instr.index 22 (.agg #[.int .i64 a, .int .i64 b, .int .i64 c, .int .i64 d]) (.int .i64 2)).run Try.prog w = .ok (.int .i64 c) w := fun _ => by kernel_rfl
  have i3 : ∀ w : World, (Instr.index 22 (.agg #[.int .i64 a, .int .i64 b, .int .i64 c, .int .i64 d]) (.int .i64 3)).run Try.prog w = .ok (.int .i64 d) w := fun _ => by kernel_rfl
  go_enter Try.func8, Try.ntmps8
  go_wp2
  go_loop [7] (fun i => ∃ k : Nat, k ≤ 4 ∧ i = .int .i64 k ∧ Hid (∀ j, j < k → limB (four a b c d j) = true)) (fun i => 4 - (intOf i).toNat)
  case atStart => exact ⟨0, by omega, rfl, Lib.hid fun j hj => absurd hj (Nat.not_lt_zero _)⟩
  case round =>
    obtain ⟨k, hk, rfl, HJ⟩ := hrel
    by_cases hlt : k < 4
    · have HN := hide (fun h : limB (four a b c d k) = false => four_no hlt h)
      have HY := hide (show limB (four a b c d k) = true → ∀ j, j < k + 1 → limB (four a b c d j) = true from fun h j hj => by
        by_cases e : j = k
        · rw [e]; exact h
        · exact (unhide HJ) j (by omega))
      have hx : limB (four a b c d k) = decide (0 ≤ four a b c d k ∧ four a b c d k ≤ 1000) := rfl
      have HX := hide hx
      clear hx
      match k, hlt with
      | 0, _ | 1, _ | 2, _ | 3, _ =>
        go_wp2
        all_goals first
          | (refine bodyPost_ret (v := .tuple #[scrV scr0 none 0, .int .i64 1]) (by simp [results, Try.results8, go_sem, scr0]) rfl ⟨?_, below_new (below_new (Below.refl _ _) _) _⟩
             have hn := unhide HN ((unhide HX).trans (decide_eq_false (fun h => by have h1 := h.1; have h2 := h.2; simp [four] at h1 h2; omega)))
             rw [hn, show newS a b c d = scr0 by unfold newS; rw [hn]; rfl])
          | (go_round
             case rel =>
               have hy := unhide HY ((unhide HX).trans (decide_eq_true (by constructor <;> simp [four] <;> omega)))
               refine ⟨_, ?_, ?_, Lib.hid hy⟩
               · omega
               · rfl
             case measure => simp [intOf] <;> omega)
    · obtain rfl : k = 4 := by omega
      have HE := hide (four_all (unhide HJ))
      go_wp2
      refine bodyPost_ret (v := .tuple #[scrV ⟨a, b, c, d, 1, []⟩ none 0, .int .i64 0]) (by simp [results, Try.results8, go_sem]) rfl ⟨?_, below_new (below_new (Below.refl _ _) _) _⟩
      rw [unhide HE, show newS a b c d = ⟨a, b, c, d, 1, []⟩ by unfold newS; rw [unhide HE]; rfl]

def timeB (t : Int) : Bool := decide (0 ≤ t) && decide (t ≤ 1048576)
theorem istime_any (t : Int) (w : World) : Calls Try.prog 34 #[.int .i64 t] w fun e w' => e = .returned (.bool (timeB t)) ∧ w' = w := by
  by_cases h0 : 0 ≤ t
  · by_cases h1 : t ≤ 1048576
    · have HT := hide (show timeB t = true by unfold timeB; rw [decide_eq_true h0, decide_eq_true h1]; rfl)
      go_enter Try.func34, Try.ntmps34
      go_wp2
      go_ret
      exact ⟨by rw [unhide HT]; rfl, rfl⟩
    · have HT := hide (show timeB t = false by unfold timeB; rw [decide_eq_false h1, Bool.and_false])
      go_enter Try.func34, Try.ntmps34
      go_wp2
      go_ret
      exact ⟨by rw [unhide HT]; rfl, rfl⟩
  · have HT := hide (show timeB t = false by unfold timeB; rw [decide_eq_false h0]; rfl)
    go_enter Try.func34, Try.ntmps34
    go_wp2
    go_ret
    exact ⟨by rw [unhide HT]; rfl, rfl⟩
theorem flat_take {α : Type} (f : α → List Value) (n : Nat) (hf : ∀ x, (f x).length = n) (l : List α) (k : Nat) (hk : k ≤ l.length) : (l.flatMap f).take (k * n) = (l.take k).flatMap f ∧ (l.flatMap f).drop (k * n) = (l.drop k).flatMap f := by
  have e : l.flatMap f = (l.take k).flatMap f ++ (l.drop k).flatMap f := by rw [← List.flatMap_append, List.take_append_drop]
  have hl : ((l.take k).flatMap f).length = k * n := by rw [flatK_len f n hf, List.length_take, Nat.min_eq_left hk]
  rw [e]
  exact ⟨by rw [List.take_append_of_le_length (by omega), List.take_of_length_le (by omega)], by rw [List.drop_append, List.drop_eq_nil_of_le (by omega), hl, Nat.sub_self]; rfl⟩
theorem flat_ins {α : Type} (f : α → List Value) (n : Nat) (hf : ∀ x, (f x).length = n) (l : List α) (k : Nat) (hk : k ≤ l.length) (x : α) : (l.flatMap f).take (k * n) ++ f x ++ (l.flatMap f).drop (k * n) = (l.take k ++ x :: l.drop k).flatMap f := by
  obtain ⟨h1, h2⟩ := flat_take f n hf l k hk
  rw [h1, h2, List.flatMap_append, List.flatMap_cons, List.append_assoc]
section
variable {ops : Array Oper} {rest : List Oper} {o : Oper} {a : Act} {W : World} {Q : Exit → Act → World → Prop}
set_option maxRecDepth 100000 in
/-- A whole check is stored into the block that is the last one. -/
theorem wpList_storeC_new {t : TypeId} {old : Array Value} {g : Nat} (hz : W.heap.size = g) (s : Ck) (hgd : o.guard = none) (x y : Operand) (ho : o.op = .store 42 x y)
    (hx : a.eval x = .pointer (some ⟨g, 0, none⟩)) (hy : a.eval y = s.v) (hold : old.size = 5)
    (h : wpList Try.prog ops Q rest (a.put o.dst undef) (W.alloc (.cells s.arr t))) : wpList Try.prog ops Q (o :: rest) a (W.alloc (.cells old t)) := by
  subst hz
  exact wpList_store_row hgd _ x y ho W.heap.size s.arr hx hy t old (heap_alloc_new W _) infoC hold (ck_all s) (by rw [World.setRow_alloc_new]; exact h)
end
theorem startE_ok {s : Scr} {bag now : Int} (h1 : 1 ≤ bag) (h2 : bag ≤ 40) (ht : timeB now = true) (hf : findB s bag = false) (hn : ¬ 1048576 < s.next) : startE s bag now = 0 := by
  unfold timeB at ht
  rw [Bool.and_eq_true, decide_eq_true_eq, decide_eq_true_eq] at ht
  unfold startE
  rw [if_pos ⟨h1, h2, ht.1, ht.2⟩, hf, if_neg (by decide), if_neg hn]
theorem startE_bad {s : Scr} {bag now : Int} (h : bag < 1 ∨ 40 < bag ∨ timeB now = false) : startE s bag now = 1 := by
  unfold startE
  rw [if_neg (fun hh => ?_)]
  rcases h with h | h | h
  · omega
  · omega
  · unfold timeB at h
    rw [decide_eq_true hh.2.2.1, decide_eq_true hh.2.2.2] at h
    cases h
theorem startE_dup {s : Scr} {bag now : Int} (h1 : 1 ≤ bag) (h2 : bag ≤ 40) (ht : timeB now = true) (hf : findB s bag = true) : startE s bag now = 5 := by
  unfold timeB at ht
  rw [Bool.and_eq_true, decide_eq_true_eq, decide_eq_true_eq] at ht
  unfold startE
  rw [if_pos ⟨h1, h2, ht.1, ht.2⟩, hf]; rfl
theorem startE_lim {s : Scr} {bag now : Int} (h1 : 1 ≤ bag) (h2 : bag ≤ 40) (ht : timeB now = true) (hf : findB s bag = false) (hn : 1048576 < s.next) : startE s bag now = 2 := by
  unfold timeB at ht
  rw [Bool.and_eq_true, decide_eq_true_eq, decide_eq_true_eq] at ht
  unfold startE
  rw [if_pos ⟨h1, h2, ht.1, ht.2⟩, hf, if_neg (by decide), if_pos hn]
theorem startS_no {s : Scr} {bag now : Int} (h : startE s bag now ≠ 0) : startS s bag now = scr0 := by unfold startS; rw [if_neg h]
theorem startS_ok {s : Scr} {bag now : Int} (h : startE s bag now = 0) : startS s bag now = { s with next := s.next + 1, l := s.l.take (lbF (bagC bag) s.l) ++ ⟨bag, 1, now, s.next, 1⟩ :: s.l.drop (lbF (bagC bag) s.l) } := by
  unfold startS; rw [if_pos h, insC_cut]
/-- What a call gives that fails: the zero screening. -/
theorem gives_no {w W : World} {o : Scr} {er ev : Int} (ho : o = scr0) (he : er = ev) (hb : Below w.heap.size w W) : GivesS w o er (.returned (.tuple #[scrV scr0 none 0, .int .i64 ev])) W := by
  subst ho; subst he
  exact ⟨none, 0, rfl, fun _ _ => RowIn.nil, hb, Nat.le_refl _⟩
end Go.Proofs.Ytdhkhkcijffbiaa
