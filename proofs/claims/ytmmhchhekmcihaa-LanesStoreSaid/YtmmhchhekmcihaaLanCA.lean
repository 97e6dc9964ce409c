/-
  Lanes (layer 17): the document's own New, rank, better, Same.
-/
import Derived.Test.YtmmhchhekmcihaaLanBG
namespace Go.Proofs.Ytmmhchhekmcihaa
open Go.RowKit

def NewTo (n d : Int) (w : World) (e : Ending) (w' : World) : Prop := Below w.heap.size w w' ∧
    ((¬ (1 ≤ n ∧ n ≤ 20 ∧ 1 ≤ d ∧ d ≤ 20) ∧ e = .returned (.tuple #[lnsV 0 none 0 0, .int .i64 1])) ∨ ((1 ≤ n ∧ n ≤ 20 ∧ 1 ≤ d ∧ d ≤ 20) ∧ ∃ A c, e = .returned (.tuple #[lnsV d A n.toNat c, .int .i64 0]) ∧ ∀ S, Old S w → StoI S w' A (List.replicate n.toNat []) c))
set_option maxHeartbeats 1000000 in
set_option maxRecDepth 100000 in
theorem rnew_st (n d : Int) (w : World) : Calls Try.prog 24 #[.int .i64 n, .int .i64 d] w (NewTo n d w) := by
  obtain ⟨W, hW⟩ : ∃ W : World, w.alloc (lnsO 0 none 0 0) = W := ⟨_, rfl⟩
  have b1 : Below w.heap.size w W := by rw [← hW]; exact below_new (Below.refl w.heap.size w) _
  have hz : W.heap.size = w.heap.size + 1 := by rw [← hW, World.size_alloc]
  have hx : W.heap[w.heap.size]? = some (lnsO 0 none 0 0) := by rw [← hW]; exact heap_alloc_new w _
  have HX := hide hx
  have HB := hide b1
  have HZ := hide hz
  clear b1 hx hz
  by_cases h1 : n < 1
  · have HH := hide (show ¬ (1 ≤ n ∧ n ≤ 20 ∧ 1 ≤ d ∧ d ≤ 20) from by omega)
    go_enter Try.func24, Try.ntmps24
    go_wp2_with (refine wpList_storeLn (unhide HX) rfl _ _ rfl rfl rfl ?_)
    refine bodyPost_ret (v := .tuple #[lnsV 0 none 0 0, .int .i64 1]) (results_row2' rfl _ _ w.heap.size _ _ _ _ _ rfl rfl (setRow_heap _ _ _ _ _ _ (unhide HX)) Try.underlying42 rfl infoLn) rfl ?_
    exact ⟨below_row (unhide HB) (Nat.le_refl _) _, .inl ⟨unhide HH, rfl⟩⟩
  by_cases h2 : 20 < n
  · have HH := hide (show ¬ (1 ≤ n ∧ n ≤ 20 ∧ 1 ≤ d ∧ d ≤ 20) from by omega)
    go_enter Try.func24, Try.ntmps24
    go_wp2_with (refine wpList_storeLn (unhide HX) rfl _ _ rfl rfl rfl ?_)
    refine bodyPost_ret (v := .tuple #[lnsV 0 none 0 0, .int .i64 1]) (results_row2' rfl _ _ w.heap.size _ _ _ _ _ rfl rfl (setRow_heap _ _ _ _ _ _ (unhide HX)) Try.underlying42 rfl infoLn) rfl ?_
    exact ⟨below_row (unhide HB) (Nat.le_refl _) _, .inl ⟨unhide HH, rfl⟩⟩
  by_cases h3 : d < 1
  · have HH := hide (show ¬ (1 ≤ n ∧ n ≤ 20 ∧ 1 ≤ d ∧ d ≤ 20) from by omega)
    go_enter Try.func24, Try.ntmps24
    go_wp2_with (refine wpList_storeLn (unhide HX) rfl _ _ rfl rfl rfl ?_)
    refine bodyPost_ret (v := .tuple #[lnsV 0 none 0 0, .int .i64 1]) (results_row2' rfl _ _ w.heap.size _ _ _ _ _ rfl rfl (setRow_heap _ _ _ _ _ _ (unhide HX)) Try.underlying42 rfl infoLn) rfl ?_
    exact ⟨below_row (unhide HB) (Nat.le_refl _) _, .inl ⟨unhide HH, rfl⟩⟩
  by_cases h4 : 20 < d
  · have HH := hide (show ¬ (1 ≤ n ∧ n ≤ 20 ∧ 1 ≤ d ∧ d ≤ 20) from by omega)
    go_enter Try.func24, Try.ntmps24
    go_wp2_with (refine wpList_storeLn (unhide HX) rfl _ _ rfl rfl rfl ?_)
    refine bodyPost_ret (v := .tuple #[lnsV 0 none 0 0, .int .i64 1]) (results_row2' rfl _ _ w.heap.size _ _ _ _ _ rfl rfl (setRow_heap _ _ _ _ _ _ (unhide HX)) Try.underlying42 rfl infoLn) rfl ?_
    exact ⟨below_row (unhide HB) (Nat.le_refl _) _, .inl ⟨unhide HH, rfl⟩⟩
  obtain ⟨m, rfl⟩ : ∃ m : Nat, n = m := ⟨n.toNat, by omega⟩
  have HH := hide (show 1 ≤ (m : Int) ∧ (m : Int) ≤ 20 ∧ 1 ≤ d ∧ d ≤ 20 from by omega)
  have hmk := smakeL m (by omega)
  obtain ⟨W2, hW2⟩ : ∃ W2 : World, W.alloc (.cells (madeCells #[.slice none 0 0] m) 68) = W2 := ⟨_, rfl⟩
  have b2 : Below W.heap.size W W2 := by rw [← hW2]; exact below_new (Below.refl _ _) _
  have HX2 := hide (heap_below (unhide HX) b2)
  have HR2 := hide (show W2.heap[W.heap.size]? = some (.cells (madeCells #[.slice none 0 0] m) 68) from by rw [← hW2]; exact heap_alloc_new W _)
  have HB2 := hide b2
  clear b2
  go_enter Try.func24, Try.ntmps24
  go_wp2_with (refine wpList_storeLn (unhide HX2) rfl _ _ rfl rfl rfl ?_)
  refine bodyPost_ret (v := .tuple #[lnsV d (some ⟨W.heap.size, 0, none⟩) m m, .int .i64 0]) (results_row2' rfl _ _ w.heap.size _ _ _ _ _ rfl rfl (setRow_heap _ _ _ _ _ _ (unhide HX2)) Try.underlying42 rfl infoLn) rfl ?_
  refine ⟨below_row (onward (unhide HB) (unhide HB2)) (Nat.le_refl _) _, .inr ⟨unhide HH, _, _, rfl, fun S hS => ?_⟩⟩
  have hzz := unhide HZ
  refine ⟨fun hn => ⟨W.heap.size, 0, rfl, fun h => by have := hS _ h; omega, fun i hi => ⟨none, 0, ?_, ?_, ?_⟩⟩, by rw [List.length_replicate]; omega⟩
  · rw [List.length_replicate] at hi
    have e : (List.replicate (m : Int).toNat ([] : List Bg)).getD i [] = [] := by rw [List.getD_eq_getElem?_getD, List.getElem?_replicate]; split <;> rfl
    rw [e, Nat.zero_add, Lib.cell_of_heap ((setRow_other _ _ _ _ (by omega)).trans (unhide HR2))]
    rw [← Array.getElem?_toList, toList_madeCells_one, List.getElem?_replicate, if_pos (by omega)]; rfl
  · rw [List.getD_eq_getElem?_getD, List.getElem?_replicate]; split <;> exact Nat.le_refl _
  · rw [List.getD_eq_getElem?_getD, List.getElem?_replicate]; split <;> exact fun h => absurd h (Nat.lt_irrefl _)
/-- Where the last bag of a lane stands. -/
theorem last_at {S : Nat → Prop} {l : List Bg} {A : Option Addr} {w : World} (h0 : 0 < l.length) (h : BgsIn S w A l) : ∃ g off, A = some ⟨g, off, none⟩ ∧ w.cell? ⟨g, off + (l.length - 1) * 2 + 1, none⟩ = some (.int .i64 (endS l)) := by
  obtain ⟨g, off, e, _, hc⟩ := h h0
  have c0 := (hc (l.length - 1) (by omega)).2
  rw [Nat.mul_comm 2, ← Nat.add_assoc] at c0
  exact ⟨g, off, e, by rw [c0]; unfold endS; rw [end_at h0]⟩
theorem rank_emp {due : Int} : rankS [] due = 1 := rfl
theorem rank_some' {l : List Bg} {due : Int} (h0 : 0 < l.length) : rankS l due = if endS l ≤ due then 0 else 2 := by
  unfold rankS endS; rw [end_at h0]
theorem rank_any (S : Nat → Prop) (l : List Bg) (due : Int) (A : Option Addr) (c : Nat) (w : World) (hz : l.length ≤ 1000) (h : BgsIn S w A l) :
    Calls Try.prog 59 #[.slice A l.length c, .int .i64 due] w fun e w' => e = .returned (.int .i64 (rankS l due : Nat)) ∧ w = w' := by
  rcases Nat.eq_zero_or_pos l.length with h0 | h0
  · obtain rfl : l = [] := List.eq_nil_of_length_eq_zero h0
    clear h
    go_enter Try.func59, Try.ntmps59
    go_wp2
    go_ret
    exact ⟨rfl, rfl⟩
  · obtain ⟨g, off, rfl, c0⟩ := last_at h0 h
    have HR := hide (rank_some' (due := due) h0)
    have q1 : ((l.length : Int) == 0) = false := by rw [beq_eq_false_iff_ne]; omega
    have hw : IntKind.i64.wrap ((l.length : Int) - 1) = ((l.length - 1 : Nat) : Int) := by rw [IntKind.wrap_i64]; omega
    have q2 : ((l.length - 1 : Nat) : Int) < (l.length : Int) := by omega
    generalize endS l = en at c0 HR
    generalize rankS l due = rk at HR ⊢
    clear h
    by_cases he : en ≤ due
    · have q3 : decide (en ≤ due) = true := decide_eq_true he
      have HK := hide (show rk = 0 from by rw [unhide HR, if_pos he])
      clear he
      go_enter Try.func59, Try.ntmps59
      go_wp2
      go_ret
      exact ⟨by rw [unhide HK]; rfl, rfl⟩
    · have q3 : decide (en ≤ due) = false := decide_eq_false he
      have HK := hide (show rk = 2 from by rw [unhide HR, if_neg he])
      clear he
      go_enter Try.func59, Try.ntmps59
      go_wp2
      go_ret
      exact ⟨by rw [unhide HK]; rfl, rfl⟩
theorem rank_le (l : List Bg) (due : Int) : rankS l due ≤ 2 := by
  unfold rankS
  split
  · omega
  · split <;> omega
theorem rank_pos {l : List Bg} {due : Int} (h : rankS l due ≠ 1) : 0 < l.length := by
  cases l with
  | nil => exact absurd rfl h
  | cons _ _ => simp
set_option maxHeartbeats 1000000 in
set_option maxRecDepth 100000 in
theorem better_any (S : Nat → Prop) (a b : List Bg) (due : Int) (A B : Option Addr) (c d : Nat) (w : World) (hz : a.length ≤ 1000) (hz2 : b.length ≤ 1000) (h : BgsIn S w A a) (h2 : BgsIn S w B b) :
    Calls Try.prog 50 #[.slice A a.length c, .slice B b.length d, .int .i64 due] w fun e w' => e = .returned (.bool (betterS a b due)) ∧ ∃ m, w' = w.drewN m := by
  have HA := hide (rank_any S a due A c w hz h)
  have HB := hide (rank_any S b due B d w hz2 h2)
  have HP := hide (show betterS a b due = if rankS a due ≠ rankS b due ∨ rankS a due = 1 then decide (rankS a due < rankS b due) else if rankS a due = 0 then decide (endS b < endS a) else decide (endS a < endS b) from rfl)
  have ra := rank_le a due
  have rb := rank_le b due
  have HPa := hide (rank_pos (l := a) (due := due))
  have HPb := hide (rank_pos (l := b) (due := due))
  generalize rankS a due = x at *
  generalize rankS b due = y at *
  generalize betterS a b due = bt at *
  by_cases hxy : x ≠ y ∨ x = 1
  · have HK := hide (show bt = decide (x < y) from by rw [unhide HP, if_pos hxy])
    clear h h2 HPa HPb
    have hl : decide ((x : Int) < (y : Int)) = decide (x < y) := by rw [Bool.eq_iff_iff, decide_eq_true_eq, decide_eq_true_eq]; omega
    by_cases hx : x = y
    · obtain rfl : x = 1 := by rcases hxy with h | h; exact absurd hx h; exact h
      subst hx
      clear hxy hl
      go_enter Try.func50, Try.ntmps50
      go_wp2_with (first
        | (go_at_call 59; with_reducible refine (unhide HA).mono ?_; rintro e w1 ⟨rfl, rfl⟩)
        | (go_at_call 59; with_reducible refine (unhide HB).mono ?_; rintro e w1 ⟨rfl, rfl⟩))
      go_ret
      exact ⟨by rw [unhide HK]; rfl, ⟨0, rfl⟩⟩
    · have q1 : ((x : Int) != (y : Int)) = true := by rw [bne_iff_ne]; omega
      have HL := hide hl
      clear hxy hx hl
      go_enter Try.func50, Try.ntmps50
      go_wp2_with (first
        | (go_at_call 59; with_reducible refine (unhide HA).mono ?_; rintro e w1 ⟨rfl, rfl⟩)
        | (go_at_call 59; with_reducible refine (unhide HB).mono ?_; rintro e w1 ⟨rfl, rfl⟩))
      go_ret
      exact ⟨by first | (rw [unhide HK]; rfl) | (rw [unhide HK, ← unhide HL]; rfl), ⟨0, rfl⟩⟩
  · obtain ⟨rfl, hx1⟩ : x = y ∧ x ≠ 1 := by
      rw [not_or] at hxy
      exact ⟨Classical.not_not.1 hxy.1, hxy.2⟩
    have pa := (unhide HPa) hx1
    have pb := (unhide HPb) hx1
    obtain ⟨ga, oa, rfl, ca⟩ := last_at pa h
    obtain ⟨gb, ob, rfl, cb⟩ := last_at pb h2
    have q1 : ((x : Int) != (x : Int)) = false := by simp
    have q2 : ((x : Int) == 1) = false := by rw [beq_eq_false_iff_ne]; omega
    have wa : IntKind.i64.wrap ((a.length : Int) - 1) = ((a.length - 1 : Nat) : Int) := by rw [IntKind.wrap_i64]; omega
    have wb : IntKind.i64.wrap ((b.length : Int) - 1) = ((b.length - 1 : Nat) : Int) := by rw [IntKind.wrap_i64]; omega
    have la : ((a.length - 1 : Nat) : Int) < (a.length : Int) := by omega
    have lb : ((b.length - 1 : Nat) : Int) < (b.length : Int) := by omega
    have na : (0 : Int) ≤ ((a.length - 1 : Nat) : Int) := by omega
    have nb : (0 : Int) ≤ ((b.length - 1 : Nat) : Int) := by omega
    generalize endS a = ea at ca HP
    generalize endS b = eb at cb HP
    by_cases h0 : x = 0
    · subst h0
      have HK := hide (show bt = decide (eb < ea) from by rw [unhide HP, if_neg hxy, if_pos rfl])
      clear hxy hx1 h h2 HPa HPb pa pb
      go_enter Try.func50, Try.ntmps50
      go_wp2_with (first
        | (go_at_call 59; with_reducible refine (unhide HA).mono ?_; rintro e w1 ⟨rfl, rfl⟩)
        | (go_at_call 59; with_reducible refine (unhide HB).mono ?_; rintro e w1 ⟨rfl, rfl⟩))
      go_quiet (fail)
      go_wp2
      go_ret
      exact ⟨by rw [unhide HK]; rfl, ⟨_, rfl⟩⟩
    · have q3 : ((x : Int) == 0) = false := by rw [beq_eq_false_iff_ne]; omega
      have HK := hide (show bt = decide (ea < eb) from by rw [unhide HP, if_neg hxy, if_neg h0])
      clear hxy hx1 h h2 HPa HPb pa pb h0
      go_enter Try.func50, Try.ntmps50
      go_wp2_with (first
        | (go_at_call 59; with_reducible refine (unhide HA).mono ?_; rintro e w1 ⟨rfl, rfl⟩)
        | (go_at_call 59; with_reducible refine (unhide HB).mono ?_; rintro e w1 ⟨rfl, rfl⟩))
      go_quiet (fail)
      go_wp2
      go_ret
      exact ⟨by rw [unhide HK]; rfl, ⟨_, rfl⟩⟩
end Go.Proofs.Ytmmhchhekmcihaa
