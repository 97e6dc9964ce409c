/-
  Lanes (layer 17): the program's choice among lanes: rate, the closure that remembers the best lane so far, the ends of lanes.
-/
import Derived.Test.YtmmhchhekmcihaaLanU
namespace Go.Proofs.Ytmmhchhekmcihaa
open Go.RowKit

def rateF (e : Bool) (x due : Int) : Int := if e = true then 0 else if x ≤ due then x + 1 else -x
def showF (s : Int × Int) (lane r : Int) : Int × Int := if s.1 = -1 ∨ s.2 < r then (lane, r) else s
abbrev tlA (e : Bool) (x : Int) : Array Value := #[.bool e, .int .i64 x]
theorem infoTl : (Try.prog.info? 79).map (·.size) = some 2 := by kernel_rfl
theorem rate_any (e : Bool) (x due : Int) (w : World) (h0 : 0 ≤ x) (h1 : x ≤ 1048576) :
    Calls Try.prog 61 #[.agg (tlA e x), .int .i64 due] w fun r w' => r = .returned (.int .i64 (rateF e x due)) ∧ Below w.heap.size w w' := by
  have B1 := hide ((Below.refl w.heap.size w).alloc (Nat.le_refl _) (.cells (tlA e x) 79))
  have z0 : (w.alloc (.cells (tlA e x) 79)).cell? ⟨w.heap.size, 0, none⟩ = some (.bool e) := by rw [Lib.cell_of_heap (heap_alloc_new w _)]; rfl
  have z1 : (w.alloc (.cells (tlA e x) 79)).cell? ⟨w.heap.size, 1, none⟩ = some (.int .i64 x) := by rw [Lib.cell_of_heap (heap_alloc_new w _)]; rfl
  cases e with
  | true =>
    go_enter Try.func61, Try.ntmps61
    go_wp2
    go_ret
    exact ⟨rfl, unhide B1⟩
  | false =>
    by_cases h : x ≤ due
    · have HR := hide (show rateF false x due = x + 1 from by unfold rateF; rw [if_neg (by decide), if_pos h])
      have hx : decide (x ≤ due) = true := decide_eq_true h
      clear h
      go_enter Try.func61, Try.ntmps61
      go_wp2
      go_ret
      exact ⟨ret_int (unhide HR).symm, unhide B1⟩
    · have HR := hide (show rateF false x due = -x from by unfold rateF; rw [if_neg (by decide), if_neg h])
      have hx : decide (x ≤ due) = false := decide_eq_false h
      clear h
      go_enter Try.func61, Try.ntmps61
      go_wp2
      go_ret
      exact ⟨ret_int (unhide HR).symm, unhide B1⟩
/-- A closure that remembers the best lane: the due time, the best lane so far, how good it is, in blocks B, B + 1, B + 2. -/
structure ChI (w : World) (B : Nat) (due : Int) (s : Int × Int) : Prop where
  due : w.heap[B]? = some (.cells #[.int .i64 due] 3 (0, 0))
  best : w.heap[B + 1]? = some (.cells #[.int .i64 s.1] 3 (0, 0))
  most : w.heap[B + 2]? = some (.cells #[.int .i64 s.2] 3 (0, 0))
theorem ChI.keep {w w' : World} {B : Nat} {due : Int} {s : Int × Int} (h : ChI w B due s) (hb : Below w.heap.size w w') : ChI w' B due s := ⟨heap_below h.due hb, heap_below h.best hb, heap_below h.most hb⟩
abbrev chV (B : Nat) : Value := .func (.func 60) #[] #[.pointer (some ⟨B, 0, none⟩), .pointer (some ⟨B + 1, 0, none⟩), .pointer (some ⟨B + 2, 0, none⟩)]
theorem chooser_any (due : Int) (w : World) :
    Calls Try.prog 52 #[.int .i64 due] w fun e w' => e = .returned (chV w.heap.size) ∧ ChI w' w.heap.size due (-1, 0) ∧ Below w.heap.size w w' ∧ w'.heap.size = w.heap.size + 3 := by
  go_enter Try.func52, Try.ntmps52
  go_wp2
  go_ret
  refine ⟨rfl, ⟨heap_later (heap_later (heap_alloc_new w _) _) _, ?_, ?_⟩, below_new (below_new (below_new (Below.refl _ _) _) _) _, by simp [World.size_alloc]⟩
  · have h := heap_alloc_new (w.alloc (.cells #[.int .i64 due] 3)) (.cells #[.int .i64 (-1)] 3)
    rw [World.size_alloc] at h
    exact heap_later h _
  · have h := heap_alloc_new ((w.alloc (.cells #[.int .i64 due] 3)).alloc (.cells #[.int .i64 (-1)] 3)) (.cells #[.int .i64 0] 3)
    rw [World.size_alloc, World.size_alloc] at h
    exact h
theorem chi_put {w : World} {B : Nat} {due : Int} {s : Int × Int} (h : ChI w B due s) (x y : Int) : ChI ((w.setCell ⟨B + 1, 0, none⟩ (.int .i64 x)).setCell ⟨B + 2, 0, none⟩ (.int .i64 y)) B due (x, y) := by
  refine ⟨?_, ?_, ?_⟩
  · exact heap_setOther (heap_setOther h.due (by omega) _) (by omega) _
  · exact heap_setOther (heap_set h.best _) (by omega) _
  · exact heap_set (heap_setOther h.most (by omega) _) _
theorem below_put {w w' : World} {B : Nat} (h : Below B w w') {q : Nat} (hq : B ≤ q) (i : Nat) (u : Value) : Below B w (w'.setCell ⟨q, i, none⟩ u) := h.setCell hq u
set_option maxHeartbeats 1000000 in
set_option maxRecDepth 100000 in
theorem show_any (lane : Int) (e : Bool) (x due : Int) (s : Int × Int) (B : Nat) (w : World) (h0 : 0 ≤ x) (h1 : x ≤ 1048576) (h : ChI w B due s) :
    Calls Try.prog 60 #[.int .i64 lane, .agg (tlA e x), .pointer (some ⟨B, 0, none⟩), .pointer (some ⟨B + 1, 0, none⟩), .pointer (some ⟨B + 2, 0, none⟩)] w
      fun r w' => r = .returned (.int .i64 (showF s lane (rateF e x due)).1) ∧ ChI w' B due (showF s lane (rateF e x due)) ∧ Below B w w' := by
  obtain ⟨best, most⟩ := s
  obtain ⟨W1, hW⟩ : ∃ W1 : World, w.alloc (.cells (tlA e x) 79) = W1 := ⟨_, rfl⟩
  have b1 := (Below.refl w.heap.size w).alloc (Nat.le_refl _) (.cells (tlA e x) 79)
  rw [hW] at b1
  have hx : W1.heap[w.heap.size]? = some (.cells (tlA e x) 79) := by rw [← hW]; exact heap_alloc_new w _
  have c1 := h.keep b1
  have z0 : W1.cell? ⟨B, 0, none⟩ = some (.int .i64 due) := by rw [Lib.cell_of_heap c1.due]; rfl
  have hBw : B < w.heap.size := (Array.getElem?_eq_some_iff.1 h.due).1
  have HX := hide hx
  have HB1 := hide (b1.mono (Nat.le_of_lt hBw))
  have HC1 := hide c1
  have HR := hide (rate_any e x due W1 h0 h1)
  generalize rateF e x due = r at HR ⊢
  have hcell : ∀ {W : World}, ChI W B due (best, most) → W.cell? ⟨B + 1, 0, none⟩ = some (.int .i64 best) ∧ W.cell? ⟨B + 2, 0, none⟩ = some (.int .i64 most) ∧ W.frozen? ⟨B + 1, 0, none⟩ = false ∧ W.frozen? ⟨B + 2, 0, none⟩ = false := fun k =>
    ⟨by rw [Lib.cell_of_heap k.best]; rfl, by rw [Lib.cell_of_heap k.most]; rfl, frozen_of_row _ _ _ _ _ k.best, frozen_of_row _ _ _ _ _ k.most⟩
  have HF := hide (fun (W : World) (k : ChI W B due (best, most)) => hcell k)
  have HBw := hide hBw
  have HBZ := hide (show B ≤ W1.heap.size from Nat.le_trans (Nat.le_of_lt hBw) b1.size)
  clear h b1 hx c1 hcell h0 h1 hBw
  by_cases hb : best = -1
  · have HS := hide (show showF (best, most) lane r = (lane, r) from if_pos (.inl hb))
    have q1 : (best == -1) = true := by rw [beq_iff_eq]; exact hb
    clear hb
    go_enter Try.func60, Try.ntmps60
    go_wp2_with (first
      | (refine wpList_load_row rfl _ _ rfl w.heap.size rfl 79 (tlA e x) (0, 0) _ (unhide HX) Try.underlying79 rfl infoTl ?_)
      | (go_at_call 61; refine (unhide HR).mono ?_; rintro e' w2 ⟨rfl, hb2⟩; have HB2 := hide ((unhide HB1).trans (hb2.mono (unhide HBZ))); have HC2 := hide ((unhide HC1).keep hb2); obtain ⟨d1, d2, d3, d4⟩ := unhide HF _ (unhide HC2); clear hb2))
    go_ret
    exact ⟨by rw [unhide HS]; rfl, by rw [unhide HS]; exact chi_put (unhide HC2) lane r, below_put (below_put (unhide HB2) (by omega) _ _) (by omega) _ _⟩
  · have q1 : (best == -1) = false := by rw [beq_eq_false_iff_ne]; exact hb
    by_cases hm : most < r
    · have HS := hide (show showF (best, most) lane r = (lane, r) from if_pos (.inr hm))
      have q2 : decide (most < r) = true := decide_eq_true hm
      clear hb hm
      go_enter Try.func60, Try.ntmps60
      go_wp2_with (first
        | (refine wpList_load_row rfl _ _ rfl w.heap.size rfl 79 (tlA e x) (0, 0) _ (unhide HX) Try.underlying79 rfl infoTl ?_)
        | (go_at_call 61; refine (unhide HR).mono ?_; rintro e' w2 ⟨rfl, hb2⟩; have HB2 := hide ((unhide HB1).trans (hb2.mono (unhide HBZ))); have HC2 := hide ((unhide HC1).keep hb2); obtain ⟨d1, d2, d3, d4⟩ := unhide HF _ (unhide HC2); clear hb2))
      go_ret
      exact ⟨by rw [unhide HS]; rfl, by rw [unhide HS]; exact chi_put (unhide HC2) lane r, below_put (below_put (unhide HB2) (by omega) _ _) (by omega) _ _⟩
    · have HS := hide (show showF (best, most) lane r = (best, most) from if_neg (fun h => h.elim hb hm))
      have q2 : decide (most < r) = false := decide_eq_false hm
      clear hb hm
      go_enter Try.func60, Try.ntmps60
      go_wp2_with (first
        | (refine wpList_load_row rfl _ _ rfl w.heap.size rfl 79 (tlA e x) (0, 0) _ (unhide HX) Try.underlying79 rfl infoTl ?_)
        | (go_at_call 61; refine (unhide HR).mono ?_; rintro e' w2 ⟨rfl, hb2⟩; have HB2 := hide ((unhide HB1).trans (hb2.mono (unhide HBZ))); have HC2 := hide ((unhide HC1).keep hb2); obtain ⟨d1, d2, d3, d4⟩ := unhide HF _ (unhide HC2); clear hb2))
      go_ret
      exact ⟨by rw [unhide HS]; rfl, by rw [unhide HS]; exact unhide HC2, unhide HB2⟩
end Go.Proofs.Ytmmhchhekmcihaa
