/-
  Lanes (layer 17): the end of a lane, the choice of a lane in a store; New.
-/
import Derived.Test.YtmmhchhekmcihaaLanBA
import Derived.Test.YtmmhchhekmcihaaResK
namespace Go.Proofs.Ytmmhchhekmcihaa
open Go.RowKit

theorem results_row1 {P : Program} {fn : Func} {p : Tmp} {ty : TypeId} (h : fn.results = #[.cell p ty]) (tmps : Array Value) (w : World) (g : Nat) (t : TypeId) (cs : Array Value) (fr : Nat × Nat) (d : TypeDesc)
    (hp : tmps.getD p undef = .pointer (some ⟨g, 0, none⟩)) (hg : w.heap[g]? = some (.cells cs t fr))
    (hu : P.underlying ty = some d) (hd : (match d with | .struct _ | .array _ _ => true | _ => false) = true) (hi : (P.info? ty).map (·.size) = some cs.size) :
    (results fn tmps).run P w = .ok (.agg cs) w := by
  have hp' : tmps[p]?.getD undef = .pointer (some ⟨g, 0, none⟩) := by simpa using hp
  simp [results, h, hp', asAddr, run_loadVar_row w g t ty cs fr d hg hu hd hi]
theorem results_row3 {P : Program} {fn : Func} {p q r : Tmp} {ty : TypeId} (h : fn.results = #[.cell p ty, .tmp q, .tmp r]) (tmps : Array Value) (w : World) (g : Nat) (t : TypeId) (cs : Array Value) (fr : Nat × Nat) (d : TypeDesc) (v u : Value)
    (hp : tmps.getD p undef = .pointer (some ⟨g, 0, none⟩)) (hq : tmps.getD q undef = v) (hr : tmps.getD r undef = u) (hg : w.heap[g]? = some (.cells cs t fr))
    (hu : P.underlying ty = some d) (hd : (match d with | .struct _ | .array _ _ => true | _ => false) = true) (hi : (P.info? ty).map (·.size) = some cs.size) :
    (results fn tmps).run P w = .ok (.tuple #[.agg cs, v, u]) w := by
  have hp' : tmps[p]?.getD undef = .pointer (some ⟨g, 0, none⟩) := by simpa using hp
  have hq' : tmps[q]?.getD undef = v := by simpa using hq
  have hr' : tmps[r]?.getD undef = u := by simpa using hr
  simp [results, h, hp', hq', hr', asAddr, run_loadVar_row w g t ty cs fr d hg hu hd hi]
theorem end_at {l : List Bg} (h : 0 < l.length) : l.getLast? = some (l.getD (l.length - 1) (0, 0)) := by
  rw [List.getLast?_eq_getElem?, List.getD_eq_getElem?_getD, List.getElem?_eq_getElem (by omega)]; rfl
def rateT (l : List Bg) (due : Int) : Int := rateF l.isEmpty (endS l) due
theorem rate_rank {l : List Bg} {due : Int} (hd : 0 ≤ due) (h : ∀ s ∈ l, 0 ≤ s.2) :
    (rankS l due = 0 ∧ rateT l due = endS l + 1 ∧ 0 ≤ endS l) ∨ (rankS l due = 1 ∧ rateT l due = 0) ∨ (rankS l due = 2 ∧ rateT l due = - endS l ∧ 0 < endS l) := by
  rcases Nat.eq_zero_or_pos l.length with h0 | h0
  · obtain rfl : l = [] := List.eq_nil_of_length_eq_zero h0
    exact .inr (.inl ⟨rfl, rfl⟩)
  · have he := end_at h0
    have hx := h (l.getD (l.length - 1) (0, 0)) (by rw [← getElem_getD (show l.length - 1 < l.length by omega)]; exact List.getElem_mem _)
    have hi : l.isEmpty = false := by cases l with | nil => simp at h0 | cons _ _ => rfl
    unfold rateT rankS endS rateF
    rw [he, hi]
    generalize l.getD (l.length - 1) (0, 0) = s at hx
    simp only []
    rw [if_neg (show ¬ (false = true) by decide)]
    by_cases hs : s.2 ≤ due
    · rw [if_pos hs, if_pos hs]; exact .inl ⟨rfl, rfl, hx⟩
    · rw [if_neg hs, if_neg hs]; exact .inr (.inr ⟨rfl, rfl, by omega⟩)
theorem better_rate {a b : List Bg} {due : Int} (hd : 0 ≤ due) (ha : ∀ s ∈ a, 0 ≤ s.2) (hb : ∀ s ∈ b, 0 ≤ s.2) : betterS a b due = decide (rateT b due < rateT a due) := by
  unfold betterS
  rcases rate_rank hd ha with ⟨r1, r2, r3⟩ | ⟨r1, r2⟩ | ⟨r1, r2, r3⟩ <;> rcases rate_rank hd hb with ⟨q1, q2, q3⟩ | ⟨q1, q2⟩ | ⟨q1, q2, q3⟩ <;> rw [r1, r2, q1, q2] <;> simp <;> omega
/-- What the closure remembers behind the first k lanes of a store. -/
def chK (dp : Nat) (L : List (List Bg)) (due : Int) : Nat → Int × Int
  | 0 => (-1, 0)
  | k + 1 => if (L.getD k []).length < dp then showF (chK dp L due k) k (rateT (L.getD k []) due) else chK dp L due k
theorem chK_eq {dp : Nat} {L : List (List Bg)} {due : Int} (hd : 0 ≤ due) (h : ∀ l ∈ L, ∀ s ∈ l, 0 ≤ s.2) : ∀ k, k ≤ L.length → (match bestS dp L due k with | none => chK dp L due k = (-1, 0) | some b => b < k ∧ chK dp L due k = ((b : Int), rateT (L.getD b []) due))
  | 0, _ => rfl
  | k + 1, hk => by
    have ih := chK_eq (dp := dp) hd h k (by omega)
    unfold bestS chK
    cases hb : bestS dp L due k with
    | none =>
      rw [hb] at ih
      simp only [] at ih ⊢
      by_cases hl : (L.getD k []).length < dp
      · rw [if_pos hl, if_pos hl]
        simp only []
        rw [ih]
        exact ⟨Nat.lt_succ_self _, if_pos (.inl rfl)⟩
      · rw [if_neg hl, if_neg hl]; exact ih
    | some b =>
      rw [hb] at ih
      simp only [] at ih ⊢
      obtain ⟨ih1, ih⟩ := ih
      have hbk := better_rate hd (h _ (mem_at (show k < L.length by omega))) (h _ (mem_at (show b < L.length by omega)))
      by_cases hl : (L.getD k []).length < dp
      · rw [if_pos hl, ih, hbk]
        by_cases hr : rateT (L.getD b []) due < rateT (L.getD k []) due
        · rw [if_pos ⟨hl, decide_eq_true hr⟩]
          exact ⟨Nat.lt_succ_self _, if_pos (.inr hr)⟩
        · rw [if_neg (fun hc => hr (of_decide_eq_true hc.2))]
          refine ⟨by omega, if_neg (fun hc => hc.elim (fun e => ?_) hr)⟩
          have e' : (b : Int) = -1 := e
          omega
      · rw [if_neg hl, if_neg (fun hc => hl hc.1)]; exact ⟨by omega, ih⟩
/-- The lane chosen, or -1. -/
def chO (dp : Nat) (L : List (List Bg)) (due : Int) : Int := match bestS dp L due L.length with | none => -1 | some b => (b : Nat)
theorem chK_end {dp : Nat} {L : List (List Bg)} {due : Int} (hd : 0 ≤ due) (h : ∀ l ∈ L, ∀ s ∈ l, 0 ≤ s.2) : (chK dp L due L.length).1 = chO dp L due := by
  have := chK_eq (dp := dp) hd h L.length (Nat.le_refl _)
  unfold chO
  cases hb : bestS dp L due L.length with
  | none => rw [hb] at this; simp only [] at this ⊢; rw [this]
  | some b => rw [hb] at this; simp only [] at this ⊢; rw [this.2]
set_option maxRecDepth 100000 in
theorem tailOf_any (S : Nat → Prop) (l : List Bg) (A : Option Addr) (c : Nat) (w : World) (hz : l.length ≤ 1000) (h : BgsIn S w A l) :
    Calls Try.prog 58 #[.slice A l.length c] w fun e w' => e = .returned (.agg (tlA l.isEmpty (endS l))) ∧ Below w.heap.size w w' := by
  rcases Nat.eq_zero_or_pos l.length with h0 | h0
  · obtain rfl : l = [] := List.eq_nil_of_length_eq_zero h0
    have HR := hide (heap_alloc_new w (.cells (tlA true 0) 79))
    have HB := hide (below_new (Below.refl w.heap.size w) (.cells (tlA true 0) 79))
    clear h
    go_enter Try.func58, Try.ntmps58
    go_wp2
    refine bodyPost_ret (v := .agg (tlA true 0)) (results_row1 rfl _ _ w.heap.size _ _ _ _ rfl (unhide HR) Try.underlying79 rfl infoTl) rfl ?_
    exact ⟨rfl, unhide HB⟩
  · obtain ⟨g, off, rfl, _, hc⟩ := h h0
    have c0 := (hc (l.length - 1) (by omega)).2
    have he : endS l = (l.getD (l.length - 1) (0, 0)).2 := by unfold endS; rw [end_at h0]
    have hi : l.isEmpty = false := by cases l with | nil => simp at h0 | cons _ _ => rfl
    rw [hi, he]
    rw [Nat.mul_comm 2, ← Nat.add_assoc] at c0
    generalize (l.getD (l.length - 1) (0, 0)).2 = x at c0
    have HR := hide (heap_alloc_new w (.cells (tlA false x) 79))
    have HB := hide (below_new (Below.refl w.heap.size w) (.cells (tlA false x) 79))
    have q1 : ((l.length : Int) == 0) = false := by rw [beq_eq_false_iff_ne]; omega
    have hw : IntKind.i64.wrap ((l.length : Int) - 1) = ((l.length - 1 : Nat) : Int) := by rw [IntKind.wrap_i64]; omega
    have q2 : ((l.length - 1 : Nat) : Int) < (l.length : Int) := by omega
    have c1 := kept (below_new (Below.refl w.heap.size w) (.cells #[.bool false, .int .i64 0] 79)) c0
    clear h hc hi he
    go_enter Try.func58, Try.ntmps58
    go_wp2
    refine bodyPost_ret (v := .agg (tlA false x)) (results_row1 rfl _ _ w.heap.size _ _ _ _ rfl (unhide HR) Try.underlying79 rfl infoTl) rfl ?_
    exact ⟨rfl, unhide HB⟩
end Go.Proofs.Ytmmhchhekmcihaa
