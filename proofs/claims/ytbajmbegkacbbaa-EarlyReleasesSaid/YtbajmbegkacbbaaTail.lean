/-
  The tail of a chain of '&&' in one region: once the chain's value is false, what is left of the region only hands it on. One Bool, asked of the kernel, serves any tail.
-/
import Derived.WalkKit
import Derived.Handy
import Derived.Lib.Hide
namespace Go.Proofs.Ytbajmbegkacbbaa
open Go.RowKit

/-- What is left of a region hands the false in slot g on to slot r. -/
def tailB (N : Nat) (ops : Array Oper) : List Oper → Nat → Nat → Bool
  | [], g, r => g == r
  | o :: l, g, r =>
    match o.guard with
    | some (k, true) => (match ops[k]? with | some x => (match x.dst with | some d => d == g | none => false) | none => false) && ((match o.dst with | some d => d != g | none => false) && tailB N ops l g r)
    | some (_, false) => false
    | none =>
      match o.dst with
      | none => false
      | some d =>
        match o.op with
        | .pick (.tmp c) _ (.const (.bool false)) => (c == g) && (decide (d < N) && tailB N ops l d r)
        | .move (.tmp c) => (c == g) && (decide (d < N) && tailB N ops l d r)
        | .assign (.tmp c) => (c == g) && (decide (d < N) && tailB N ops l d r)
        | _ => false

theorem put_same {a : Act} {d N : Nat} {v : Value} (hs : a.tmps.size = N) (hd : d < N) : (a.put (some d) v).tmps[d]? = some v := by
  subst hs
  simp [Act.put, hd]
theorem put_other {a : Act} {d g : Nat} {v : Value} (h : d ≠ g) : (a.put (some d) v).tmps[g]? = a.tmps[g]? := by
  simp [Act.put, h]
theorem put_size {a : Act} {d : Nat} {v : Value} : (a.put (some d) v).tmps.size = a.tmps.size := by simp [Act.put]
theorem eval_at {a : Act} {g : Nat} {v : Value} (h : a.tmps[g]? = some v) : a.eval (.tmp g) = v := by
  show a.tmps.getD g undef = v
  rw [Array.getD_eq_getD_getElem?, h]; rfl

theorem wp_tail {P : Program} {ops : Array Oper} {Q : Exit → Act → World → Prop} {w : World} {N r : Nat} : ∀ (l : List Oper) (g : Nat) (a : Act), tailB N ops l g r = true → a.tmps.size = N → a.tmps[g]? = some (.bool false) →
    (∀ a' : Act, a'.tmps[r]? = some (.bool false) → a'.defers = a.defers → Q .normal a' w) → wpList P ops Q l a w
  | [], g, a, hB, _, hg, hQ => by
    have : g = r := by simpa [tailB] using hB
    subst this
    exact hQ a hg rfl
  | o :: l, g, a, hB, hs, hg, hQ => by
    obtain ⟨dst, op, ty, pos, aft, guard⟩ := o
    cases guard with
    | some kb =>
      obtain ⟨k, b⟩ := kb
      cases b with
      | false => simp [tailB] at hB
      | true =>
        cases hk : ops[k]? with
        | none => simp [tailB, hk] at hB
        | some x =>
          cases hx : x.dst with
          | none => simp [tailB, hk, hx] at hB
          | some e =>
            cases dst with
            | none => simp [tailB] at hB
            | some d =>
              simp only [tailB, hk, hx, Bool.and_eq_true, beq_iff_eq, bne_iff_ne] at hB
              obtain ⟨rfl, hd, hB⟩ := hB
              refine wpList_skip ?_ (wp_tail l e _ hB (by rw [put_size]; exact hs) (by rw [put_other hd]; exact hg) fun a' h1 h2 => hQ a' h1 h2)
              have hy : yielded ops a.tmps k = some false := by
                unfold yielded
                rw [hk]
                simp only [Option.bind_some]
                rw [hx]
                simp only [Option.bind_some]
                rw [hg]
              show (yielded ops a.tmps k == some true) = false
              rw [hy]; rfl
    | none =>
      cases dst with
      | none => simp [tailB] at hB
      | some d =>
        refine BigFrame.wpList_want rfl fun K hK => ?_
        have key : (c : Nat) → c = g → d < N → tailB N ops l d r = true → K (a.put (some d) (.bool false)) w := fun c _ hd hT =>
          hK _ _ (wp_tail l d _ hT (by rw [put_size]; exact hs) (put_same hs hd) fun a' h1 h2 => hQ a' h1 h2)
        cases op with
        | move x =>
          cases x with
          | tmp c =>
            simp only [tailB, Bool.and_eq_true, beq_iff_eq, decide_eq_true_eq] at hB
            obtain ⟨rfl, hd, hT⟩ := hB
            refine BigFrame.wp_move (.tmp c) rfl ?_
            rw [eval_at hg]
            exact key c rfl hd hT
          | _ => simp [tailB] at hB
        | assign x =>
          cases x with
          | tmp c =>
            simp only [tailB, Bool.and_eq_true, beq_iff_eq, decide_eq_true_eq] at hB
            obtain ⟨rfl, hd, hT⟩ := hB
            refine BigFrame.wp_assign (.tmp c) rfl ?_
            rw [eval_at hg]
            exact key c rfl hd hT
          | _ => simp [tailB] at hB
        | pick x y z =>
          cases x with
          | tmp c =>
            cases z with
            | const v =>
              cases v with
              | bool b =>
                cases b with
                | false =>
                  simp only [tailB, Bool.and_eq_true, beq_iff_eq, decide_eq_true_eq] at hB
                  obtain ⟨rfl, hd, hT⟩ := hB
                  have := key c rfl hd hT
                  unfold Oper.wp execOp
                  simp only []
                  rw [eval_at hg]
                  exact this
                | true => simp [tailB] at hB
              | _ => simp [tailB] at hB
            | _ => simp [tailB] at hB
          | _ => simp [tailB] at hB
        | _ => simp [tailB] at hB

/-- The same, the slot's value first (so that a walk's arm fails at once elsewhere). -/
theorem wp_tail' {P : Program} {ops : Array Oper} {Q : Exit → Act → World → Prop} {w : World} {N r : Nat} {l : List Oper} (g : Nat) {a : Act} (hg : a.tmps[g]? = some (.bool false)) (hs : a.tmps.size = N) (hB : tailB N ops l g r = true)
    (hQ : ∀ a' : Act, a'.tmps[r]? = some (.bool false) → a'.defers = a.defers → Q .normal a' w) : wpList P ops Q l a w := wp_tail l g a hB hs hg hQ
/-- The walk stands still here: the goal is behind a name. -/
theorem stop_here {P : Program} {ops : Array Oper} {Q : Exit → Act → World → Prop} {w : World} {N r : Nat} {l : List Oper} {a : Act} (g : Nat) (_hg : a.tmps[g]? = some (.bool true)) (_hB : tailB N ops l g r = true) (h : Hid (wpList P ops Q l a w)) : wpList P ops Q l a w := h
/-- The end of a function whose result lies in slot t. -/
theorem tail_ret {P : Program} {fn : Func} {R : Ending → World → Prop} {a : Act} {w : World} {t : Tmp} {v : Value} (h : fn.results = #[.tmp t]) (ha : a.tmps[t]? = some v) (hd : a.defers = []) (hR : R (.returned v) w) : bodyPost P fn R .ret a w := by
  refine bodyPost_ret (results_tmp h _ _ _) hd ?_
  rw [Array.getD_eq_getD_getElem?, ha]
  exact hR
end Go.Proofs.Ytbajmbegkacbbaa
