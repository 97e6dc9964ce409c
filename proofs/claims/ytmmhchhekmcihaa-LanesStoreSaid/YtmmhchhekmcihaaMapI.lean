/-
  A map from numbers to numbers that a call makes: its look-ups and stores.
-/
import Derived.Test.YtmmhchhekmcihaaNumR
import Derived.Maps.OwnOps
import Derived.Maps.Views
namespace Go.Proofs.Ytmmhchhekmcihaa
open Go.RowKit

theorem keyedI : Maps.Keyed Try.prog 3 := Maps.int_keyed Try.underlying3
theorem zeroI (w : World) : (zeroValue 3).run Try.prog w = .ok (.int .i64 0) w := by kernel_rfl
/-- Block b is a map of at most n entries that gives f. -/
def MapW (w : World) (b n : Nat) (f : Int → Int) : Prop :=
  ∃ D : DataW Unit, w.ownsMap Try.prog 3 (plainElem Try.prog 3) b n D ∧ Maps.IsMap D ∧ ∀ x, D.atKey (.int .i64 x) (.lit (.int .i64 0)) = .lit (.int .i64 (f x))
theorem MapW.made (w : World) : MapW (w.alloc (.map #[] 0)) w.heap.size 0 fun _ => 0 := ⟨.map [], World.ownsMap_made _ _ _ _, Maps.isMap_empty, fun _ => rfl⟩
theorem MapW.to {w : World} {b n : Nat} {f g : Int → Int} (h : MapW w b n f) (hg : ∀ x, f x = g x) : MapW w b n g := by
  obtain ⟨D, h1, h2, h3⟩ := h
  exact ⟨D, h1, h2, fun x => by rw [← hg x]; exact h3 x⟩
theorem MapW.kept {w w' : World} {b n : Nat} {f : Int → Int} (h : MapW w b n f) {row : Option Nat} (hg : w.grownBy w' row) (hne : some b ≠ row) : MapW w' b n f := by
  obtain ⟨D, h1, h2, h3⟩ := h
  exact ⟨D, h1.kept hg hne, h2, h3⟩
theorem MapW.draws {w : World} {b n : Nat} {f : Int → Int} (h : MapW w b n f) (m : Nat) : MapW (w.drewN m) b n f := h
theorem MapW.look {w : World} {b n : Nat} {f : Int → Int} (h : MapW w b n f) {x : Int} (hx : (Lit.int .i64 x).wf = true) : (Instr.lookup 64 (.map (some b)) (.int .i64 x) false).run Try.prog w = .ok (.int .i64 (f x)) w := by
  obtain ⟨D, h1, _, h3⟩ := h
  obtain ⟨c, hr, hv, _⟩ := h1.lookup_int keyedI Try.underlying64 Try.underlying3 (zeroI w) (Maps.keyOf_int_mk Try.underlying3 hx)
  rw [h3 x] at hv
  injection hv with hv
  injection hv with _ hv
  rw [hr, hv]
section
variable {w : World} {ops : Array Oper} {rest : List Oper} {o : Oper} {a : Act} {Q : Exit → Act → World → Prop}
theorem wpList_mapPutI (hg : o.guard = none) (m x v : Operand) (hop : o.op = Op.mapUpdate 64 m x v) (b n : Nat) (f : Int → Int) (k y : Int) (hm : a.eval m = .map (some b)) (h : MapW w b n f) (hx : a.eval x = .int .i64 k) (hk : (Lit.int .i64 k).wf = true)
    (hv : a.eval v = .int .i64 y) (hy : (Lit.int .i64 y).wf = true) (hn : n < maxLen) (hK : ∀ w', MapW w' b (n + 1) (fun z => if z = k then y else f z) → w.grownBy w' (some b) → wpList Try.prog ops Q rest (a.put o.dst undef) w') : wpList Try.prog ops Q (o :: rest) a w := by
  obtain ⟨D, h1, h2, h3⟩ := h
  refine wpList_mapUpdate_own w hg m x v 64 hop 3 3 keyedI Try.underlying64 _ b n D hm h1 hn _ _ (.int .i64 k) hx hv (Maps.keyOf_int_mk Try.underlying3 hk) (.lit (.int .i64 y)) [] (plainElem_int Try.underlying3 hy) fun w' h4 h5 => hK w' ⟨_, h4, h2.put _ _, fun z => ?_⟩ h5
  by_cases e : z = k
  · subst e
    rw [Maps.atKey_put_same h2 (show WideAt.IsKeyLit (.int .i64 z) from trivial)]
    show _ = DataW.lit (.int .i64 (if z = z then y else f z))
    rw [if_pos rfl]
  · rw [Maps.atKey_put_other (fun h => e (by injection h)), h3 z]
    show _ = DataW.lit (.int .i64 (if z = k then y else f z))
    rw [if_neg e]
end
end Go.Proofs.Ytmmhchhekmcihaa
