/-
  A region that draws its order, whose operations read and whose callees may make memory of their own: one walk serves every order. 'After W': a world in which every block of W is as it was.
-/
import Derived.Test.YtaimmohfcjoclaaFormat
import Derived.BigQuiet
namespace Go.Proofs.Ytaimmohfcjoclaa
open Go.RowKit

structure After (W : World) where
  to : World
  is : Below W.heap.size W to

instance (W : World) : Nonempty (After W) := ⟨⟨W, Below.refl _ _⟩⟩

theorem wp_region_after {P : Program} {id : Nat} {Q : Exit → Act → World → Prop} {a : Act} {W : World} {l : List Oper} (hm : P.follows .mixedOrders = true) (hB : Region.lexB .any l.toArray = true)
    (h : wpQuiet P l.toArray (fun w' => ∃ t : After W, w' = t.to) (fun a' => ∀ w', (∃ t : After W, w' = t.to) → Q .normal a' w') l a) : (Code.region id l.toArray true).wp P Q a W :=
  wp_region_quiet (C := fun w' => ∃ t : After W, w' = t.to) hm hB ⟨⟨W.drew, (Below.refl _ _).drew⟩, rfl⟩ (by simpa using h)

theorem After.call {P : Program} {f : FuncId} {args : Array Value} {W : World} {t : After W} {v : Value} (h : Calls P f args t.to fun e w' => e = .returned v ∧ Below t.to.heap.size t.to w') :
    Calls P f args t.to fun e w'' => e = .returned v ∧ ∃ t' : After W, w'' = t'.to :=
  h.mono fun _ w' ⟨he, hb⟩ => ⟨he, ⟨w', onward t.is hb⟩, rfl⟩
theorem After.same {P : Program} {f : FuncId} {args : Array Value} {W : World} {t : After W} {v : Value} (h : Calls P f args t.to fun e w' => e = .returned v ∧ t.to = w') :
    Calls P f args t.to fun e w'' => e = .returned v ∧ ∃ t' : After W, w'' = t'.to :=
  h.mono fun _ _ ⟨he, hb⟩ => ⟨he, t, hb.symm⟩
/-- A cell of W in a later world. -/
theorem After.cell {W : World} {a : Addr} {v : Value} (h : W.cell? a = some v) (t : After W) : t.to.cell? a = some v := by
  rw [t.is.cell (World.block_lt_of_cell? W a h)]; exact h

theorem kept {w w1 : World} (hb : Below w.heap.size w w1) {a : Addr} {v : Value} (h : w.cell? a = some v) : w1.cell? a = some v := by
  rw [hb.cell (World.block_lt_of_cell? w a h)]; exact h
theorem frz {w w1 : World} (hb : Below w.heap.size w w1) {a : Addr} (ha : a.block < w.heap.size) (h : w.frozen? a = false) : w1.frozen? a = false := by
  rw [hb.frozen ha]; exact h
theorem draws {B : Nat} {a w : World} (h : Below B a w) (n : Nat) : Below B a (w.drewN n) := ⟨h.os, h.tape, h.output, h.size, h.block⟩
theorem hide {p : Prop} (h : p) : Hid p := h
theorem unhide {p : Prop} (h : Hid p) : p := h

/-- Three cells of one block. -/
def Three (w : World) (b : Nat) (l a s : Int) : Prop := w.cell? ⟨b, 0, none⟩ = some (.int .i64 l) ∧ w.cell? ⟨b, 1, none⟩ = some (.int .i64 a) ∧ w.cell? ⟨b, 2, none⟩ = some (.int .i64 s)
theorem Three.keep {w w1 : World} {b : Nat} {l a s : Int} (h : Three w b l a s) (hb : Below w.heap.size w w1) : Three w1 b l a s := ⟨kept hb h.1, kept hb h.2.1, kept hb h.2.2⟩
theorem Three.new (w : World) (l a s : Int) (t : TypeId) : Three (w.alloc (.cells #[.int .i64 l, .int .i64 a, .int .i64 s] t)) w.heap.size l a s := ⟨by simp [go_sem], by simp [go_sem], by simp [go_sem]⟩
theorem Three.alloc {w : World} {b : Nat} {l a s : Int} (h : Three w b l a s) (o : Obj) : Three (w.alloc o) b l a s := h.keep ((Below.refl _ _).alloc (Nat.le_refl _) o)
theorem Three.drew {w : World} {b : Nat} {l a s : Int} (h : Three w b l a s) : Three w.drew b l a s := h
theorem below_new {w w1 : World} (hb : Below w.heap.size w w1) (o : Obj) : Below w.heap.size w (w1.alloc o) := hb.alloc hb.size o
end Go.Proofs.Ytaimmohfcjoclaa
