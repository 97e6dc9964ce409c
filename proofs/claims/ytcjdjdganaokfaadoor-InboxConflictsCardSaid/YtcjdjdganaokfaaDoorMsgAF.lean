/-
  Regions that draw their order, operation by operation: only one may come up; a whole message loaded under a condition.
-/
import Derived.Test.YtcjdjdganaokfaaDoorMsgU
import Derived.OrdersHeld
namespace Go.Proofs.YtcjdjdganaokfaaDoor
open Go.RowKit

section
variable {P : Program} {ops : Array Oper} {Q : Exit → Act → World → Prop} {md : Region.Mode} {S : World → Prop}
/-- Only one operation may come up. -/
theorem wpAnyH_one {i : Nat} {o : Oper} {fuel : Nat} {listed : Array Bool} {a : Act} {w : World} (hr : Region.ready md ops listed = [i]) (ho : ops[i]? = some o)
    (h : ∀ K' : Act → World → Prop, (∀ a w, (S w ∧ wpAnyH P md ops Q S fuel (listed.setIfInBounds i true) a w) → K' a w) → if Region.wanted o (yielded ops a.tmps) = true then Oper.wp P o a w K' Q else K' (a.put o.dst undef) w) :
    wpAnyH P md ops Q S (fuel + 1) listed a w := wpAnyH_all hr (by simp) (fun j hj => by cases List.mem_singleton.1 hj; exact wpOp_step ho h)
set_option maxRecDepth 100000 in
theorem yields_loadM {o : Oper} {a : Act} {t : TypeId} {g : Nat} {fr : Nat × Nat} {m : Msg} {A : Option Addr} {c : Nat} {L : Option Addr} {d : Nat} (x : Operand) (ho : o.op = .load 32 x)
    (hx : a.eval x = .pointer (some ⟨g, 0, none⟩)) (hw : Region.wanted o (yielded ops a.tmps) = true) (hS : ∀ w, S w → w.heap[g]? = some (.cells (msgL m A c L d) t fr)) : YieldsIf Tryd.prog ops S o (msgV m A c L d) a := by
  refine .inl ⟨hw, fun w hs => ?_⟩
  unfold execOp
  simp only [ho, hx, Instr.loadAt, Instr.sureAddr, Sem.run_bind, Sem.run_pure, Result.andThen_ok, run_loadVar_row w g t _ _ fr _ (hS w hs) undM' undM infoM]
end
end Go.Proofs.YtcjdjdganaokfaaDoor
