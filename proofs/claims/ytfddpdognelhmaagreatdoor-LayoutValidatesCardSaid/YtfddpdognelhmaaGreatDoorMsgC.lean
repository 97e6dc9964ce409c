/-
  Contract of Same of messages (the program's).
-/
import Derived.Test.YtfddpdognelhmaaGreatDoorMsgB
namespace Go.Proofs.YtfddpdognelhmaaGreatDoor
open Go.RowKit

def smB (m n : Msg) : Bool := (m.kind == n.kind) && ((m.act == n.act) && ((m.port.toList == n.port.toList) && ((m.num == n.num) && (lgE6 m.inn n.inn && (lgE6 m.out n.out && (decide (m.onw = n.onw) && (plE m.pl m.pa m.ps n.pl n.pa n.ps && ((m.cnt == n.cnt) && ((m.load == n.load) && ((m.sta == n.sta) && ((m.sq == n.sq) && ((m.wgt == n.wgt) && ((m.sur.toList == n.sur.toList) && ((m.giv.toList == n.giv.toList) && ((m.exc == n.exc) && ((m.node.toList == n.node.toList) && (decide (m.lst = n.lst))))))))))))))))))
theorem smB_dec (m n : Msg) : smB m n = sameM m n := by
  unfold smB sameM
  rw [toList_eq, toList_eq, toList_eq, toList_eq, Bool.eq_iff_iff]
  simp only [Bool.and_eq_true, decide_eq_true_eq, beq_iff_eq, lgE6_iff, plE_iff]
  rw [Msg.ext_iff']

theorem box_cell {w : World} {cs cs' : Array Value} {t t' : TypeId} {k : Nat} {v : Value} (h : cs[k]? = some v) : ((w.alloc (.cells cs t)).alloc (.cells cs' t')).cell? ⟨w.heap.size, k, none⟩ = some v := by
  refine kept ((Below.refl _ (w.alloc (.cells cs t))).alloc (Nat.le_refl _) _) ?_
  rw [Lib.cell_of_heap (heap_alloc_new w _)]
  exact h
theorem box_cell2 {w : World} {cs cs' : Array Value} {t t' : TypeId} {k : Nat} {v : Value} (h : cs'[k]? = some v) : ((w.alloc (.cells cs t)).alloc (.cells cs' t')).cell? ⟨w.heap.size + 1, k, none⟩ = some v := by
  have e := heap_alloc_new (w.alloc (.cells cs t)) (.cells cs' t')
  rw [World.size_alloc] at e
  rw [Lib.cell_of_heap e]
  exact h

end Go.Proofs.YtfddpdognelhmaaGreatDoor
