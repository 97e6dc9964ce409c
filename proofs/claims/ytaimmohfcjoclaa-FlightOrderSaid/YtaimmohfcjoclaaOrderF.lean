/-
  Contracts of the order of flights: cmp.Compare of strings, cmp.Or, Compare (both).
-/
import Derived.Test.YtaimmohfcjoclaaDesigR
namespace Go.Proofs.Ytaimmohfcjoclaa
open Go.RowKit

set_option maxHeartbeats 400000 in
theorem scmp_any (a b : ByteArray) (w : World) :
    Calls Try.prog 75 #[.string a, .string b] w fun e w' => e = .returned (.int .i64 (sgnS a b)) ∧ w = w' := by
  cases h1 : Op.bytesLess a.toList b.toList <;> cases h2 : (a.toList == b.toList)
  all_goals
    go_enter Try.func75, Try.ntmps75
    go_wp2
  all_goals
    go_ret
    refine ⟨ret_int ?_, rfl⟩
    unfold sgnS
    rw [h1, h2]
    rfl

set_option maxHeartbeats 400000 in
theorem or_any (b : Nat) (x y z t : Int) (w : World) (h0 : w.cell? ⟨b, 0, none⟩ = some (.int .i64 x)) (h1 : w.cell? ⟨b, 1, none⟩ = some (.int .i64 y)) (h2 : w.cell? ⟨b, 2, none⟩ = some (.int .i64 z)) (h3 : w.cell? ⟨b, 3, none⟩ = some (.int .i64 t)) :
    Calls Try.prog 74 #[.slice (some ⟨b, 0, none⟩) 4 4] w fun e w' => e = .returned (.int .i64 (or4 x y z t)) ∧ w = w' := by
  cases e0 : (x != 0) <;> cases e1 : (y != 0) <;> cases e2 : (z != 0) <;> cases e3 : (t != 0)
  all_goals
    go_enter Try.func74, Try.ntmps74
    go_wp2_with fail
    go_rounds 5
    go_ret
    refine ⟨ret_int ?_, rfl⟩
    simp only [bne_iff_ne, ne_eq, bne_eq_false_iff_eq] at e0 e1 e2 e3
    unfold or4
    simp [*]
end Go.Proofs.Ytaimmohfcjoclaa
