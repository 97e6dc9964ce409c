/-
  Contracts of New, and of numbered; numbered messages are valid.
-/
import Derived.Test.YtcjdjdganaokfaaDoorInbI
namespace Go.Proofs.YtcjdjdganaokfaaDoor
open Go.RowKit

set_option maxRecDepth 100000 in
theorem inew_ok (win : Int) (w : World) (h1 : 1 ≤ win) (h8 : win ≤ 8) :
    Calls Tryd.prog 14 #[.int .i64 win] w fun e w' => e = .returned (.tuple #[ibV win none 0 0, .int .i64 0]) ∧ Below w.heap.size w w' := by
  have n1 : ¬ win < 1 := by omega
  have n8 : ¬ 8 < win := by omega
  have b1 := (Below.refl w.heap.size w).alloc (Nat.le_refl _) (ibO win none 0 0)
  have hR := heap_alloc_new w (ibO win none 0 0)
  have r0 := Lib.cell_of_heap hR 0
  have r1 := Lib.cell_of_heap hR 1
  have HB := hide b1
  clear b1 hR
  go_enter Tryd.func14, Tryd.ntmps14
  go_wp2_with (refine wpList_storeI_new (g := w.heap.size) rfl win none 0 0 rfl _ _ rfl rfl rfl rfl ?_)
  refine bodyPost_ret (v := .tuple #[ibV win none 0 0, .int .i64 0]) (by simp [results, go_sem, r0, r1]) rfl ?_
  exact ⟨rfl, unhide HB⟩

/-- The message with a number of a sender. -/
def nbd (p : ByteArray) (n : Int) : Msg := { msg0 with kind := 3, port := p, num := n, pa := 117, ps := n, cnt := 1, node := ⟨#[65]⟩ }
def ARN : ByteArray := ⟨#[65, 82, 78]⟩
def CPH : ByteArray := ⟨#[67, 80, 72]⟩
theorem nbd_arn (n : Int) (h1 : 1 ≤ n) (h2 : n ≤ 12) : valE (nbd ARN n) = 0 := by
  have : n = 1 ∨ n = 2 ∨ n = 3 ∨ n = 4 ∨ n = 5 ∨ n = 6 ∨ n = 7 ∨ n = 8 ∨ n = 9 ∨ n = 10 ∨ n = 11 ∨ n = 12 := by omega
  rcases this with rfl | rfl | rfl | rfl | rfl | rfl | rfl | rfl | rfl | rfl | rfl | rfl <;> decide +kernel
theorem nbd_cph (n : Int) (h1 : 1 ≤ n) (h2 : n ≤ 12) : valE (nbd CPH n) = 0 := by
  have : n = 1 ∨ n = 2 ∨ n = 3 ∨ n = 4 ∨ n = 5 ∨ n = 6 ∨ n = 7 ∨ n = 8 ∨ n = 9 ∨ n = 10 ∨ n = 11 ∨ n = 12 := by omega
  rcases this with rfl | rfl | rfl | rfl | rfl | rfl | rfl | rfl | rfl | rfl | rfl | rfl <;> decide +kernel
abbrev nbS (p : ByteArray) (n : Int) : MsS := ⟨nbd p n, none, 0, none, 0⟩
theorem nbS_lies (b : Nat) (w : World) (p : ByteArray) (n : Int) : (nbS p n).Lies b w := ⟨LegsIn.nil _ _ _, NumsIn.nil _ _ _⟩

set_option maxHeartbeats 1000000 in
set_option maxRecDepth 100000 in
theorem nbd_any (p : ByteArray) (n : Int) (w : World) :
    Calls Tryd.prog 19 #[.string p, .int .i64 n] w fun e w' => e = .returned (nbS p n).v ∧ Below w.heap.size w w' := by
  have b1 := (Below.refl w.heap.size w).alloc (Nat.le_refl _) (.cells (nbS p n).arr 32)
  have hR := heap_alloc_new w (.cells (nbS p n).arr 32)
  have HB := hide b1
  have HR := hide hR
  clear b1 hR
  go_enter Tryd.func19, Tryd.ntmps19
  go_wp2_with (refine wpList_storeM_new (g := w.heap.size) rfl (nbd p n) none 0 none 0 rfl _ _ rfl rfl rfl rfl ?_)
  exact bodyPost_ret (results_cell_row rfl _ _ w.heap.size _ _ _ _ rfl (unhide HR) undM' undM infoM) rfl ⟨rfl, unhide HB⟩
end Go.Proofs.YtcjdjdganaokfaaDoor
