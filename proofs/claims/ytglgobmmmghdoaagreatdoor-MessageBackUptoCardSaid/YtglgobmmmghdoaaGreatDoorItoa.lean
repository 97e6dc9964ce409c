/-
  Contract of strconv.Itoa at numbers of up to four digits.
-/
import Derived.Test.YtglgobmmmghdoaaGreatDoorMsgA
import Derived.Test.YtglgobmmmghdoaaGreatDoorShelf
namespace Go.Proofs.YtglgobmmmghdoaaGreatDoor
open Go.RowKit

/-- The program's table of powers of ten, as the library's laws want it. -/
def Pow10 (w : World) : Prop := Lib.TabIs Tryz.prog w "internal/strconv.uint64pow10" .u64 Lib.pow10Tab
theorem Pow10.keep {w w1 : World} (h : Pow10 w) (hb : Below w.heap.size w w1) (hg : 3 < w.heap.size) : Pow10 w1 := by
  have hn : Tryz.prog.globalNamed "internal/strconv.uint64pow10" = some 3 := by kernel_rfl
  unfold Pow10 Lib.TabIs at *
  rw [← h]
  unfold World.var?
  rw [hn]
  simp only [Option.bind_some]
  rw [hb.block _ hg]
theorem grow_below (w : World) (k : Nat) (os : Array Obj) : Below w.heap.size w (Go.Sort.grow (w.drewN k) os) :=
  ⟨rfl, rfl, rfl, by simp [Go.Sort.grow], fun i hi => by simp [Go.Sort.grow, Array.getElem?_append, hi]⟩
theorem itoa_any (n : Int) (w : World) (hP : Pow10 w) (h0 : 0 ≤ n) (h1 : n ≤ 9999) :
    Calls Tryz.prog 43 #[.int .i64 n] w fun e w' => e = .returned (.string (decS n)) ∧ Below w.heap.size w w' := by
  refine (Tryz.strconv_Itoa n (by omega) (by omega) w hP).mono ?_
  rintro e w' ⟨rfl, k, os, rfl⟩
  rw [itoa_dec h0 h1]
  exact ⟨rfl, grow_below w k os⟩
end Go.Proofs.YtglgobmmmghdoaaGreatDoor
