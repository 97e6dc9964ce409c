/-
  Plain mathematics: what Parse comes to, as functions on byte strings.
-/
import Derived.Test.YtaimmohfcjoclaaMath
namespace Go.Proofs.Ytaimmohfcjoclaa
/-- What Parse returns: Lead, Airline, Serial, and the error. -/
def pForm (s : ByteArray) : Bool := decide (s.size = 10) && allDig s.data.toList
def pL0 (s : ByteArray) : Int := valN (s.extract 0 1).data.toList
def pA0 (s : ByteArray) : Int := valN (s.extract 1 4).data.toList
def pS0 (s : ByteArray) : Int := valN (s.extract 4 s.size).data.toList
def pOk (s : ByteArray) : Bool := pForm s && vld (pL0 s) (pA0 s) (pS0 s)
def pL (s : ByteArray) : Int := if pOk s then pL0 s else 0
def pA (s : ByteArray) : Int := if pOk s then pA0 s else 0
def pS (s : ByteArray) : Int := if pOk s then pS0 s else 0
def pE (s : ByteArray) : Int := if pForm s then (if pOk s then 0 else 1) else 3

theorem allDig_ext (s : ByteArray) (a b : Nat) (h : allDig s.data.toList = true) : allDig (s.extract a b).data.toList = true := by
  unfold allDig at *
  rw [List.all_eq_true] at *
  intro x hx
  apply h
  have e : (s.extract a b).data.toList = (s.data.toList.drop a).take (b - a) := by
    rw [ByteArray.data_extract, Array.toList_extract]
  rw [e] at hx
  exact List.mem_of_mem_drop (List.mem_of_mem_take hx)
theorem size_ext (s : ByteArray) (a b : Nat) : (s.extract a b).size = min b s.size - a := by simp

theorem pForm_yes {s : ByteArray} (h : s.size = 10) (hd : allDig s.data.toList = true) : pForm s = true := by unfold pForm; rw [hd]; simp [h]
theorem pForm_no1 {s : ByteArray} (h : s.size ≠ 10) : pForm s = false := by unfold pForm; simp [h]
theorem pForm_no2 {s : ByteArray} (hd : allDig s.data.toList = false) : pForm s = false := by unfold pForm; rw [hd]; simp
theorem p_no {s : ByteArray} (h : pForm s = false) : pL s = 0 ∧ pA s = 0 ∧ pS s = 0 ∧ pE s = 3 := by
  have h1 : pOk s = false := by unfold pOk; rw [h]; rfl
  unfold pL pA pS pE; rw [h1, h]; simp
theorem p_range {s : ByteArray} (h : pForm s = true) (hv : vld (pL0 s) (pA0 s) (pS0 s) = false) : pL s = 0 ∧ pA s = 0 ∧ pS s = 0 ∧ pE s = 1 := by
  have h1 : pOk s = false := by unfold pOk; rw [h, hv]; rfl
  unfold pL pA pS pE; rw [h1, h]; simp
theorem p_yes {s : ByteArray} (h : pForm s = true) (hv : vld (pL0 s) (pA0 s) (pS0 s) = true) : pL s = pL0 s ∧ pA s = pA0 s ∧ pS s = pS0 s ∧ pE s = 0 := by
  have h1 : pOk s = true := by unfold pOk; rw [h, hv]; rfl
  unfold pL pA pS pE; rw [h1, h]; simp
end Go.Proofs.Ytaimmohfcjoclaa
