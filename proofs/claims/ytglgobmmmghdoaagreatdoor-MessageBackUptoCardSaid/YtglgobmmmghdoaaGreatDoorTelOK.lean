/-
  Valid telegrams: the contracts of Format, Parse and both Same where the answer is known.
-/
import Derived.Test.YtglgobmmmghdoaaGreatDoorTelY
import Derived.Test.YtglgobmmmghdoaaGreatDoorParD
import Derived.Test.YtglgobmmmghdoaaGreatDoorParU
import Derived.Test.YtglgobmmmghdoaaGreatDoorTelW
namespace Go.Proofs.YtglgobmmmghdoaaGreatDoor
open Go.RowKit

theorem ok_small {t : Tel} (h : telE t = 0) : SmallT t := by
  obtain ⟨h1, h2, h3⟩ := tel_valid h
  unfold telF at h1
  unfold telB at h2
  rw [Bool.and_eq_true, Bool.and_eq_true] at h1
  rw [Bool.and_eq_true, decide_eq_true_eq] at h2
  obtain ⟨k1, k2, k3⟩ := h1
  refine ⟨by omega, ?_, ?_, fun e he => ?_⟩
  · unfold letN at k1
    rw [Bool.and_eq_true, decide_eq_true_eq] at k1
    have := k1.1
    omega
  · have hl : t.change.toList.length = t.change.size := by rw [ByteArray.toList_eq]; simp
    unfold okCh chB at k2
    rw [Bool.or_eq_true, Bool.or_eq_true] at k2
    rcases k2 with k | k | k
    · have : t.change.toList = [] := by simpa using k
      rw [this] at hl; simp at hl; omega
    · have : t.change.toList = [67, 72, 71] := by simpa using k
      rw [this] at hl; simp at hl; omega
    · have : t.change.toList = [68, 69, 76] := by simpa using k
      rw [this] at hl; simp at hl; omega
  · have f := List.all_eq_true.1 k3 e he
    have g := List.all_eq_true.1 h2.2 e he
    unfold felB at f
    unfold belB at g
    rw [Bool.and_eq_true] at f
    rw [Bool.and_eq_true, decide_eq_true_eq] at g
    have f1 := f.1
    unfold letN at f1
    rw [Bool.and_eq_true, decide_eq_true_eq] at f1
    have := f1.1
    refine ⟨by omega, by omega, fun p hp => ?_⟩
    have := of_decide_eq_true (List.all_eq_true.1 g.2 p hp)
    omega

theorem format_ok (b : Nat) (t : Tel) (A : Option Addr) (c : Nat) (w : World) (he : telE t = 0) (h : ElsIn b w A t.els) :
    Calls Tryz.prog 9 #[.agg #[.string t.kind, .string t.change, .slice A t.els.length c]] w fun e w' => e = .returned (.tuple #[.string (telS t), .int .i64 0]) ∧ Below w.heap.size w w' := by
  have := format_tel b t A c w (ok_small he) h
  rw [he] at this
  exact this
theorem parse_ok (b : Nat) {t : Tel} (w : World) (he : telE t = 0) (hb : b < w.heap.size) :
    Calls Tryz.prog 10 #[.string (telS t)] w fun e w' => ∃ A c, e = .returned (.tuple #[.agg #[.string t.kind, .string t.change, .slice A t.els.length c], .int .i64 0, .int .i64 0]) ∧ ElsIn b w' A t.els ∧ Below w.heap.size w w' := by
  refine (tparse_any b (telS t) w hb).mono ?_
  rintro e w' ⟨A, c, he', hels, hbel⟩
  rw [parse_text he] at he' hels
  exact ⟨A, c, he', hels, hbel⟩
theorem same_ok (b : Nat) (t : Tel) (A A' : Option Addr) (c c' : Nat) (w : World) (hS : SmallT t) (h : ElsIn b w A t.els) (h' : ElsIn b w A' t.els) :
    Calls Tryz.prog 25 #[.agg #[.string t.kind, .string t.change, .slice A t.els.length c], .agg #[.string t.kind, .string t.change, .slice A' t.els.length c']] w fun e w' => e = .returned (.bool true) ∧ Below w.heap.size w w' := by
  have := same_tel b t t A A' c c' w hS h h'
  rw [sameT_iff.2 rfl] at this
  exact this
theorem rsame_ok (b : Nat) (t : Tel) (A A' : Option Addr) (c c' : Nat) (w : World) (hS : SmallT t) (h : ElsIn b w A t.els) (h' : ElsIn b w A' t.els) :
    Calls Tryz.prog 13 #[.agg #[.string t.kind, .string t.change, .slice A t.els.length c], .agg #[.string t.kind, .string t.change, .slice A' t.els.length c']] w fun e w' => e = .returned (.bool true) ∧ Below w.heap.size w w' := by
  have := rsame_any b t t A A' c c' w hS h h'
  rw [sameT_iff.2 rfl] at this
  exact this
end Go.Proofs.YtglgobmmmghdoaaGreatDoor
