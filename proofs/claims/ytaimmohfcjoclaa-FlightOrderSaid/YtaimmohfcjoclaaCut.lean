/-
  Contracts of strings.Cut at the separator '/', whatever the string's length.
-/
import Derived.Test.YtaimmohfcjoclaaAscii
import Derived.Test.YtaimmohfcjoclaaAfter
import Derived.Test.YtaimmohfcjoclaaMathG
import Derived.Lib.Bytealg
import Derived.Lib.IndexLaws
import Derived.Laws.StandIn
import Derived.BigCall
import Derived.BigQuiet
namespace Go.Proofs.Ytaimmohfcjoclaa
open Go.RowKit

theorem ixb_any (s : ByteArray) (c : Int) (w : World) :
    Calls Try.prog 87 #[.string s, .int .u8 c] w fun e w' => e = .returned (.int .i64 (Lib.indexByte s.data.toList c.toNat.toUInt8)) ∧ w = w' := by
  go_enter Try.func87, Try.ntmps87
  go_wp2
  rw [run_callFunc_extern Try.func91 (by kernel_rfl) (by kernel_rfl) (by kernel_rfl) (e := Extern.BytealgIndexByte.indexByte) (by kernel_rfl), Lib.run_indexByteString]
  simp only [Result.andThen]
  rw [Oper.upon_value]
  go_wp2
  go_ret
  exact ⟨rfl, rfl⟩

set_option maxHeartbeats 400000 in
theorem index_any (s : ByteArray) (w : World) :
    Calls Try.prog 86 #[.string s, .string ⟨#[47]⟩] w fun e w' => e = .returned (.int .i64 (cutI s)) ∧ w = w' := by
  go_enter Try.func86, Try.ntmps86
  go_wp2_with (go_at_call 87; refine (ixb_any _ _ _).mono ?_; rintro e w' ⟨rfl, rfl⟩)
  · have h : ([47] == s.toList) = true := by assumption
    go_ret
    refine ⟨ret_int ?_, rfl⟩
    have e : s.data.toList = [47] := by rw [← ByteArray.toList_eq]; exact (beq_iff_eq.1 h).symm
    unfold cutI
    rw [e]
    rfl
  · go_ret
    exact ⟨rfl, rfl⟩

set_option maxHeartbeats 400000 in
theorem lcut_miss (s : ByteArray) (w : World) (h : cutI s = -1) :
    Calls Try.prog 82 #[.string s, .string ⟨#[47]⟩] w fun e w' => e = .returned (.tuple #[.string s, .string ByteArray.empty, .bool false]) ∧ Below w.heap.size w w' := by
  go_enter Try.func82, Try.ntmps82
  go_wp2_with (go_at_call 86; refine (index_any s _).mono ?_; rw [h]; rintro e w' ⟨rfl, rfl⟩)
  go_returns
  exact ⟨rfl, Below.refl _ _⟩

set_option maxHeartbeats 400000 in
theorem lcut_hit (s : ByteArray) (k : Nat) (w : World) (hs : s.size ≤ maxLen) (h : cutI s = (k : Int)) (hk : k + 1 ≤ s.size) :
    Calls Try.prog 82 #[.string s, .string ⟨#[47]⟩] w fun e w' => e = .returned (.tuple #[.string (s.extract 0 k), .string (s.extract (k + 1) s.size), .bool true]) ∧ Below w.heap.size w w' := by
  unfold maxLen at hs
  have c1 : (0 : Int) ≤ (k : Int) := by omega
  have c2 : (k : Int) ≤ (s.size : Int) := by omega
  have c3 : (0 : Int) ≤ (k : Int) + 1 := by omega
  have c4 : (k : Int) + 1 ≤ (s.size : Int) := by omega
  go_enter Try.func82, Try.ntmps82
  go_wp2_with (go_at_call 86; refine (index_any s _).mono ?_; rw [h]; rintro e w' ⟨rfl, rfl⟩)
  go_quiet (fail)
  go_wp2
  go_returns
  exact ⟨rfl, draws (Below.refl _ _) _⟩

set_option maxHeartbeats 400000 in
theorem cut_miss (s : ByteArray) (w : World) (h : cutI s = -1) :
    Calls Try.prog 67 #[.string s, .string ⟨#[47]⟩] w fun e w' => e = .returned (.tuple #[.string s, .string ByteArray.empty, .bool false]) ∧ Below w.heap.size w w' := by
  go_enter Try.func67, Try.ntmps67
  go_wp2_with (go_at_call 82; refine (lcut_miss s _ h).mono ?_; rintro e w' ⟨rfl, hb⟩)
  go_returns
  exact ⟨rfl, hb⟩

set_option maxHeartbeats 400000 in
theorem cut_hit (s : ByteArray) (k : Nat) (w : World) (hs : s.size ≤ maxLen) (h : cutI s = (k : Int)) (hk : k + 1 ≤ s.size) :
    Calls Try.prog 67 #[.string s, .string ⟨#[47]⟩] w fun e w' => e = .returned (.tuple #[.string (s.extract 0 k), .string (s.extract (k + 1) s.size), .bool true]) ∧ Below w.heap.size w w' := by
  go_enter Try.func67, Try.ntmps67
  go_wp2_with (go_at_call 82; refine (lcut_hit s k _ hs h hk).mono ?_; rintro e w' ⟨rfl, hb⟩)
  go_returns
  exact ⟨rfl, hb⟩
end Go.Proofs.Ytaimmohfcjoclaa
