/-
  Contract of slices.Chunk of integers, in pieces of eight: its closure hands on the pieces in their order.
-/
import Derived.RangeFuncNested
import Derived.RangeFuncBound
import Derived.RangeFuncCalls
import Derived.RangeFuncLeaves
import Derived.RangeFuncBox
import Derived.Shelf.Abstract
import Derived.Shelf.RegionOpen
import Derived.WalkKit
import Derived.OwnWalkIn
import Derived.TacticsInMore
import Derived.LoopNIn
import Derived.LoopIn
import Derived.Test.YtglgobmmmghdoaaGreatDoorMsgU
import Derived.Test.YtglgobmmmghdoaaGreatDoorKpX
namespace Go.Proofs.YtglgobmmmghdoaaGreatDoor
open Go.RowKit Go.Shelf
attribute [local go_sem] Oper.semAt_some

/-- The pieces: how many, and each. -/
def nCh (len : Nat) : Nat := (len + 7) / 8
def chN (len k : Nat) : Nat := min 8 (len - 8 * k)
def chV (b off len k : Nat) : Value := .slice (some ⟨b, off + 8 * k, none⟩) (chN len k) (chN len k)

set_option maxRecDepth 100000 in
set_option maxHeartbeats 4000000 in
theorem chunk1_in (F : Fence) (n : Nat) (hf : F.fn 92) (hro : F.round = none) (hn : 1 ≤ n) (y Bs Bn B0 n₀ b off len cap : Nat) (hlen : len ≤ 1000) (hcap : len ≤ cap) (hs : Bs < n₀) (hs0 : Bs ≠ B0) (hnn : Bn < n₀) (hn0 : Bn ≠ B0) (J Jx : List Nat → World → Prop) (hJ : ∀ pre (A B : World), J pre A → A.grownBy B none → J pre B)
    (hY : ∀ pre x W, J pre W → pre.length < nCh len → YieldAt F (n - 1) Tryz.prog y #[chV b off len x] W fun e W' =>
      (e = .returned (.bool true) ∧ J (pre ++ [x]) W' ∧ KpX B0 n₀ W W') ∨ (e = .returned (.bool false) ∧ Jx (pre ++ [x]) W'))
    (W : World) (hBs : W.cell? ⟨Bs, 0, none⟩ = some (.slice (some ⟨b, off, none⟩) len cap)) (hBn : W.cell? ⟨Bn, 0, none⟩ = some (.int .i64 8)) (h0 : J [] W) :
    CallsIn F n Tryz.prog 92 #[.func (.yield y) #[] #[], .pointer (some ⟨Bs, 0, none⟩), .pointer (some ⟨Bn, 0, none⟩)] W fun e W' => (∃ v, e = .returned v) ∧
      ((∃ ys, ys = List.range (nCh len) ∧ J ys W') ∨ (∃ pre, True ∧ Jx pre W')) := by
  refine callsIn_of_wp Tryz.func92 rfl hf ?_ hro
  simp only [Tryz.ntmps92, List.size_toArray, List.length_cons, List.length_nil, Nat.reduceAdd, Nat.reduceSub, Array.replicate_succ, Array.replicate_zero, List.push_toArray, List.append_toArray, List.nil_append, List.cons_append]
  gi_wp2
  gi_loopw [4] (fun i wr => ∃ k : Nat, k ≤ nCh len ∧ i = .int .i64 ((8 * k : Nat) : Int) ∧ J (List.range k) wr ∧ KpX B0 n₀ W wr)
    (fun i _ => 1010 - (intOf i).toNat)
  case atStart => exact ⟨0, Nat.zero_le _, rfl, h0, kpX_refl⟩
  case round =>
    obtain ⟨k, hk, rfl, hJs, hnx⟩ := hrel
    have c1 := (hnx.cell hs hs0).trans hBs
    have c2 := (hnx.cell hnn hn0).trans hBn
    by_cases hlt : k < nCh len
    · have hl8 : 8 * k < len := by unfold nCh at hlt; omega
      have hl8' : ((8 * k : Nat) : Int) < (len : Int) := by omega
      have k0 : (0 : Int) ≤ ((8 * k : Nat) : Int) := by omega
      have kc : ((8 * k : Nat) : Int) ≤ (cap : Int) := by omega
      have kn : ¬ 8 * k = cap := by omega
      gi_wp2
      gi_region
      all_goals
        have hmin : min (8 : Int) ((len - 8 * k : Nat) : Int) = ((chN len k : Nat) : Int) := by unfold chN; omega
        have hJ2 := hJ _ wr wr.drew hJs (World.grownBy.trans_drew (World.grownBy.refl wr none))
        have c1' : wr.drew.cell? ⟨Bs, 0, none⟩ = some (.slice (some ⟨b, off, none⟩) len cap) := c1
        have c2' : wr.drew.cell? ⟨Bn, 0, none⟩ = some (.int .i64 8) := c2
        have hnx' : KpX B0 n₀ W wr.drew := hnx
        rw [hmin]
        clear hmin c1 c2 hnx hJs
        obtain ⟨fn, tmps, assign, body, hy, hR⟩ := hY _ k wr.drew hJ2 (by rw [List.length_range]; exact hlt)
        unfold chV at hy
        have hN : chN len k ≤ 8 := by unfold chN; omega
        have hN1 : 1 ≤ chN len k := by unfold chN; omega
        have hN3 : ¬ chN len k = 0 := by omega
        have hN2 : 8 * k + chN len k ≤ len := by unfold chN; omega
        generalize wr.drew = wq at *
        generalize hM : chN len k = M at *
        have m0 : (1 : Int) ≤ (M : Int) := by omega
        have m1 : ((8 * k : Nat) : Int) + (M : Int) ≤ (cap : Int) := by omega
        gi_wp2
        refine hR.mono ?_
        rintro e W3 (⟨rfl, hJ3, hk3⟩ | ⟨rfl, hJx3⟩)
        · have d1 := (hk3.cell hs hs0).trans c1'
          have d2 := (hk3.cell hnn hn0).trans c2'
          gi_wp2
          go_roundw
          case rel => exact ⟨k + 1, by omega, by go_num, by rw [List.range_succ]; exact hJ3, kpX_t hnx' hk3⟩
          case measure => simp [intOf]; omega
        · gi_wp2
          refine bodyPost_ret (results_none rfl _ _ _) rfl ?_
          exact ⟨⟨_, rfl⟩, .inr ⟨_, trivial, hJx3⟩⟩
    · have hl8 : ¬ ((8 * k : Nat) : Int) < (len : Int) := by unfold nCh at hlt; omega
      obtain rfl : k = nCh len := by omega
      gi_wp2
      go_end0
      first | exact hJs | exact ⟨⟨_, rfl⟩, .inl hJs⟩ | exact ⟨⟨_, rfl⟩, .inl ⟨_, rfl, hJs⟩⟩

set_option maxRecDepth 100000 in
set_option maxHeartbeats 1000000 in
/-- Nothing to hand on. -/
theorem chunk1_zero (F : Fence) (n : Nat) (hf : F.fn 92) (hro : F.round = none) (y Bs Bn cap : Nat) (A : Option Addr) (J : List Nat → World → Prop) (W : World) (hBs : W.cell? ⟨Bs, 0, none⟩ = some (.slice A 0 cap)) (h0 : J [] W) :
    CallsIn F n Tryz.prog 92 #[.func (.yield y) #[] #[], .pointer (some ⟨Bs, 0, none⟩), .pointer (some ⟨Bn, 0, none⟩)] W fun e W' => (∃ v, e = .returned v) ∧ J [] W' := by
  refine callsIn_of_wp Tryz.func92 rfl hf ?_ hro
  simp only [Tryz.ntmps92, List.size_toArray, List.length_cons, List.length_nil, Nat.reduceAdd, Nat.reduceSub, Array.replicate_succ, Array.replicate_zero, List.push_toArray, List.append_toArray, List.nil_append, List.cons_append]
  gi_wp2
  gi_loopw [4] (fun i wr => i = .int .i64 0 ∧ wr.cell? ⟨Bs, 0, none⟩ = some (.slice A 0 cap) ∧ J [] wr) (fun _ _ => 0)
  case atStart => exact ⟨rfl, hBs, h0⟩
  case round =>
    obtain ⟨rfl, hb, hJs⟩ := hrel
    gi_wp2
    go_end0
    first | exact hJs | exact ⟨⟨_, rfl⟩, hJs⟩

set_option maxHeartbeats 1000000 in
/-- slices.Chunk: the slice and the number are boxed; the function value captures the boxes. -/
theorem chunk_in (F : Fence) (n : Nat) (hf : F.fn 76) (hro : F.round = none) (a : Option Addr) (len cap : Nat) (w : World) :
    CallsIn F n Tryz.prog 76 #[.slice a len cap, .int .i64 8] w fun e w' => e = .returned (.func (.func 92) #[] #[.pointer (some ⟨w.heap.size, 0, none⟩), .pointer (some ⟨w.heap.size + 1, 0, none⟩)]) ∧ w' = (w.alloc (.cells #[.slice a len cap] 22)).alloc (.cells #[.int .i64 8] 3) := by
  refine callsIn_of_wp Tryz.func76 rfl hf ?_ hro
  simp only [Tryz.ntmps76, List.size_toArray, List.length_cons, List.length_nil, Nat.reduceAdd, Nat.reduceSub, Array.replicate_succ, Array.replicate_zero, List.push_toArray, List.append_toArray, List.nil_append, List.cons_append]
  gi_wp2
  go_ret
  exact ⟨rfl, rfl⟩

/-- What Chunk hands back stops, keeps all below n₀ but block B0, and hands on the pieces. -/
theorem chunk_stops (F : Fence) (n : Nat) (hf : F.fn 92) (hro : F.round = none) (hn : 1 ≤ n) (Bs Bn B0 n₀ len cap : Nat) (A : Option Addr) (b off : Nat) (hA : 0 < len → A = some ⟨b, off, none⟩) (hlen : len ≤ 1000) (hcap : len ≤ cap) (hs : Bs < n₀) (hs0 : Bs ≠ B0) (hnn : Bn < n₀) (hn0 : Bn ≠ B0)
    (w : World) (hsw : Bs < w.heap.size) (hnw : Bn < w.heap.size) (hBs : w.cell? ⟨Bs, 0, none⟩ = some (.slice A len cap)) (hBn : w.cell? ⟨Bn, 0, none⟩ = some (.int .i64 8)) :
    SeqStopsK F n Tryz.prog 92 #[.pointer (some ⟨Bs, 0, none⟩), .pointer (some ⟨Bn, 0, none⟩)] (fun k : Nat => #[chV b off len k]) (KpX B0 n₀) (fun ys => ys = List.range (nCh len)) (fun _ => True) (nCh len) w := fun l J Jx W hW hJ _ hY h0 => by
  have c1 := (hW.cell (p := ⟨Bs, 0, none⟩) hsw).trans hBs
  have c2 := (hW.cell (p := ⟨Bn, 0, none⟩) hnw).trans hBn
  rcases Nat.eq_zero_or_pos len with rfl | h
  · exact (chunk1_zero F n hf hro l Bs Bn cap A J W c1 h0).mono fun e W' ⟨he, hj⟩ => ⟨he, .inl ⟨_, rfl, hj⟩⟩
  · rw [hA h] at c1
    exact chunk1_in F n hf hro hn l Bs Bn B0 n₀ b off len cap hlen hcap hs hs0 hnn hn0 J Jx (fun pre A B hj hg => hJ pre A B none hj hg (fun r e => by cases e)) hY W c1 c2 h0
end Go.Proofs.YtglgobmmmghdoaaGreatDoor
