/-
  TelegramBeginnings: the walk.
-/
import Derived.Test.YtmdjdhfchigekaaDoorTelO
namespace Go.Proofs.YtmdjdhfchigekaaDoor
open Go.RowKit

/-- How many line ends among the first k bytes. -/
def cntN (s : ByteArray) (k : Nat) : Nat := (s.data.toList.take k).count 10
theorem cntN_step {s : ByteArray} {k : Nat} (h : k < s.size) : cntN s (k + 1) = cntN s k + if ((s[k].toNat : Int) == 10) = true then 1 else 0 := by
  unfold cntN
  have h' : k < s.data.toList.length := by simpa using h
  rw [List.take_succ_eq_append_getElem h', List.count_append, List.count_singleton]
  have e : s.data.toList[k] = s[k] := rfl
  rw [e]
  by_cases c : s[k] = 10
  · rw [c]; rfl
  · have c1 : (s[k] == 10) = false := by rw [beq_eq_false_iff_ne]; exact c
    have c2 : ((s[k].toNat : Int) == 10) = false := by
      rw [beq_eq_false_iff_ne]
      intro h2
      apply c
      apply UInt8.toNat.inj
      have : s[k].toNat = 10 := by omega
      exact this
    rw [c1, c2]
theorem cntN_le (s : ByteArray) (k : Nat) : cntN s k ≤ s.size := by
  unfold cntN
  refine Nat.le_trans List.count_le_length ?_
  rw [List.length_take]
  have : s.data.toList.length = s.size := by simp
  omega

theorem begin_call {t : Tel} (h : telE t = 0) : ∃ S : ByteArray, telS t = S ∧ 0 < S.size ∧ S.size ≤ 2048 ∧ ∀ k, k < S.size → ∀ (b : Nat) (w : World), b < w.heap.size →
    Calls Tryd.prog 18 #[.string (S.extract 0 k)] w fun e w' => ∃ A c, e = .returned (.tuple #[.agg #[.string ByteArray.empty, .string ByteArray.empty, .slice A 0 c], .int .i64 (1 + (cntN S k : Int)), .int .i64 3]) ∧ Below w.heap.size w w' := by
  obtain ⟨h1, h2, h3⟩ := tel_valid h
  refine ⟨telS t, rfl, ?_, ?_, fun k hk b w hb => ?_⟩
  · rw [telS_0 h]
    show 0 < (telX t).toArray.size
    rw [List.size_toArray]; unfold telX endX; simp; omega
  · rw [telS_0 h]
    show (telX t).toArray.size ≤ 2048
    rw [List.size_toArray]; exact h3
  · have e1 : (telS t).size = (telX t).length := by
      rw [telS_0 h]
      show (telX t).toArray.size = _
      rw [List.size_toArray]
    have e2 : (telS t).extract 0 k = B ((telX t).take k) := by
      rw [telS_0 h]
      apply ByteArray.ext
      apply Array.toList_inj.1
      simp
    have e3 : cntN (telS t) k = ((telX t).take k).count 10 := by rw [telS_0 h]; rfl
    rw [e2, e3]
    refine (parse_any b _ w hb).mono ?_
    rintro e w' ⟨A, c, he, _, hbel⟩
    rw [parse_begin h (by omega)] at he
    exact ⟨A, c, he, hbel⟩

set_option maxHeartbeats 2000000 in
theorem tbegin_any (A : Option Addr) (len cap : Nat) (w : World) (hcap : len ≤ cap) (hA : IntsIn w.heap.size w A len) :
    Calls Tryd.prog 5 #[.slice A len cap] w fun e w' => e = .returned (.bool true) ∧ Below w.heap.size w w' := by
  go_enter Tryd.func5, Tryd.ntmps5
  go_wp2_with fail
  refine (new_any A len cap w hcap hA).mono ?_
  rintro e w1 ⟨rfl, hs1, hb1⟩
  go_wp2_with fail
  refine (telegram_any _ _ _ hs1).mono ?_
  rintro e w2 ⟨t, T, c, rfl, hF, hE2, hs2, hg2⟩
  have b2 := below_reads hb1 hg2 (Nat.le_refl _) hb1.size
  have B2 := Lib.hid b2
  have hlt2 : w.heap.size < w2.heap.size := hs2.lt
  have E2 := Lib.hid hE2
  have V := Lib.hid (few_ok hF)
  clear hb1 hs1 hs2 hg2 hE2 hF b2
  go_wp2_with fail
  refine (rformat_ok _ _ _ _ _ V.out E2.out).mono ?_
  rintro e w3 ⟨rfl, hb3⟩
  have B3 := Lib.hid (onward B2.out hb3)
  have hlt3 : w.heap.size < w3.heap.size := Nat.lt_of_lt_of_le hlt2 hb3.size
  obtain ⟨S, hS, hpos, hsz, hC⟩ := begin_call V.out
  rw [hS]
  have HC := hide hC
  clear hS hC E2 V B2 hb3 hlt2
  go_wp2_with fail
  go_loopw [5, 6] (fun v i wr => ∃ k : Nat, k ≤ S.size ∧ i = .int .i64 k ∧ v = .int .i64 (1 + (cntN S k : Int)) ∧ Below w3.heap.size w3 wr) (fun _ i _ => S.size - (intOf i).toNat)
  case atStart => exact ⟨0, Nat.zero_le _, rfl, rfl, Below.refl _ _⟩
  case round =>
    obtain ⟨k, hk, rfl, rfl, hb⟩ := hrel
    obtain ⟨wo, rfl⟩ : ∃ wo : World, wo = wr := ⟨_, rfl⟩
    have HB := Lib.hid hb
    have hlt4 := Lib.hid (Nat.lt_of_lt_of_le hlt3 hb.size)
    clear hb
    by_cases hlt : k < S.size
    · have HS := hide (cntN_step hlt)
      have hcl : (cntN S k : Int) ≤ 2048 := by have := cntN_le S k; omega
      have hcn : (0 : Int) ≤ (cntN S k : Int) := by omega
      have kl : (k : Int) < (S.size : Int) := by omega
      have k0 : (0 : Int) ≤ (k : Int) := by omega
      go_wp2_with fail
      refine (unhide HC k hlt w.heap.size _ hlt4.out).mono ?_
      rintro e w5 ⟨P, d, rfl, hb5⟩
      have B5 := Lib.hid (below_new (onward HB.out hb5) (.cells #[.string ByteArray.empty, .string ByteArray.empty, .slice P 0 d] 24))
      clear hb5
      cases hn : ((S[k].toNat : Int) == 10) with
      | true =>
        have H1 := Lib.hid hn
        go_wp2
        go_round
        case rel => exact ⟨k + 1, by omega, by go_num, by rw [unhide HS, H1.out, if_pos rfl]; go_num, B5.out⟩
        case measure => simp [intOf]; omega
      | false =>
        have H1 := Lib.hid hn
        go_wp2
        go_round
        case rel => exact ⟨k + 1, by omega, by go_num, by rw [unhide HS, H1.out]; rfl, B5.out⟩
        case measure => simp [intOf]; omega
    · have kl : ¬ (k : Int) < (S.size : Int) := by omega
      have hp : (0 : Int) < (S.size : Int) := by omega
      go_wp2_with fail
      refine (tawake_any _).mono ?_
      rintro e w9 ⟨rfl, hb9⟩
      go_wp2
      go_ret
      exact ⟨rfl, onward B3.out (onward HB.out hb9)⟩

theorem tbegin_law (A : Option Addr) (len cap : Nat) (hcap : len ≤ cap) {w : World} (hA : IntsIn w.heap.size w A len) :
    Calls Tryd.prog 5 #[.slice A len cap] w fun e w' => e = .returned (.bool true) ∧ Below w.heap.size w w' := tbegin_any A len cap w hcap hA
end Go.Proofs.YtmdjdhfchigekaaDoor
