/-
  Contract of the document's own Matches.
-/
import Derived.Test.YtaimmohfcjoclaaMatch
namespace Go.Proofs.Ytaimmohfcjoclaa
open Go.RowKit

set_option maxHeartbeats 1000000 in
theorem rmatches_any (p : ByteArray) (l a s : Int) (w : World) :
    Calls Try.prog 31 #[.string p, .agg #[.int .i64 l, .int .i64 a, .int .i64 s]] w fun e w' => e = .returned (.bool (mat p l a s)) ∧ Below w.heap.size w w' := by
  cases hv : vld l a s with
  | false =>
    have ht := txt_no hv
    have hm := Lib.hid (mat_no1 (p := p) hv)
    go_enter Try.func31, Try.ntmps31
    go_wp2_with (go_at_call 22; refine (rformat_any l a s _).mono ?_; rintro e w1 ⟨rfl, hb1⟩; rw [ht])
    all_goals
      go_ret
      exact ⟨ret_bool hm.out.symm, boxed hb1⟩
  | true =>
    have hne := Lib.hid (txt_ne hv)
    have hsz := Lib.hid (txt_size hv)
    by_cases hp : p.size = 10
    · have hm := Lib.hid (mat_yes hv hp)
      have h1 : ((p.size : Int) != 10) = false := by rw [bne_eq_false_iff_eq]; omega
      have HP := Lib.hid hp
      clear hv hp
      go_enter Try.func31, Try.ntmps31
      go_wp2_with (go_at_call 22; refine (rformat_any l a s _).mono ?_; rintro e w1 ⟨rfl, hb1⟩; generalize txt l a s = T at *; have hne' := hne.out)
      have HB := Lib.hid (boxed hb1)
      clear hne' hb1
      go_loopw [6] (fun i wr => ∃ k : Nat, k ≤ 10 ∧ i = .int .i64 k ∧ Hid (okAll p T k = true) ∧ Below w1.heap.size w1 wr) (fun i _ => 10 - (intOf i).toNat)
      case atStart => exact ⟨0, Nat.zero_le _, rfl, Lib.hid rfl, Below.refl _ _⟩
      case round =>
        obtain ⟨k, hk, rfl, ho, hb⟩ := hrel
        obtain ⟨wo, rfl⟩ : ∃ wo : World, wo = wr := ⟨_, rfl⟩
        have HBO := Lib.hid hb
        clear hb
        by_cases hlt : k < 10
        · have k1 : k < p.size := by rw [HP.out]; exact hlt
          have k2 : k < T.size := by rw [hsz.out]; exact hlt
          have i1 : (k : Int) < (p.size : Int) := by omega
          have i2 : (k : Int) < (T.size : Int) := by omega
          have i0 : (0 : Int) ≤ (k : Int) := by omega
          by_cases e1 : (p[k].toNat : Int) = 63
          · have E : okAll p T (k + 1) = true := by rw [okAll_succ, ho.out, okAt_q p T k k1 e1]; rfl
            have b1 : ((p[k].toNat : Int) != 63) = false := by rw [bne_eq_false_iff_eq]; exact e1
            have HE := Lib.hid E
            clear e1 E
            go_wp2_with fail
            go_quiet (fail)
            go_wp2
            go_roundw
            case rel => exact ⟨k + 1, by omega, by go_num, HE, draws HBO.out _⟩
            case measure => simp [intOf]; omega
          · have b1 : ((p[k].toNat : Int) != 63) = true := by rw [bne_iff_ne]; exact e1
            by_cases e2 : (p[k].toNat : Int) = (T[k].toNat : Int)
            · have E : okAll p T (k + 1) = true := by rw [okAll_succ, ho.out, okAt_eq p T k k1 k2 e2]; rfl
              have b2 : ((p[k].toNat : Int) != (T[k].toNat : Int)) = false := by rw [bne_eq_false_iff_eq]; exact e2
              have HE := Lib.hid E
              clear e1 E e2
              go_wp2_with fail
              go_quiet (fail)
              go_wp2
              go_roundw
              case rel => exact ⟨k + 1, by omega, by go_num, HE, draws HBO.out _⟩
              case measure => simp [intOf]; omega
            · have E : okAll p T 10 = false := okAll_no p T k 10 hlt (okAt_ne p T k k1 k2 e1 e2)
              have b2 : ((p[k].toNat : Int) != (T[k].toNat : Int)) = true := by rw [bne_iff_ne]; exact e2
              have HE := Lib.hid E
              clear e1 E e2
              go_wp2_with fail
              go_quiet (fail)
              go_wp2
              go_ret
              exact ⟨ret_bool (by rw [hm.out, HE.out]), onward HB.out (draws HBO.out _)⟩
        · obtain rfl : k = 10 := by omega
          go_wp2
          go_ret
          exact ⟨ret_bool (by rw [hm.out, ho.out]), onward HB.out HBO.out⟩
    · have hm := Lib.hid (mat_no2 (l := l) (a := a) (s := s) hp)
      have h1 : ((p.size : Int) != 10) = true := by rw [bne_iff_ne]; omega
      have hne' := hne.out
      go_enter Try.func31, Try.ntmps31
      go_wp2_with (go_at_call 22; refine (rformat_any l a s _).mono ?_; rintro e w1 ⟨rfl, hb1⟩)
      go_ret
      exact ⟨ret_bool hm.out.symm, boxed hb1⟩
end Go.Proofs.Ytaimmohfcjoclaa
