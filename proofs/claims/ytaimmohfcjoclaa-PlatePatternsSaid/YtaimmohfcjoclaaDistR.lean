/-
  Contract of the document's own Distance.
-/
import Derived.Test.YtaimmohfcjoclaaDist
namespace Go.Proofs.Ytaimmohfcjoclaa
open Go.RowKit

set_option maxHeartbeats 1000000 in
theorem rdistance_any (l a s l' a' s' : Int) (w : World) :
    Calls Try.prog 36 #[.agg #[.int .i64 l, .int .i64 a, .int .i64 s], .agg #[.int .i64 l', .int .i64 a', .int .i64 s']] w fun e w' => e = .returned (.int .i64 (dist l a s l' a' s')) ∧ Below w.heap.size w w' := by
  have T := Two.start w l a s l' a' s' 23 23
  obtain ⟨bel, ⟨c1, c2, c3⟩, ⟨d1, d2, d3⟩⟩ := T
  replace c1 := After.cell c1
  replace c2 := After.cell c2
  replace c3 := After.cell c3
  replace d1 := After.cell d1
  replace d2 := After.cell d2
  replace d3 := After.cell d3
  have HB := Lib.hid bel
  clear bel
  by_cases hb : vld l a s = true ∧ vld l' a' s' = true
  · obtain ⟨hv, hv'⟩ := hb
    have hd : Hid (dist l a s l' a' s' = dct (txt l a s) (txt l' a' s') 10) := Lib.hid (by unfold dist; rw [hv, hv']; rfl)
    have hne := Lib.hid (txt_ne hv)
    have hsz := Lib.hid (txt_size hv)
    have hne2 := Lib.hid (txt_ne hv')
    have hsz2 := Lib.hid (txt_size hv')
    clear hv hv'
    go_enter Try.func36, Try.ntmps36
    go_wp2_with fail
    refine wp_region_after (by kernel_rfl) (by kernel_rfl) ?_
    repeat (go_big_quiet_step ((first | (go_at_call 22; exact After.call (rformat_any _ _ _ _)))))
    refine wpQuiet_nil ?_
    rintro _ ⟨t, rfl⟩
    clear c1 c2 c3 d1 d2 d3
    generalize txt l a s = X at *
    generalize txt l' a' s' = Y at *
    have n1 := hne.out
    have n2 := hne2.out
    have HBT := Lib.hid (onward HB.out t.is)
    generalize t.to = W at *
    go_wp2_with fail
    clear n1 n2
    go_loopw [7, 8] (fun n i wr => ∃ k : Nat, k ≤ 10 ∧ i = .int .i64 k ∧ n = .int .i64 (dct X Y k) ∧ Below W.heap.size W wr) (fun _ i _ => 10 - (intOf i).toNat)
    case atStart => exact ⟨0, Nat.zero_le _, rfl, rfl, Below.refl _ _⟩
    case round =>
      obtain ⟨k, hk, rfl, rfl, hbo⟩ := hrel
      obtain ⟨wo, rfl⟩ : ∃ wo : World, wo = wr := ⟨_, rfl⟩
      have HBO := Lib.hid hbo
      clear hbo
      by_cases hlt : k < 10
      · have k1 : k < X.size := by rw [hsz.out]; exact hlt
        have k2 : k < Y.size := by rw [hsz2.out]; exact hlt
        have i1 : (k : Int) < (X.size : Int) := by omega
        have i2 : (k : Int) < (Y.size : Int) := by omega
        have i0 : (0 : Int) ≤ (k : Int) := by omega
        obtain ⟨q1, q2⟩ := dct_bd X Y k
        by_cases e : (X[k].toNat : Int) = (Y[k].toNat : Int)
        · have b2 : ((X[k].toNat : Int) != (Y[k].toNat : Int)) = false := by rw [bne_eq_false_iff_eq]; exact e
          have HE := Lib.hid (dct_same X Y k k1 k2 e)
          clear e
          go_wp2_with fail
          go_quiet (fail)
          go_wp2
          go_roundw
          case rel => exact ⟨k + 1, by omega, by go_num, by rw [HE.out], draws HBO.out _⟩
          case measure => simp [intOf]; omega
        · have b2 : ((X[k].toNat : Int) != (Y[k].toNat : Int)) = true := by rw [bne_iff_ne]; exact e
          have HE := Lib.hid (dct_other X Y k k1 k2 e)
          clear e
          go_wp2_with fail
          go_quiet (fail)
          go_wp2
          go_roundw
          case rel => exact ⟨k + 1, by omega, by go_num, by rw [HE.out], draws HBO.out _⟩
          case measure => simp [intOf]; omega
      · obtain rfl : k = 10 := by omega
        go_wp2
        go_ret
        exact ⟨ret_int hd.out.symm, onward HBT.out HBO.out⟩
  · have hd : Hid (dist l a s l' a' s' = -1) := Lib.hid (by
      unfold dist
      rw [if_neg]
      simpa using hb)
    have ht : txt l a s = ByteArray.empty ∨ (txt l a s).toList.isEmpty = false ∧ txt l' a' s' = ByteArray.empty := by
      cases hv : vld l a s with
      | false => exact .inl (txt_no hv)
      | true =>
        cases hv' : vld l' a' s' with
        | false => exact .inr ⟨txt_ne hv, txt_no hv'⟩
        | true => exact absurd ⟨hv, hv'⟩ hb
    have HT := Lib.hid ht
    clear hb ht
    go_enter Try.func36, Try.ntmps36
    go_wp2_with fail
    refine wp_region_after (by kernel_rfl) (by kernel_rfl) ?_
    repeat (go_big_quiet_step ((first | (go_at_call 22; exact After.call (rformat_any _ _ _ _)))))
    refine wpQuiet_nil ?_
    rintro _ ⟨t, rfl⟩
    clear c1 c2 c3 d1 d2 d3
    have ht := HT.out
    rcases ht with ht | ⟨ht1, ht2⟩
    · rw [ht]
      go_wp2
      go_ret
      exact ⟨ret_int hd.out.symm, onward HB.out t.is⟩
    · rw [ht2]
      go_wp2
      go_ret
      exact ⟨ret_int hd.out.symm, onward HB.out t.is⟩
end Go.Proofs.Ytaimmohfcjoclaa
