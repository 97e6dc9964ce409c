/-
  Contracts of the program's Format and Validate of telegrams.
-/
import Derived.Test.YtglgobmmmghdoaaGreatDoorTelB
import Derived.Test.YtglgobmmmghdoaaGreatDoorTelX
namespace Go.Proofs.YtglgobmmmghdoaaGreatDoor
open Go.RowKit

set_option maxHeartbeats 2000000 in
theorem format_tel (b : Nat) (t : Tel) (A : Option Addr) (c : Nat) (w : World) (hS : SmallT t) (h : ElsIn b w A t.els) :
    Calls Tryz.prog 9 #[.agg #[.string t.kind, .string t.change, .slice A t.els.length c]] w fun e w' => e = .returned (.tuple #[.string (telS t), .int .i64 (telE t)]) ∧ Below w.heap.size w w' := by
  have HS := hide hS
  have b0 := (Below.refl w.heap.size w).alloc (Nat.le_refl _) (.cells #[.string t.kind, .string t.change, .slice A t.els.length c] 25)
  have X0 := hide (TBox.new w t.kind t.change (.slice A t.els.length c) 25)
  have HI1 := hide (h.keep b0)
  clear h hS b0
  cases hf : telF t with
  | false =>
    have HE := hide (telE_1 hf)
    have HT := hide (telS_no (t := t) (by rw [telE_1 hf]; decide))
    obtain ⟨K, C, es⟩ := t
    simp only [] at *
    go_enter Tryz.func9, Tryz.ntmps9
    go_wp2_with fail
    refine (formed_any b ⟨K, C, es⟩ A c _ (unhide HS) (unhide HI1)).mono ?_
    rintro e w1 ⟨rfl, hb1⟩
    rw [hf]
    have HB := Lib.hid (boxed hb1)
    clear hb1
    go_wp2
    go_ret2
    rw [unhide HE, unhide HT]
    exact ⟨rfl, HB.out⟩
  | true =>
    have HF := hide hf
    cases hbn : telB t with
    | false =>
      have HE := hide (telE_2 hf hbn)
      have HT := hide (telS_no (t := t) (by rw [telE_2 hf hbn]; decide))
      have HBN := hide hbn
      clear hf hbn
      obtain ⟨K, C, es⟩ := t
      simp only [] at *
      go_enter Tryz.func9, Tryz.ntmps9
      go_wp2_with fail
      refine (formed_any b ⟨K, C, es⟩ A c _ (unhide HS) (unhide HI1)).mono ?_
      rintro e w1 ⟨rfl, hb1⟩
      rw [unhide HF]
      have HB := Lib.hid (boxed hb1)
      obtain ⟨x0, x1, x2⟩ := (unhide X0).keep hb1
      have HI2 := hide ((unhide HI1).keep hb1)
      clear hb1
      go_wp2_with fail
      refine (bounded_any b ⟨K, C, es⟩ A c _ (unhide HS) (unhide HI2)).mono ?_
      rintro e w2 ⟨rfl, hb2⟩
      rw [unhide HBN]
      have HB2 := Lib.hid (onward HB.out hb2)
      clear hb2
      go_wp2
      go_ret2
      rw [unhide HE, unhide HT]
      exact ⟨rfl, HB2.out⟩
    | true =>
      have HBN := hide hbn
      have hl5 := tel_len hf hbn
      have HL5 := hide hl5
      have hsz : ((⟨(telX t).toArray⟩ : ByteArray).size : Int) = ((telX t).length : Int) := by rw [tsize_list rfl]
      by_cases h20 : (telX t).length ≤ 2048
      all_goals
        first
          | have HE := hide (telE_0 hf hbn h20)
            have HT := hide (telS_0 (telE_0 hf hbn h20))
            have i1 : ¬ (2048 : Int) < ((⟨(telX t).toArray⟩ : ByteArray).size : Int) := by omega
          | have HE := hide (telE_3 hf hbn (by omega))
            have HT := hide (telS_no (t := t) (by rw [telE_3 hf hbn (by omega)]; decide))
            have i1 : (2048 : Int) < ((⟨(telX t).toArray⟩ : ByteArray).size : Int) := by omega
        clear hf hbn hl5 hsz
        obtain ⟨K, C, es⟩ := t
        simp only [] at *
        go_enter Tryz.func9, Tryz.ntmps9
        go_wp2_with fail
        refine (formed_any b ⟨K, C, es⟩ A c _ (unhide HS) (unhide HI1)).mono ?_
        rintro e w1 ⟨rfl, hb1⟩
        rw [unhide HF]
        have HB := Lib.hid (boxed hb1)
        have HX1 := hide ((unhide X0).keep hb1)
        obtain ⟨x0, x1, x2⟩ := unhide HX1
        have HI2 := hide ((unhide HI1).keep hb1)
        clear hb1
        go_wp2_with fail
        refine (bounded_any b ⟨K, C, es⟩ A c _ (unhide HS) (unhide HI2)).mono ?_
        rintro e w2 ⟨rfl, hb2⟩
        rw [unhide HBN]
        have HB2 := Lib.hid (onward HB.out hb2)
        have HI3 := hide ((unhide HI2).keep hb2)
        clear x0 x1 x2
        obtain ⟨x0, x1, x2⟩ := (unhide HX1).keep hb2
        clear hb2
        go_wp2_with fail
        refine (text_tel b ⟨K, C, es⟩ A c _ (unhide HS) (unhide HL5) (unhide HI3)).mono ?_
        rintro e w3 ⟨rfl, hb3⟩
        have HB3 := Lib.hid (onward HB2.out hb3)
        clear hb3
        generalize (⟨(telX ⟨K, C, es⟩).toArray⟩ : ByteArray) = TX at *
        go_wp2
        go_ret2
        rw [unhide HE, unhide HT]
        exact ⟨rfl, HB3.out⟩

end Go.Proofs.YtglgobmmmghdoaaGreatDoor
