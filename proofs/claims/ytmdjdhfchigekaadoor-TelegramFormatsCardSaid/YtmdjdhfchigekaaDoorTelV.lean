/-
  Contracts of the document's own Validate and Format of telegrams.
-/
import Derived.Test.YtmdjdhfchigekaaDoorTelS
import Derived.Test.YtmdjdhfchigekaaDoorTelT
namespace Go.Proofs.YtmdjdhfchigekaaDoor
open Go.RowKit

/-- A telegram in a block of its own. -/
def TBox (w : World) (b : Nat) (K C : ByteArray) (v : Value) : Prop := w.cell? ⟨b, 0, none⟩ = some (.string K) ∧ w.cell? ⟨b, 1, none⟩ = some (.string C) ∧ w.cell? ⟨b, 2, none⟩ = some v
theorem TBox.keep {w w1 : World} {b : Nat} {K C : ByteArray} {v : Value} (h : TBox w b K C v) (hb : Below w.heap.size w w1) : TBox w1 b K C v := ⟨kept hb h.1, kept hb h.2.1, kept hb h.2.2⟩
theorem TBox.new (w : World) (K C : ByteArray) (v : Value) (t : TypeId) : TBox (w.alloc (.cells #[.string K, .string C, v] t)) w.heap.size K C v := ⟨by simp [go_sem], by simp [go_sem], by simp [go_sem]⟩
theorem TBox.alloc {w : World} {b : Nat} {K C : ByteArray} {v : Value} (h : TBox w b K C v) (o : Obj) : TBox (w.alloc o) b K C v := h.keep ((Below.refl _ _).alloc (Nat.le_refl _) o)

set_option maxHeartbeats 2000000 in
theorem rvalid_any (b : Nat) (t : Tel) (A : Option Addr) (c : Nat) (w : World) (hS : SmallT t) (h : ElsIn b w A t.els) :
    Calls Tryd.prog 17 #[.agg #[.string t.kind, .string t.change, .slice A t.els.length c]] w fun e w' => e = .returned (.int .i64 (telE t)) ∧ Below w.heap.size w w' := by
  have hz : t.els.length ≤ 3000 := hS.1
  have HS := hide hS
  have b0 := (Below.refl w.heap.size w).alloc (Nat.le_refl _) (.cells #[.string t.kind, .string t.change, .slice A t.els.length c] 24)
  have X0 := hide (TBox.new w t.kind t.change (.slice A t.els.length c) 24)
  have HI1 := hide (h.keep b0)
  have B0 := Lib.hid b0
  clear h hS b0
  cases hf : telF t with
  | false =>
    have HE := hide (telE_1 hf)
    obtain ⟨K, C, es⟩ := t
    simp only [] at *
    go_enter Tryd.func17, Tryd.ntmps17
    go_wp2_with fail
    refine (rformed_any b ⟨K, C, es⟩ A c _ (unhide HS) (unhide HI1)).mono ?_
    rintro e w1 ⟨rfl, hb1⟩
    rw [hf]
    have HB := Lib.hid (boxed hb1)
    clear hb1
    go_wp2
    go_ret
    exact ⟨ret_int (unhide HE).symm, HB.out⟩
  | true =>
    have HF := hide hf
    obtain ⟨K, C, es⟩ := t
    simp only [] at *
    go_enter Tryd.func17, Tryd.ntmps17
    go_wp2_with fail
    refine (rformed_any b ⟨K, C, es⟩ A c _ (unhide HS) (unhide HI1)).mono ?_
    rintro e w1 ⟨rfl, hb1⟩
    rw [unhide HF]
    have X1 := (unhide X0).keep hb1
    have HI2 := hide ((unhide HI1).keep hb1)
    have HX1 := hide X1
    have HB := Lib.hid (boxed hb1)
    obtain ⟨x0, x1, x2⟩ := X1
    clear hb1 X0 HI1 B0
    by_cases h24 : es.length ≤ 24
    · have i0 : ¬ (24 : Int) < (es.length : Int) := by omega
      go_wp2
      go_loopw [3] (fun i wr => ∃ k : Nat, k ≤ es.length ∧ i = .int .i64 k ∧ Hid ((es.take k).all belB = true) ∧ Below w1.heap.size w1 wr) (fun i _ => es.length - (intOf i).toNat)
      case atStart => exact ⟨0, Nat.zero_le _, rfl, Lib.hid rfl, Below.refl _ _⟩
      case round =>
        obtain ⟨k, hk2, rfl, hd, hb⟩ := hrel
        obtain ⟨wo, rfl⟩ : ∃ wo : World, wo = wr := ⟨_, rfl⟩
        have HBO := Lib.hid hb
        clear hb x0 x1 x2
        obtain ⟨x0, x1, x2⟩ := (unhide HX1).keep HBO.out
        by_cases hlt : k < es.length
        · obtain ⟨g, off, rfl, hg, hcx⟩ := (unhide HI2) (by omega)
          obtain ⟨q0, A', c', q1, hst⟩ := (hcx k hlt).keep HBO.out
          clear hcx
          have kl : (k : Int) < (es.length : Int) := by omega
          have HP := hide fun h => all_step (d := el0) hlt hd.out h
          have HQ := hide fun h => all_no (p := belB) (d := el0) hlt h
          have hsm := (unhide HS).at hlt
          generalize es.getD k el0 = x at *
          obtain ⟨key, ps⟩ := x
          simp only [] at q0 q1 hst
          cases hp : belB (key, ps) with
          | true =>
            go_wp2_with (first | (go_at_call 30; refine (within_any b key ps A' c' _ hsm.1 hst).mono ?_; rintro e w2 ⟨rfl, hb1⟩))
            have HB1 := Lib.hid (onward HBO.out hb1)
            clear q0 q1 hst hb1
            go_wp2
            go_roundw
            case rel => exact ⟨k + 1, by omega, by go_num, Lib.hid (unhide HP hp), HB1.out⟩
            case measure => simp [intOf]; omega
          | false =>
            go_wp2_with (first | (go_at_call 30; refine (within_any b key ps A' c' _ hsm.1 hst).mono ?_; rintro e w2 ⟨rfl, hb1⟩))
            have HB1 := Lib.hid (onward HBO.out hb1)
            clear q0 q1 hst hb1
            go_wp2
            go_ret
            exact ⟨ret_int (telE_2 (unhide HF) (by unfold telB; rw [unhide HQ hp]; simp)).symm, onward HB.out HB1.out⟩
        · have kl : ¬ (k : Int) < (es.length : Int) := by omega
          have hB : telB ⟨K, C, es⟩ = true := by unfold telB; rw [all_all (l := es) (by omega) hd.out]; simp [h24]
          have hl5 := tel_len (unhide HF) hB
          have HI3 := hide ((unhide HI2).keep HBO.out)
          have HHB := hide hB
          have HL5 := hide hl5
          clear hB hl5
          by_cases h20 : (telX ⟨K, C, es⟩).length ≤ 2048
          · have HE := hide (telE_0 (unhide HF) (unhide HHB) h20)
            have i1 : ¬ (2048 : Int) < ((⟨(telX ⟨K, C, es⟩).toArray⟩ : ByteArray).size : Int) := by rw [size_list rfl]; simp; omega
            go_wp2_with (first | (go_at_call 28; refine (rtext_any b ⟨K, C, es⟩ A c _ (unhide HS) (unhide HL5) (unhide HI3)).mono ?_; rintro e w2 ⟨rfl, hb1⟩))
            have HB1 := Lib.hid (onward HBO.out hb1)
            clear hb1
            generalize (⟨(telX ⟨K, C, es⟩).toArray⟩ : ByteArray) = TX at *
            go_wp2
            go_ret
            exact ⟨ret_int (unhide HE).symm, onward HB.out HB1.out⟩
          · have HE := hide (telE_3 (unhide HF) (unhide HHB) (by omega))
            have i1 : (2048 : Int) < ((⟨(telX ⟨K, C, es⟩).toArray⟩ : ByteArray).size : Int) := by rw [size_list rfl]; simp; omega
            go_wp2_with (first | (go_at_call 28; refine (rtext_any b ⟨K, C, es⟩ A c _ (unhide HS) (unhide HL5) (unhide HI3)).mono ?_; rintro e w2 ⟨rfl, hb1⟩))
            have HB1 := Lib.hid (onward HBO.out hb1)
            clear hb1
            generalize (⟨(telX ⟨K, C, es⟩).toArray⟩ : ByteArray) = TX at *
            go_wp2
            go_ret
            exact ⟨ret_int (unhide HE).symm, onward HB.out HB1.out⟩
    · have i0 : (24 : Int) < (es.length : Int) := by omega
      have HE := hide (telE_2 (unhide HF) (show telB ⟨K, C, es⟩ = false by unfold telB; simp [h24]))
      go_wp2
      go_ret
      exact ⟨ret_int (unhide HE).symm, HB.out⟩

set_option maxHeartbeats 1000000 in
theorem rformat_any (b : Nat) (t : Tel) (A : Option Addr) (c : Nat) (w : World) (hS : SmallT t) (h : ElsIn b w A t.els) :
    Calls Tryd.prog 15 #[.agg #[.string t.kind, .string t.change, .slice A t.els.length c]] w fun e w' => e = .returned (.tuple #[.string (telS t), .int .i64 (telE t)]) ∧ Below w.heap.size w w' := by
  have HS := hide hS
  have b0 := (Below.refl w.heap.size w).alloc (Nat.le_refl _) (.cells #[.string t.kind, .string t.change, .slice A t.els.length c] 24)
  have X0 := hide (TBox.new w t.kind t.change (.slice A t.els.length c) 24)
  have HI1 := hide (h.keep b0)
  clear h hS b0
  by_cases he : telE t = 0
  · have z0 : (telE t != 0) = false := by rw [he]; rfl
    have HE := hide he
    have HT := hide (telS_0 he)
    have HV := hide (tel_valid he)
    clear he
    obtain ⟨K, C, es⟩ := t
    simp only [] at *
    go_enter Tryd.func15, Tryd.ntmps15
    go_wp2_with fail
    refine (rvalid_any b ⟨K, C, es⟩ A c _ (unhide HS) (unhide HI1)).mono ?_
    rintro e w1 ⟨rfl, hb1⟩
    obtain ⟨x0, x1, x2⟩ := (unhide X0).keep hb1
    have HB := Lib.hid (boxed hb1)
    have HI2 := hide ((unhide HI1).keep hb1)
    clear hb1
    go_wp2_with (first | (go_at_call 28; refine (rtext_any b ⟨K, C, es⟩ A c _ (unhide HS) (by have := (unhide HV).2.2; omega) (unhide HI2)).mono ?_; rintro e w2 ⟨rfl, hb1⟩))
    have HB1 := Lib.hid (onward HB.out hb1)
    clear hb1
    go_ret2
    rw [unhide HE, unhide HT]
    exact ⟨rfl, HB1.out⟩
  · have z0 : (telE t != 0) = true := by rw [bne_iff_ne]; exact he
    have HT := hide (telS_no he)
    clear he
    obtain ⟨K, C, es⟩ := t
    simp only [] at *
    go_enter Tryd.func15, Tryd.ntmps15
    go_wp2_with fail
    refine (rvalid_any b ⟨K, C, es⟩ A c _ (unhide HS) (unhide HI1)).mono ?_
    rintro e w1 ⟨rfl, hb1⟩
    have HB := Lib.hid (boxed hb1)
    clear hb1
    go_wp2
    go_ret2
    rw [unhide HT]
    exact ⟨rfl, HB.out⟩
end Go.Proofs.YtmdjdhfchigekaaDoor
