/-
  Contract of the document's own text of a telegram.
-/
import Derived.Test.YtmdjdhfchigekaaDoorTelA
namespace Go.Proofs.YtmdjdhfchigekaaDoor
open Go.RowKit

/-- A string whose bytes are these. -/
def IsStr (l : List UInt8) (v : Value) : Prop := ∃ S : ByteArray, v = .string S ∧ S.data.toList = l
theorem str_of {l : List UInt8} {S : ByteArray} (h : S.data.toList = l) : S = ⟨l.toArray⟩ := by
  subst h; rfl
theorem flat_step {α : Type} (f : α → List UInt8) {l : List α} {d : α} {k : Nat} (h : k < l.length) : (l.take (k + 1)).flatMap f = (l.take k).flatMap f ++ f (l.getD k d) := by
  rw [List.take_succ_eq_append_getElem h, at_k h, List.flatMap_append]; simp
theorem flat_all {α : Type} (f : α → List UInt8) {l : List α} {k : Nat} (h : l.length ≤ k) : (l.take k).flatMap f = l.flatMap f := by
  rw [List.take_of_length_le h]

theorem flat_len {α : Type} (f : α → List UInt8) (l : List α) (k : Nat) : ((l.take k).flatMap f).length ≤ (l.flatMap f).length := by
  have h : (l.flatMap f).length = ((l.take k).flatMap f).length + ((l.drop k).flatMap f).length := by
    rw [← List.length_append, ← List.flatMap_append, List.take_append_drop]
  omega
theorem size_list {S : ByteArray} {l : List UInt8} (h : S.data.toList = l) : S.size = l.length := by
  rw [← h]; simp
theorem tel_pre (t : Tel) (k : Nat) : (headX t ++ (t.els.take k).flatMap elX).length ≤ (telX t).length := by
  have := flat_len elX t.els k
  unfold telX
  simp only [List.length_append]
  omega
theorem tel_pre2 (t : Tel) {k : Nat} (h : k < t.els.length) : (headX t ++ (t.els.take k).flatMap elX).length + (elX (t.els.getD k el0)).length ≤ (telX t).length := by
  have h1 := tel_pre t (k + 1)
  rw [flat_step elX (d := el0) h, ← List.append_assoc, List.length_append] at h1
  exact h1
theorem el_pre (e : El) (j : Nat) : 1 + e.1.size + ((e.2.take j).flatMap partX).length + 1 ≤ (elX e).length := by
  have := flat_len partX e.2 j
  unfold elX
  simp only [List.length_append, List.length_cons, List.length_nil]
  have e1 : e.1.data.toList.length = e.1.size := by simp
  omega

set_option maxHeartbeats 2000000 in
theorem rtext_any (b : Nat) (t : Tel) (A : Option Addr) (c : Nat) (w : World) (hS : SmallT t) (hlen : (telX t).length ≤ 5000) (h : ElsIn b w A t.els) :
    Calls Tryd.prog 28 #[.agg #[.string t.kind, .string t.change, .slice A t.els.length c]] w fun e w' => e = .returned (.string ⟨(telX t).toArray⟩) ∧ Below w.heap.size w w' := by
  have hz : t.els.length ≤ 3000 := hS.1
  have hK : t.kind.size ≤ 3000 := hS.2.1
  have hC : t.change.size ≤ 3000 := hS.2.2.1
  have HS := hide hS
  have HT1 := hide fun k => Nat.le_trans (tel_pre t k) hlen
  have HT2 := hide fun k (h : k < t.els.length) => Nat.le_trans (tel_pre2 t h) hlen
  have B0 := Lib.hid ((Below.refl w.heap.size w).alloc (Nat.le_refl _) (.cells #[.string t.kind, .string t.change, .slice A t.els.length c] 24))
  have HI1 := hide (h.keep ((Below.refl w.heap.size w).alloc (Nat.le_refl _) (.cells #[.string t.kind, .string t.change, .slice A t.els.length c] 24)))
  clear h hS hlen
  obtain ⟨K, C, es⟩ := t
  simp only [] at *
  obtain ⟨H0, HH⟩ : ∃ H0 : ByteArray, Hid (H0.data.toList = headX ⟨K, C, es⟩ ∧ H0 = (if C.toList.isEmpty then K ++ ⟨#[10]⟩ else K ++ ⟨#[10]⟩ ++ (C ++ ⟨#[10]⟩))) := by
    refine ⟨_, ?_, rfl⟩
    unfold headX
    simp only []
    split <;> simp [ByteArray.data_append]
  cases hc : C.toList.isEmpty
  all_goals
    have HE := hide HH.out.2
    rw [hc] at HE
    go_enter Tryd.func28, Tryd.ntmps28
    go_wp2
    first
      | rw [show K ++ { data := #[10] } ++ (C ++ { data := #[10] }) = H0 from (unhide HE).symm]
      | rw [show K ++ { data := #[10] } = H0 from (unhide HE).symm]
    go_loop [3, 4, 5] (fun v i _ => ∃ (k : Nat) (S : ByteArray), k ≤ es.length ∧ i = .int .i64 k ∧ v = .string S ∧ Hid (S.data.toList = headX ⟨K, C, es⟩ ++ (es.take k).flatMap elX)) (fun _ i _ => es.length - (intOf i).toNat)
    case atStart => exact ⟨0, H0, Nat.zero_le _, rfl, rfl, Lib.hid (by rw [HH.out.1]; simp)⟩
    case round =>
      obtain ⟨k, S, hk2, rfl, rfl, hd⟩ := hrel
      have hsS : S.size ≤ 5000 := by rw [size_list hd.out]; exact unhide HT1 k
      by_cases hlt : k < es.length
      · obtain ⟨g, off, rfl, hg, hcx⟩ := (unhide HI1) (by omega)
        obtain ⟨q0, A', c', q1, hst⟩ := hcx k hlt
        clear hcx
        have kl : (k : Int) < (es.length : Int) := by omega
        have HP := hide (flat_step elX (d := el0) hlt)
        have HT3 := hide (unhide HT2 k hlt)
        have hsm := (unhide HS).at hlt
        generalize es.getD k el0 = x at *
        obtain ⟨key, ps⟩ := x
        simp only [] at q0 q1 hst
        have hkey : key.size ≤ 3000 := hsm.2.1
        have hpz : ps.length ≤ 3000 := hsm.1
        have HSM := hide hsm
        have HST := hide hst
        clear hsm hst
        go_wp2
        obtain ⟨S1, HS1⟩ : ∃ S1 : ByteArray, Hid (S1 = S ++ ({ data := #[46] } ++ key)) := ⟨_, Lib.hid rfl⟩
        have hd1 := Lib.hid (show S1.data.toList = S.data.toList ++ (46 :: key.data.toList) by rw [HS1.out]; simp [ByteArray.data_append])
        rw [show S ++ ({ data := #[46] } ++ key) = S1 from HS1.out.symm]
        go_loop [3, 5] (fun v i => ∃ (j : Nat) (T : ByteArray), j ≤ ps.length ∧ i = .int .i64 j ∧ v = .string T ∧ Hid (T.data.toList = S1.data.toList ++ (ps.take j).flatMap partX)) (fun _ i => ps.length - (intOf i).toNat)
        case atStart => exact ⟨0, S1, Nat.zero_le _, rfl, rfl, Lib.hid (by simp)⟩
        case round =>
          obtain ⟨j, T, hj2, rfl, rfl, hdj⟩ := hrel
          have hsT : T.size ≤ 5000 := by
            have h1 := unhide HT3
            have h2 := el_pre (key, ps) j
            rw [← hd.out] at h1
            rw [size_list hdj.out, hd1.out]
            simp only [List.length_append, List.length_cons] at h1 h2 ⊢
            have e1 : key.data.toList.length = key.size := by simp
            omega
          by_cases hjl : j < ps.length
          · obtain ⟨g', off', rfl, hg', hc'⟩ := (unhide HST) (by omega)
            have q := hc' j hjl
            clear hc'
            have sz := (unhide HSM).at hjl
            have jl : (j : Int) < (ps.length : Int) := by omega
            have HP' := hide (flat_step partX (d := ByteArray.empty) hjl)
            simp only [] at sz
            generalize ps.getD j ByteArray.empty = p at *
            go_wp2
            go_round
            case rel =>
              refine ⟨j + 1, _, by omega, by go_num, rfl, Lib.hid ?_⟩
              rw [unhide HP', ← List.append_assoc, ← hdj.out]
              simp [ByteArray.data_append, partX]
            case measure => simp [intOf]; omega
          · have HF := hide (flat_all partX (l := ps) (k := j) (by omega))
            have jl : ¬ (j : Int) < (ps.length : Int) := by omega
            go_wp2
            go_round
            case rel =>
              refine ⟨k + 1, _, by omega, by go_num, rfl, Lib.hid ?_⟩
              rw [unhide HP, ← List.append_assoc, ← hd.out]
              simp only [ByteArray.data_append, Array.toList_append, hdj.out, hd1.out, unhide HF, elX]
              simp
            case measure => simp [intOf]; omega
      · have HF := hide (flat_all elX (l := es) (k := k) (by omega))
        have kl : ¬ (k : Int) < (es.length : Int) := by omega
        go_wp2
        go_ret
        refine ⟨ret_str (str_of ?_), B0.out⟩
        unfold telX endX
        simp only [ByteArray.data_append, Array.toList_append, hd.out, unhide HF]
        simp
end Go.Proofs.YtmdjdhfchigekaaDoor
