/-
  Early (layer 19): container/heap over the program's heap of stored bags: up, Push.
-/
import Derived.Test.YtbajmbegkacbbaaEarD
namespace Go.Proofs.Ytbajmbegkacbbaa
open Go.RowKit

/-! The methods to which calls through heap.Interface lead (173: the number of types and 100). -/
theorem m_less (b : Nat) (v : Value) (w : World) (h : w.cell? ⟨b, 0, none⟩ = some v) : (method 173 42 (.pointer (some ⟨b, 0, none⟩)) "Less").run Try.prog w = .ok (46, v) w := by
  have h1 : (method 173 42 (.pointer (some ⟨b, 0, none⟩)) "Less").run Try.prog w = ((loadVar 39 ⟨b, 0, none⟩) >>= fun v => pure (46, v)).run Try.prog w := by kernel_rfl
  rw [h1]
  go_simp
theorem m_swap (b : Nat) (v : Value) (w : World) (h : w.cell? ⟨b, 0, none⟩ = some v) : (method 173 42 (.pointer (some ⟨b, 0, none⟩)) "Swap").run Try.prog w = .ok (47, v) w := by
  have h1 : (method 173 42 (.pointer (some ⟨b, 0, none⟩)) "Swap").run Try.prog w = ((loadVar 39 ⟨b, 0, none⟩) >>= fun v => pure (47, v)).run Try.prog w := by kernel_rfl
  rw [h1]
  go_simp
theorem m_len (b : Nat) (v : Value) (w : World) (h : w.cell? ⟨b, 0, none⟩ = some v) : (method 173 42 (.pointer (some ⟨b, 0, none⟩)) "Len").run Try.prog w = .ok (45, v) w := by
  have h1 : (method 173 42 (.pointer (some ⟨b, 0, none⟩)) "Len").run Try.prog w = ((loadVar 39 ⟨b, 0, none⟩) >>= fun v => pure (45, v)).run Try.prog w := by kernel_rfl
  rw [h1]
  go_simp
theorem m_push (b : Nat) (w : World) : (method 173 42 (.pointer (some ⟨b, 0, none⟩)) "Push").run Try.prog w = .ok (52, .pointer (some ⟨b, 0, none⟩)) w := by kernel_rfl
theorem m_pop (b : Nat) (w : World) : (method 173 42 (.pointer (some ⟨b, 0, none⟩)) "Pop").run Try.prog w = .ok (51, .pointer (some ⟨b, 0, none⟩)) w := by kernel_rfl
theorem lts_yes {x y : Sb} (h : ltS x y = true) : leS x y := by
  unfold ltS orF Lib.compareInt at h
  rw [decide_eq_true_eq] at h
  unfold leS
  repeat' split at h
  all_goals omega
theorem lts_no {x y : Sb} (h : ltS x y = false) : leS y x := by
  unfold ltS orF Lib.compareInt at h
  rw [decide_eq_false_iff_not] at h
  unfold leS
  repeat' split at h
  all_goals omega
theorem HpB.swlen {w0 : Fr} {w : World} {B b c i j : Nat} {A : Option Addr} {l : List Sb} (_ : HpB w0 B b w A c l) : (swG (0, 0) l i j).length = l.length := swG_len l i j
/-- While an element goes up. -/
def UpI (w0 : Fr) (B b : Nat) (A : Option Addr) (c : Nat) (l : List Sb) (j : Nat) (lk : List Sb) (w : World) : Prop :=
  HpB w0 B b w A c lk ∧ lk.Perm l ∧ lk.length = l.length ∧ j < l.length ∧ UpG leS (0, 0) l.length j lk
abbrev hpV (b : Nat) : Value := .iface 42 (.pointer (some ⟨b, 0, none⟩))
set_option maxHeartbeats 1000000 in
set_option maxRecDepth 100000 in
theorem up_any (w0 : Fr) (B b : Nat) (w : World) (A : Option Addr) (c : Nat) (l : List Sb) (j : Nat) (h : HpB w0 B b w A c l) (hj : j < l.length) (hu : UpG leS (0, 0) l.length j l) :
    Calls Try.prog 27 #[hpV b, .int .i64 j] w fun e w' => e = .returned (.tuple #[]) ∧ ∃ l', HpB w0 B b w' A c l' ∧ l'.Perm l ∧ l'.length = l.length ∧ HpF leS (0, 0) 0 l.length l' := by
  have H0 := hide (show UpI w0 B b A c l j l w from ⟨h, List.Perm.refl _, rfl, hj, hu⟩)
  have hj9 : j ≤ 1000 := by have := h.len; omega
  clear h hj hu
  go_enter Try.func27, Try.ntmps27
  go_wp2_with fail
  go_loopw [1] (fun s1 wr => ∃ (k : Nat) (lk : List Sb), k ≤ 1000 ∧ s1 = .int .i64 k ∧ Hid (UpI w0 B b A c l k lk wr)) (fun s1 _ => (intOf s1).toNat)
  case atStart => exact ⟨j, l, hj9, rfl, H0⟩
  case round =>
    clear H0
    obtain ⟨k, lk, hk9, rfl, HS⟩ := hrel
    obtain ⟨wo, rfl⟩ : ∃ wo : World, wo = wr := ⟨_, rfl⟩
    by_cases hk0 : k = 0
    · subst hk0
      have hd := hide (show HpF leS (0, 0) 0 l.length lk from (unhide HS).2.2.2.2.done (.inl rfl))
      go_wp2
      go_end0
      exact ⟨rfl, lk, (unhide HS).1, (unhide HS).2.1, (unhide HS).2.2.1, unhide hd⟩
    · obtain ⟨p, hp⟩ : ∃ p, (k - 1) / 2 = p := ⟨_, rfl⟩
      have wk : IntKind.i64.wrap ((k : Int) - 1) = (((k - 1 : Nat)) : Int) := by rw [IntKind.wrap_i64]; omega
      have kp : ((p : Int) == (k : Int)) = false := by rw [beq_eq_false_iff_ne]; omega
      obtain ⟨k1, hk1⟩ : ∃ k1, k - 1 = k1 := ⟨_, rfl⟩
      rw [hk1] at wk
      have hl := (unhide HS).2.2.1
      have hjk := (unhide HS).2.2.2.1
      have wq : ((k1 : Int) / 2) = (p : Int) := by omega
      have mL := m_less b _ wo (unhide HS).1.cell
      have HLs := hide (less_any w0 B b wo A c lk k p (unhide HS).1 (by omega) (by omega))
      cases hlt : ltS (lk.getD k (0, 0)) (lk.getD p (0, 0)) with
      | false =>
        have hd := hide (show HpF leS (0, 0) 0 l.length lk from (unhide HS).2.2.2.2.done (.inr (by rw [hp]; exact lts_no hlt)))
        rw [hlt] at HLs
        clear hl hjk
        go_wp2_with (go_at_call 46; refine (unhide HLs).mono ?_; rintro e w2 ⟨rfl, hs2⟩)
        go_end0
        exact ⟨rfl, lk, hs2, (unhide HS).2.1, (unhide HS).2.2.1, unhide hd⟩
      | true =>
        have HU := hide (show UpG leS (0, 0) l.length p (swG (0, 0) lk p k) from by
          have := (unhide HS).2.2.2.2.step leS_trans (by omega) (by omega) hjk (by rw [hp]; exact lts_yes hlt)
          rw [hp] at this
          exact this)
        have HQ := hide (swG_perm (d := ((0, 0) : Sb)) lk p k (by omega) (by omega))
        have hpl := hide (show p < lk.length by omega)
        have hkl := hide (show k < lk.length by omega)
        rw [hlt] at HLs
        have HJk := hide hjk
        clear hl hjk
        go_wp2_with (first
          | (go_at_call 46; refine (unhide HLs).mono ?_; rintro e w2 ⟨rfl, hs2⟩; have mS := m_swap b _ w2 hs2.cell; have HS2 := hide (swap_any w0 B b w2 A c lk p k hs2 (unhide hpl) (unhide hkl)); clear hs2)
          | (go_at_call 47; refine (unhide HS2).mono ?_; rintro e w3 ⟨rfl, hs3⟩))
        go_roundw
        case rel => exact ⟨p, _, by omega, by go_num, hide ⟨hs3, (unhide HQ).trans (unhide HS).2.1, by rw [swG_len]; exact (unhide HS).2.2.1, by have := unhide HJk; omega, unhide HU⟩⟩
        case measure => simp [intOf]; omega
end Go.Proofs.Ytbajmbegkacbbaa
