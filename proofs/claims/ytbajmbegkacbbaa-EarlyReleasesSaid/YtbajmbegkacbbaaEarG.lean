/-
  Early (layer 19): container/heap over the program's heap of stored bags: down.
-/
import Derived.Test.YtbajmbegkacbbaaEarF
namespace Go.Proofs.Ytbajmbegkacbbaa
open Go.RowKit

def IsB (e : Ending) : Prop := ∃ v, e = .returned (.bool v)
/-- While an element goes down. -/
def DnI (w0 : Fr) (B b : Nat) (A : Option Addr) (c : Nat) (l : List Sb) (n i : Nat) (lk : List Sb) (w : World) : Prop :=
  HpB w0 B b w A c lk ∧ lk.Perm l ∧ lk.length = l.length ∧ DnG leS (0, 0) 0 n i lk ∧ n ≤ l.length ∧ ∀ k, n ≤ k → lk.getD k (0, 0) = l.getD k (0, 0)
theorem DnI.step {w0 : Fr} {w w' : World} {B b c n i j : Nat} {A : Option Addr} {l lk : List Sb} (h : DnI w0 B b A c l n i lk w) (h' : HpB w0 B b w' A c (swG (0, 0) lk i j)) (hi : i < j) (hj : j < n) (hd : DnG leS (0, 0) 0 n j (swG (0, 0) lk i j)) : DnI w0 B b A c l n j (swG (0, 0) lk i j) w' := by
  obtain ⟨_, h2, h3, _, h5, h6⟩ := h
  refine ⟨h', (swG_perm lk i j hi (by omega)).trans h2, by rw [swG_len]; exact h3, hd, h5, fun k hk => ?_⟩
  rw [swG_at k (by omega) (by omega), if_neg (by omega), if_neg (by omega)]
  exact h6 k hk
set_option maxHeartbeats 4000000 in
set_option maxRecDepth 100000 in
theorem down_any (w0 : Fr) (B b : Nat) (w : World) (A : Option Addr) (c : Nat) (l : List Sb) (n : Nat) (h : HpB w0 B b w A c l) (hn : n ≤ l.length) (hu : DnG leS (0, 0) 0 n 0 l) :
    Calls Try.prog 26 #[hpV b, .int .i64 0, .int .i64 n] w fun e w' => IsB e ∧ ∃ l', HpB w0 B b w' A c l' ∧ l'.Perm l ∧ l'.length = l.length ∧ HpF leS (0, 0) 0 n l' ∧ ∀ k, n ≤ k → l'.getD k (0, 0) = l.getD k (0, 0) := by
  have H0 := hide (show DnI w0 B b A c l n 0 l w from ⟨h, List.Perm.refl _, rfl, hu, hn, fun _ _ => rfl⟩)
  have hn9 : n ≤ 1000 := by have := h.len; omega
  clear h hn hu
  go_enter Try.func26, Try.ntmps26
  go_wp2_with fail
  go_loopw [7] (fun s7 wr => ∃ (i : Nat) (lk : List Sb), i ≤ 1000 ∧ s7 = .int .i64 i ∧ Hid (DnI w0 B b A c l n i lk wr)) (fun s7 _ => 1000 - (intOf s7).toNat)
  case atStart => exact ⟨0, l, Nat.zero_le _, rfl, H0⟩
  case round =>
    clear H0
    obtain ⟨i, lk, hi9, rfl, HS⟩ := hrel
    obtain ⟨wo, rfl⟩ : ∃ wo : World, wo = wr := ⟨_, rfl⟩
    obtain ⟨j1, hj1⟩ : ∃ j1, 2 * i + 1 = j1 := ⟨_, rfl⟩
    have wj1 : (2 * (i : Int) + 1) = (j1 : Int) := by omega
    have k0 : ¬ (j1 : Int) < 0 := by omega
    have i0 : (0 : Int) ≤ (i : Int) := by omega
    by_cases h1 : n ≤ j1
    · have h1z : (n : Int) ≤ (j1 : Int) := by omega
      have hd := hide (show HpF leS (0, 0) 0 n lk from (unhide HS).2.2.2.1.done fun c h0 h1 h2 => by omega)
      clear hj1
      go_wp2
      go_ret
      exact ⟨⟨_, rfl⟩, lk, (unhide HS).1, (unhide HS).2.1, (unhide HS).2.2.1, unhide hd, (unhide HS).2.2.2.2.2⟩
    have h1z : ¬ (n : Int) ≤ (j1 : Int) := by omega
    obtain ⟨j2, hj2⟩ : ∃ j2, j1 + 1 = j2 := ⟨_, rfl⟩
    have wj2 : ((j1 : Int) + 1) = (j2 : Int) := by omega
    have hl : n ≤ lk.length := by have := (unhide HS).2.2.1; have := (unhide HS).2.2.2.2.1; omega
    have mL := m_less b _ wo (unhide HS).1.cell
    by_cases h2 : j2 < n
    · have h2z : (j2 : Int) < (n : Int) := by omega
      have HL1 := hide (less_any w0 B b wo A c lk j2 j1 (unhide HS).1 (by omega) (by omega))
      cases ht : ltS (lk.getD j2 (0, 0)) (lk.getD j1 (0, 0)) with
      | true =>
        have HMin := hide (show ∀ c, 0 < c → c < n → (c - 1) / 2 = i → c ≠ j2 → leS (lk.getD j2 (0, 0)) (lk.getD c (0, 0)) from fun c h0 h1 h2 h3 => by
          obtain rfl : c = j1 := by omega
          exact lts_yes ht)
        rw [ht] at HL1
        have HJl := hide (show j2 < lk.length by omega)
        have HIl := hide (show i < lk.length by omega)
        have HJn := hide (show i < j2 ∧ j2 < n by omega)
        have HPar := hide (show (j2 - 1) / 2 = i by omega)
        cases hq : ltS (lk.getD j2 (0, 0)) (lk.getD i (0, 0)) with
        | false =>
          have HT := hide hq
          have hd := hide (show HpF leS (0, 0) 0 n lk from (unhide HS).2.2.2.1.done fun c h0 h1 h2 => by
            by_cases e : c = j2
            · rw [e]; exact lts_no hq
            · exact leS_trans _ _ _ (lts_no hq) (unhide HMin c h0 h1 h2 e))
          clear hj1 hj2 hl hq ht h1 h2
          go_wp2_with (first
            | (go_at_call 46; refine (unhide HL1).mono ?_; rintro e w2 ⟨rfl, hs2⟩; have mL2 := m_less b _ w2 hs2.cell; have HL2 := hide (less_any w0 B b w2 A c lk j2 i hs2 (unhide HJl) (unhide HIl)); rw [unhide HT] at HL2; clear hs2 HL1)
            | (go_at_call 46; refine (unhide HL2).mono ?_; rintro e w3 ⟨rfl, hs3⟩))
          go_ret
          exact ⟨⟨_, rfl⟩, lk, hs3, (unhide HS).2.1, (unhide HS).2.2.1, unhide hd, (unhide HS).2.2.2.2.2⟩
        | true =>
          have HT := hide hq
          have HD := hide ((unhide HS).2.2.2.1.step (j := j2) (by omega) (by omega) (by omega) (unhide HPar) (unhide HMin) (lts_yes hq))
          clear hj1 hj2 hl hq ht h1 h2
          go_wp2_with (first
            | (go_at_call 46; refine (unhide HL1).mono ?_; rintro e w2 ⟨rfl, hs2⟩; have mL2 := m_less b _ w2 hs2.cell; have HL2 := hide (less_any w0 B b w2 A c lk j2 i hs2 (unhide HJl) (unhide HIl)); rw [unhide HT] at HL2; clear hs2 HL1)
            | (go_at_call 46; refine (unhide HL2).mono ?_; rintro e w3 ⟨rfl, hs3⟩; have mS := m_swap b _ w3 hs3.cell; have HW := hide (swap_any w0 B b w3 A c lk i j2 hs3 (unhide HIl) (unhide HJl)); clear hs3)
            | (go_at_call 47; refine (unhide HW).mono ?_; rintro e w4 ⟨rfl, hs4⟩))
          go_roundw
          case rel => exact ⟨j2, _, by have := unhide HJn; omega, by go_num, hide ((unhide HS).step hs4 (unhide HJn).1 (unhide HJn).2 (unhide HD))⟩
          case measure => have := unhide HJn; simp [intOf]; omega
      | false =>
        have HMin := hide (show ∀ c, 0 < c → c < n → (c - 1) / 2 = i → c ≠ j1 → leS (lk.getD j1 (0, 0)) (lk.getD c (0, 0)) from fun c h0 h1 h2 h3 => by
          obtain rfl : c = j2 := by omega
          exact lts_no ht)
        rw [ht] at HL1
        have HJl := hide (show j1 < lk.length by omega)
        have HIl := hide (show i < lk.length by omega)
        have HJn := hide (show i < j1 ∧ j1 < n by omega)
        have HPar := hide (show (j1 - 1) / 2 = i by omega)
        cases hq : ltS (lk.getD j1 (0, 0)) (lk.getD i (0, 0)) with
        | false =>
          have HT := hide hq
          have hd := hide (show HpF leS (0, 0) 0 n lk from (unhide HS).2.2.2.1.done fun c h0 h1 h2 => by
            by_cases e : c = j1
            · rw [e]; exact lts_no hq
            · exact leS_trans _ _ _ (lts_no hq) (unhide HMin c h0 h1 h2 e))
          clear hj1 hj2 hl hq ht h1 h2
          go_wp2_with (first
            | (go_at_call 46; refine (unhide HL1).mono ?_; rintro e w2 ⟨rfl, hs2⟩; have mL2 := m_less b _ w2 hs2.cell; have HL2 := hide (less_any w0 B b w2 A c lk j1 i hs2 (unhide HJl) (unhide HIl)); rw [unhide HT] at HL2; clear hs2 HL1)
            | (go_at_call 46; refine (unhide HL2).mono ?_; rintro e w3 ⟨rfl, hs3⟩))
          go_ret
          exact ⟨⟨_, rfl⟩, lk, hs3, (unhide HS).2.1, (unhide HS).2.2.1, unhide hd, (unhide HS).2.2.2.2.2⟩
        | true =>
          have HT := hide hq
          have HD := hide ((unhide HS).2.2.2.1.step (j := j1) (by omega) (by omega) (by omega) (unhide HPar) (unhide HMin) (lts_yes hq))
          clear hj1 hj2 hl hq ht h1 h2
          go_wp2_with (first
            | (go_at_call 46; refine (unhide HL1).mono ?_; rintro e w2 ⟨rfl, hs2⟩; have mL2 := m_less b _ w2 hs2.cell; have HL2 := hide (less_any w0 B b w2 A c lk j1 i hs2 (unhide HJl) (unhide HIl)); rw [unhide HT] at HL2; clear hs2 HL1)
            | (go_at_call 46; refine (unhide HL2).mono ?_; rintro e w3 ⟨rfl, hs3⟩; have mS := m_swap b _ w3 hs3.cell; have HW := hide (swap_any w0 B b w3 A c lk i j1 hs3 (unhide HIl) (unhide HJl)); clear hs3)
            | (go_at_call 47; refine (unhide HW).mono ?_; rintro e w4 ⟨rfl, hs4⟩))
          go_roundw
          case rel => exact ⟨j1, _, by have := unhide HJn; omega, by go_num, hide ((unhide HS).step hs4 (unhide HJn).1 (unhide HJn).2 (unhide HD))⟩
          case measure => have := unhide HJn; simp [intOf]; omega
    · have h2z : ¬ (j2 : Int) < (n : Int) := by omega
      have HMin := hide (show ∀ c, 0 < c → c < n → (c - 1) / 2 = i → c ≠ j1 → leS (lk.getD j1 (0, 0)) (lk.getD c (0, 0)) from fun c h0 h1 h2 h3 => by omega)
      have HJl := hide (show j1 < lk.length by omega)
      have HIl := hide (show i < lk.length by omega)
      have HJn := hide (show i < j1 ∧ j1 < n by omega)
      have HPar := hide (show (j1 - 1) / 2 = i by omega)
      cases hq : ltS (lk.getD j1 (0, 0)) (lk.getD i (0, 0)) with
      | false =>
        have HT := hide hq
        have hd := hide (show HpF leS (0, 0) 0 n lk from (unhide HS).2.2.2.1.done fun c h0 h1 h2 => by
          by_cases e : c = j1
          · rw [e]; exact lts_no hq
          · exact leS_trans _ _ _ (lts_no hq) (unhide HMin c h0 h1 h2 e))
        clear hj1 hj2 hl hq h1 h2
        have HL2 := hide (less_any w0 B b wo A c lk j1 i (unhide HS).1 (unhide HJl) (unhide HIl))
        rw [unhide HT] at HL2
        go_wp2_with (first
          | (go_at_call 46; refine (unhide HL2).mono ?_; rintro e w3 ⟨rfl, hs3⟩))
        go_ret
        exact ⟨⟨_, rfl⟩, lk, hs3, (unhide HS).2.1, (unhide HS).2.2.1, unhide hd, (unhide HS).2.2.2.2.2⟩
      | true =>
        have HT := hide hq
        have HD := hide ((unhide HS).2.2.2.1.step (j := j1) (by omega) (by omega) (by omega) (unhide HPar) (unhide HMin) (lts_yes hq))
        clear hj1 hj2 hl hq h1 h2
        have HL2 := hide (less_any w0 B b wo A c lk j1 i (unhide HS).1 (unhide HJl) (unhide HIl))
        rw [unhide HT] at HL2
        go_wp2_with (first
          | (go_at_call 46; refine (unhide HL2).mono ?_; rintro e w3 ⟨rfl, hs3⟩; have mS := m_swap b _ w3 hs3.cell; have HW := hide (swap_any w0 B b w3 A c lk i j1 hs3 (unhide HIl) (unhide HJl)); clear hs3)
          | (go_at_call 47; refine (unhide HW).mono ?_; rintro e w4 ⟨rfl, hs4⟩))
        go_roundw
        case rel => exact ⟨j1, _, by have := unhide HJn; omega, by go_num, hide ((unhide HS).step hs4 (unhide HJn).1 (unhide HJn).2 (unhide HD))⟩
        case measure => have := unhide HJn; simp [intOf]; omega
end Go.Proofs.Ytbajmbegkacbbaa
