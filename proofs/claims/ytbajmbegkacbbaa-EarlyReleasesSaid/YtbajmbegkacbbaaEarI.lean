/-
  Early (layer 19): container/heap over the program's heap of stored bags: Pop.
-/
import Derived.Test.YtbajmbegkacbbaaEarG
namespace Go.Proofs.Ytbajmbegkacbbaa
open Go.RowKit

theorem leS_all {l : List Sb} (h : HpF leS (0, 0) 0 l.length l) : ∀ x ∈ l, leS (l.getD 0 (0, 0)) x := fun x hx => by
  obtain ⟨k, hk, rfl⟩ := List.getElem_of_mem hx
  have := HpF.root h leS_refl leS_trans k k (Nat.le_refl _) hk
  rw [at_k hk] at this
  exact this
/-- What is left when the root has gone to the end and been cut off. -/
theorem pop_math {l l4 : List Sb} {m : Nat} (hl : l.length = m + 1) (hp : l4.Perm (swG (0, 0) l 0 m)) (hlen : l4.length = (swG ((0, 0) : Sb) l 0 m).length) (hf : HpF leS (0, 0) 0 m l4) (hk : ∀ k, m ≤ k → l4.getD k (0, 0) = (swG (0, 0) l 0 m).getD k (0, 0)) :
    ∃ l', l4 = l' ++ [l.getD 0 (0, 0)] ∧ l'.length = m ∧ HpF leS (0, 0) 0 l'.length l' ∧ l.Perm (l.getD 0 (0, 0) :: l') := by
  rw [swG_len] at hlen
  have e0 : l4.getD m (0, 0) = l.getD 0 (0, 0) := by rw [hk m (Nat.le_refl _), swG_at m (by omega) (by omega), if_pos rfl]
  have e1 : l4 = l4.take m ++ [l.getD 0 (0, 0)] := by
    rw [← e0, at_k (by omega : m < l4.length), ← List.take_succ_eq_append_getElem, List.take_of_length_le (by omega)]
  have e2 : (l4.take m).length = m := by rw [List.length_take]; omega
  refine ⟨l4.take m, e1, e2, fun c h0 h1 h2 => ?_, ?_⟩
  · have et : ∀ k, k < m → (l4.take m).getD k ((0, 0) : Sb) = l4.getD k (0, 0) := fun k hk => by
      rw [List.getD_eq_getElem?_getD, List.getD_eq_getElem?_getD, List.getElem?_take, if_pos hk]
    rw [e2] at h1
    rw [et _ (by omega), et _ h1]
    exact hf c h0 h1 h2
  · have h1 : l4.Perm l := by
      refine hp.trans ?_
      rcases Nat.eq_zero_or_pos m with h0 | h0
      · subst h0
        have : swG ((0, 0) : Sb) l 0 0 = l := by
          unfold swG
          rw [List.set_set, at_k (by omega : 0 < l.length), List.set_getElem_self]
        rw [this]
      · exact swG_perm l 0 m h0 (by omega)
    have h2 : l.Perm (l4.take m ++ [l.getD 0 (0, 0)]) := by rw [← e1]; exact h1.symm
    exact h2.trans List.perm_append_comm
set_option maxHeartbeats 1000000 in
set_option maxRecDepth 100000 in
theorem hpop_any (w0 : Fr) (B b : Nat) (w : World) (A : Option Addr) (c : Nat) (l : List Sb) (h : HpB w0 B b w A c l) (hl : 0 < l.length) (hh : HpF leS (0, 0) 0 l.length l) :
    Calls Try.prog 22 #[hpV b] w fun e w' => e = .returned (.iface 33 (sbV (l.getD 0 (0, 0)))) ∧ ∃ l', HpB w0 B b w' A c l' ∧ HpF leS (0, 0) 0 l'.length l' ∧ l.Perm (l.getD 0 (0, 0) :: l') := by
  obtain ⟨m, hm⟩ : ∃ m, l.length - 1 = m := ⟨_, rfl⟩
  have hlm : l.length = m + 1 := by omega
  have mL := m_len b _ w h.cell
  have mW := m_swap b _ w h.cell
  have hl9 := h.len
  obtain ⟨N, hN⟩ : ∃ N, l.length = N := ⟨_, rfl⟩
  have wn : IntKind.i64.wrap ((N : Int) - 1) = (m : Int) := by rw [IntKind.wrap_i64]; omega
  have HW := hide (swap_any w0 B b w A c l 0 m h (by omega) (by omega))
  have HD := hide (show DnG leS (0, 0) 0 m 0 (swG (0, 0) l 0 m) from DnG.pop (by rw [← hlm]; exact hh) (by omega))
  have HM := hide (show m ≤ (swG ((0, 0) : Sb) l 0 m).length by rw [swG_len]; omega)
  have HX := hide (fun (l4 : List Sb) (h1 : l4.Perm (swG (0, 0) l 0 m)) h2 h3 h4 => pop_math hlm h1 h2 h3 h4)
  rw [hN] at HW mL mW
  clear h hl hh hm hlm hl9 hN
  go_enter Try.func22, Try.ntmps22
  go_wp2_with (first
    | (go_at_call 45; refine (len_any _ _ _ _).mono ?_; rintro e w1 ⟨rfl, rfl⟩)
    | (go_at_call 47; refine (unhide HW).mono ?_; rintro e w2 ⟨rfl, hs2⟩; have HS2 := hide hs2; clear hs2)
    | (go_at_call 26; refine (down_any w0 B b _ A c (swG (0, 0) l 0 m) m (unhide HS2) (unhide HM) (unhide HD)).mono ?_; rintro e w3 ⟨⟨v3, rfl⟩, l4, hs4, hp4, hl4, hf4, hk4⟩; obtain ⟨l', he, hl', hf', hp'⟩ := unhide HX l4 hp4 hl4 hf4 hk4; have mP := m_pop b w3; have HP := hide (pop_any w0 B b w3 A c l4 l' _ he hs4); have HF := hide (And.intro hf' hp'); clear hs4 hp4 hl4 hf4 hk4 he hl' hf' hp')
    | (go_at_call 51; refine (unhide HP).mono ?_; rintro e w5 ⟨rfl, hs5⟩))
  go_ret
  exact ⟨rfl, l', hs5, unhide HF⟩
end Go.Proofs.Ytbajmbegkacbbaa
