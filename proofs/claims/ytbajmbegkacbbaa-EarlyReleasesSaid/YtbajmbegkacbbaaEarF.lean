/-
  Early (layer 19): container/heap over the program's heap of stored bags: Push, down.
-/
import Derived.Test.YtbajmbegkacbbaaEarE
namespace Go.Proofs.Ytbajmbegkacbbaa
open Go.RowKit

theorem HpF.append {l : List Sb} (h : HpF leS (0, 0) 0 l.length l) (x : Sb) : HpF leS (0, 0) 0 l.length (l ++ [x]) := fun c h0 h1 h2 => by
  have e : ∀ k, k < l.length → (l ++ [x]).getD k ((0, 0) : Sb) = l.getD k (0, 0) := fun k hk => by
    rw [List.getD_eq_getElem?_getD, List.getD_eq_getElem?_getD, List.getElem?_append_left hk]
  rw [e _ (by omega), e _ h1]
  exact h c h0 h1 h2
theorem len_any (A : Option Addr) (n c : Nat) (w : World) : Calls Try.prog 45 #[.slice A n c] w fun e w' => e = .returned (.int .i64 n) ∧ w = w' := by
  go_enter Try.func45, Try.ntmps45
  go_wp2
  go_ret
  exact ⟨rfl, rfl⟩
set_option maxHeartbeats 1000000 in
set_option maxRecDepth 100000 in
theorem hpush_any (w0 : Fr) (B b : Nat) (w : World) (A : Option Addr) (c : Nat) (l : List Sb) (x : Sb) (h : HpB w0 B b w A c l) (hl : l.length < 1000) (hh : HpF leS (0, 0) 0 l.length l) :
    Calls Try.prog 25 #[hpV b, .iface 33 (sbV x)] w fun e w' => e = .returned (.tuple #[]) ∧ ∃ A' c' l', HpB w0 B b w' A' c' l' ∧ l'.Perm (l ++ [x]) ∧ HpF leS (0, 0) 0 l'.length l' := by
  have mP := m_push b w
  have HP := hide (push_any w0 B b w A c l x h hl)
  have HH := hide (hh.append x)
  obtain ⟨N, hN⟩ : ∃ N, (l ++ [x]).length = N := ⟨_, rfl⟩
  have HN := hide hN
  have e1 : (l ++ [x]).length = l.length + 1 := by rw [List.length_append]; rfl
  have wn : IntKind.i64.wrap ((N : Int) - 1) = (l.length : Int) := by rw [IntKind.wrap_i64]; omega
  have HU := hide (show UpG leS (0, 0) (l ++ [x]).length l.length (l ++ [x]) by rw [e1]; exact UpG.start (unhide HH))
  have HL := hide (show l.length < (l ++ [x]).length by omega)
  clear h hh hl hN e1 HH
  go_enter Try.func25, Try.ntmps25
  go_wp2_with (first
    | (go_at_call 52; refine (unhide HP).mono ?_; rintro e w2 ⟨rfl, A2, c2, hs2⟩; have mL := m_len b _ w2 hs2.cell; rw [unhide HN] at mL; have HS2 := hide hs2; clear hs2)
    | (go_at_call 45; refine (len_any _ _ _ _).mono ?_; rintro e w3 ⟨rfl, rfl⟩)
    | (go_at_call 27; refine (up_any w0 B b _ A2 c2 (l ++ [x]) l.length (unhide HS2) (unhide HL) (unhide HU)).mono ?_; rintro e w4 ⟨rfl, l4, hs4, hp4, hl4, hf4⟩))
  go_end0
  exact ⟨rfl, A2, c2, l4, hs4, hp4, by rw [hl4]; exact hf4⟩
end Go.Proofs.Ytbajmbegkacbbaa
