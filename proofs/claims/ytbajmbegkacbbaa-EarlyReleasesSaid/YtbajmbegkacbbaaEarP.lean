/-
  Early (layer 19): what Next and Rank give; the stored bags that the laws read from a list of numbers.
-/
import Derived.Test.YtbajmbegkacbbaaEarA
import Derived.Test.YtbajmbegkacbbaaInsK
import Derived.Deep.AppendLies
namespace Go.Proofs.Ytbajmbegkacbbaa
open Go.RowKit

/-- The bags in the order of their rank. -/
def rnkI (l : List Sb) : List Int := (rkL l).map Prod.fst
theorem rkL_len (l : List Sb) : (rkL l).length = (l.filter cntS).length := (rk_is l).perm.length_eq
theorem rkL_le (l : List Sb) : (rkL l).length ≤ l.length := by rw [rkL_len]; exact List.length_filter_le _ _
theorem nxtI_nil {l : List Sb} (h : rkL l = []) (now : Int) : nxtI l now = 0 := by unfold nxtI; rw [h]
theorem nxtI_cons {l r : List Sb} {s : Sb} (h : rkL l = s :: r) (now : Int) : nxtI l now = if s.2 ≤ now then s.1 else 0 := by unfold nxtI; rw [h]
/-- Some numbers that a call returns. -/
def GivR (w : World) (L : List Int) (e : Ending) (w' : World) : Prop :=
  ∃ A c, e = .returned (.slice A L.length c) ∧ L.length ≤ c ∧ (∀ b, b < w.heap.size ∨ w'.heap.size ≤ b → NumsIn b w' A L) ∧ Below w.heap.size w w'
/-- Stored bags that the laws choose. -/
structure SmS (l : List Sb) : Prop where
  len : l.length ≤ 11
  ok : ∀ s ∈ l, (1 ≤ s.1 ∧ s.1 ≤ 9) ∧ (0 ≤ s.2 ∧ s.2 ≤ 5)
def StoTo (w : World) (e : Ending) (w' : World) : Prop := ∃ (l : List Sb) (A : Option Addr) (c : Nat), e = .returned (.slice A l.length c) ∧ SmS l ∧ w'.ownsRow (w.heap.size + 1) 33 2 (.slice A l.length c) l.length (l.flatMap sbC) ∧ Below w.heap.size w w'
/-- While they are read. -/
def StoI (w : World) (T : List Sb) (A : Option Addr) (c : Nat) (wr : World) : Prop :=
  Src w.heap.size w.heap.size wr ∧ Below w.heap.size w wr ∧ wr.ownsRow (w.heap.size + 1) 33 2 (.slice A T.length c) T.length (T.flatMap sbC) ∧ ∀ s ∈ T, (1 ≤ s.1 ∧ s.1 ≤ 9) ∧ (0 ≤ s.2 ∧ s.2 ≤ 5)
set_option maxHeartbeats 2000000 in
set_option maxRecDepth 100000 in
theorem stored_any (A0 : Option Addr) (n0 c0 : Nat) (w : World) (hc : n0 ≤ c0) (hA : IntsIn w.heap.size w A0 n0) : Calls Try.prog 7 #[.slice A0 n0 c0] w (StoTo w) := by
  have HNew := hide (new_any A0 n0 c0 w hc hA)
  obtain ⟨i0, zz, hi0, hia, hib, hic, hid⟩ := info_size info_sb
  have HI0 := hide hi0
  have HIA := hide hia
  have HIB := hide hib
  have HIC := hide hic
  have HID := hide hid
  clear hA hi0 hia hib hic hid
  go_enter Try.func7, Try.ntmps7
  go_wp2_with fail
  refine (unhide HNew).mono ?_
  rintro e w1 ⟨rfl, hs1, hb1⟩
  have HS1 := hide hs1
  have HB1 := hide hb1
  clear hs1 hb1 HNew
  go_wp2_with fail
  refine (n_any _ _ 12 _ (unhide HS1) (by omega) (by omega)).mono ?_
  rintro e w3 ⟨v, rfl, v0, v1, hs3, hg3⟩
  obtain ⟨m, rfl⟩ := Int.eq_ofNat_of_zero_le v0
  have H0 := hide (show StoI w [] none 0 w3 from ⟨hs3, below_reads (unhide HB1) hg3 (Nat.le_refl _) (unhide HB1).size, World.ownsRow_nil _ _ _ _, fun x hx => by cases hx⟩)
  have hmm : m ≤ 11 := by omega
  clear hs3 hg3 HS1 HB1 v0 v1
  go_wp2_with fail
  go_loopw [4, 5] (fun s4 s5 wr => ∃ (i : Nat) (T : List Sb) (A : Option Addr) (c : Nat), T.length + i ≤ 11 ∧ s4 = .slice A T.length c ∧ s5 = .int .i64 i ∧ Hid (StoI w T A c wr)) (fun _ s5 _ => (intOf s5).toNat)
  case atStart => exact ⟨m, [], none, 0, by simpa using hmm, rfl, rfl, H0⟩
  case round =>
    obtain ⟨i, T, A, c, hi, rfl, rfl, HP⟩ := hrel
    obtain ⟨wo, rfl⟩ : ∃ wo : World, wo = wr := ⟨_, rfl⟩
    clear H0 hmm
    by_cases hlt : 0 < i
    · have il : (0 : Int) < (i : Int) := by omega
      go_wp2_with fail
      refine (range_any _ _ 1 9 _ (unhide HP).1 (by omega) (by omega) (by omega)).mono ?_
      rintro e wn ⟨x, rfl, x0, x1, hs, hg⟩
      have HB2 := hide (below_reads (unhide HP).2.1 hg (Nat.le_refl _) (unhide HP).2.1.size)
      have HO2 := hide ((unhide HP).2.2.1.kept hg (.inr (fun e => by have := ((unhide HP).2.2.1.lt _ e).1; omega)))
      have HS2 := hide hs
      clear hs hg
      go_wp2_with fail
      refine (n_any _ _ 6 _ (unhide HS2) (by omega) (by omega)).mono ?_
      rintro e w6 ⟨y, rfl, y0, y1, hs6, hg6⟩
      have hb6 := below_reads (unhide HB2) hg6 (Nat.le_refl _) (unhide HB2).size
      have ho6 := (unhide HO2).kept hg6 (.inr (fun e => by have := ((unhide HO2).lt _ e).1; omega))
      have b8 := (Below.refl w6.heap.size w6).alloc (Nat.le_refl _) (.cells (sbA (x, y)) 33)
      have HB8 := hide (onward hb6 b8)
      have HS8 := hide (hs6.keep b8)
      have HO8 := hide (owns_later ho6 b8)
      have HNw := hide (World.news_of_block (heap_alloc_new w6 (.cells (sbA (x, y)) 33)))
      have hz8 : w.heap.size + 1 ≤ (w6.alloc (.cells (sbA (x, y)) 33)).heap.size := by rw [World.size_alloc]; have := hb6.size; omega
      have HXY := hide (show (1 ≤ x ∧ x ≤ 9) ∧ 0 ≤ y ∧ y ≤ 5 by omega)
      clear hs6 hg6 hb6 ho6 b8 HB2 HO2 HS2 x0 x1 y0 y1
      go_wp2_with (at_builtin; refine wpList_append_lies _ rfl _ _ 22 rfl (w.heap.size + 1) 33 i0 zz 2 16 Try.underlying22 (unhide HI0) (unhide HIA) (unhide HIB) (unhide HIC) (unhide HID) (by decide) _ _ _ rfl (unhide HO8) ⟨w6.heap.size, 0, none⟩ 1 1 (sbC (x, y)) rfl rfl (unhide HNw) sb_one1 (by decide) (by unfold maxLen; omega) (by omega) hz8 _ rfl ?_)
      intro q cap' w9 hown hgrow hat hlt9
      have hr : ∀ j, (Value.slice A T.length c).ownBlock = some j → w.heap.size + 1 ≤ j := fun j e => ((unhide HO8).lt j e).1
      have HP9 := hide (show StoI w (T ++ [(x, y)]) (some ⟨q, 0, none⟩) cap' w9 from by
        refine ⟨(unhide HS8).grown hgrow (fun j e => hr j e), (unhide HB8).grown hgrow (unhide HB8).size (fun j e => by have := hr j e; omega), ?_, ?_⟩
        · rw [List.length_append, List.flatMap_append]; simpa using hown
        · intro s hs
          rcases List.mem_append.1 hs with hs | hs
          · exact (unhide HP).2.2.2 s hs
          · rw [List.mem_singleton.1 hs]; exact unhide HXY)
      have hw : IntKind.i64.wrap ((i : Int) - 1) = ((i - 1 : Nat) : Int) := by rw [IntKind.wrap_i64]; omega
      clear hown hgrow hat hlt9 hr
      go_wp2
      go_roundw
      case rel => exact ⟨i - 1, T ++ [(x, y)], some ⟨q, 0, none⟩, cap', by rw [List.length_append]; simp; omega, by rw [List.length_append]; rfl, by first | rfl | (rw [show ((i - 1 : Nat) : Int) = (i : Int) - 1 by omega]), HP9⟩
      case measure => simp [intOf]; omega
    · have il : ¬ (0 : Int) < (i : Int) := by omega
      go_wp2
      go_ret
      exact ⟨T, A, c, rfl, ⟨by omega, (unhide HP).2.2.2⟩, (unhide HP).2.2.1, (unhide HP).2.1⟩
end Go.Proofs.Ytbajmbegkacbbaa
