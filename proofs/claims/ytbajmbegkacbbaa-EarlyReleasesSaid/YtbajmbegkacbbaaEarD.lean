/-
  Early (layer 19): the program's heap of stored bags: the methods Push and Pop.
-/
import Derived.Test.YtbajmbegkacbbaaEarC
import Derived.Test.YtbajmbegkacbbaaAnyZ
import Derived.Deep.CutRange
namespace Go.Proofs.Ytbajmbegkacbbaa
open Go.RowKit

abbrev sbV (x : Sb) : Value := .agg (sbA x)
/-- The box takes a row that has grown by one. -/
theorem HpB.grow {w0 : Fr} {w w1 : World} {B b c : Nat} {A : Option Addr} {l : List Sb} {x : Sb} {v : Value} (h : HpB w0 B b w A c l) (hl : l.length < 1000) (ho : w1.ownsRow B 33 2 v (l.length + 1) (l.flatMap sbC ++ sbC x))
    (hg : w.grownBy w1 (Value.slice A l.length c).ownBlock) (hb : v.ownBlock = (Value.slice A l.length c).ownBlock ∨ v.ownBlock = some w.heap.size) : w1.heap[b]? = some (.cells #[.slice A l.length c] 39) ∧ ∃ A' c', v = .slice A' (l.length + 1) c' ∧ HpB w0 B b (w1.setCell ⟨b, 0, none⟩ (.slice A' (l.length + 1) c')) A' c' (l ++ [x]) := by
  have hbx : w1.heap[b]? = some (.cells #[.slice A l.length c] 39) := (hg.block _ h.lt (fun e => by
    rcases A with _ | ⟨q, off, f⟩
    · cases e
    · have h1 := h.row.2
      rcases h1 with ⟨e1, _⟩ | ⟨g, cap, cur, e1, _⟩
      · cases e1
      · injection e1 with e1
        injection e1 with e1
        injection e1 with e2 e3 e4
        subst e2 e3 e4
        injection e with e
        exact h.ne _ _ rfl e.symm)).trans h.box
  have hoth : ∀ g o, w0.R = some (g, o) → w1.heap[g]? = some o := fun g o hg9 => (hg.block _ (Array.getElem?_eq_some_iff.1 (h.oth g o hg9).1).1 (fun e => by
    rcases A with _ | ⟨q, off, f⟩
    · cases e
    · rcases h.row.2 with ⟨e1, _⟩ | ⟨g', cap, cur, e1, _⟩
      · cases e1
      · injection e1 with e1
        injection e1 with e1
        injection e1 with e2 e3 e4
        subst e2 e3 e4
        injection e with e
        exact (h.oth g o hg9).2.2 _ _ rfl e.symm)).trans (h.oth g o hg9).1
  refine ⟨hbx, ?_⟩
  have e1 : (l ++ [x]).length = l.length + 1 := by rw [List.length_append]; rfl
  have ho' : w1.ownsRow B 33 2 v (l ++ [x]).length ((l ++ [x]).flatMap sbC) := by rw [e1, List.flatMap_append]; simpa using ho
  obtain ⟨A', c', rfl⟩ := own_form ho'
  have hne : ∀ q off, A' = some ⟨q, off, none⟩ → q ≠ b := fun q off e hq => by
    subst e hq
    have := h.lt
    rcases hb with hb | hb
    · rcases A with _ | ⟨q', off', f'⟩
      · cases hb
      · rcases h.row.2 with ⟨e1, _⟩ | ⟨g, cap, cur, e1, _⟩
        · cases e1
        · injection e1 with e1
          injection e1 with e1
          injection e1 with e2 e3 e4
          subst e2 e3 e4
          injection hb with hb
          exact h.ne _ _ rfl hb.symm
    · injection hb with hb
      have hb' : q = w.heap.size := hb
      omega
  have hne2 : ∀ g o, w0.R = some (g, o) → ∀ q off, A' = some ⟨q, off, none⟩ → q ≠ g := fun g o hg9 q off e hq => by
    subst e hq
    have hlt := (Array.getElem?_eq_some_iff.1 (h.oth q o hg9).1).1
    rcases hb with hb | hb
    · rcases A with _ | ⟨q', off', f'⟩
      · cases hb
      · rcases h.row.2 with ⟨e1, _⟩ | ⟨g', cap, cur, e1, _⟩
        · cases e1
        · injection e1 with e1
          injection e1 with e1
          injection e1 with e2 e3 e4
          subst e2 e3 e4
          injection hb with hb
          exact (h.oth q o hg9).2.2 _ _ rfl hb.symm
    · injection hb with hb
      have hb' : q = w.heap.size := hb
      omega
  rw [e1] at ho'
  refine ⟨A', c', by rw [e1], h.bel.grown hg h.size (fun k e => ?_) |>.setCell h.bB _, by omega, ?_, ?_, hne, h.bB, fun g o hg9 => ⟨by rw [Below.heap_setCell _ _ _ _ (h.oth g o hg9).2.1]; exact hoth g o hg9, (h.oth g o hg9).2.1, hne2 g o hg9⟩⟩
  · exact (h.row.lt k e).1
  · rw [e1, heap_set hbx]; rfl
  · rw [e1]
    exact ho'.kept (grown_set w1 b 0 _) (.inr (fun e => by
      rcases A' with _ | ⟨q', off', f'⟩
      · cases e
      · rcases ho'.2 with ⟨e2, _⟩ | ⟨g, cap, cur, e2, _⟩
        · cases e2
        · injection e2 with e2
          injection e2 with e2
          injection e2 with e3 e4 e5
          subst e3 e4 e5
          injection e with e
          exact hne _ _ rfl e))
theorem HpB.cut {w0 : Fr} {w : World} {B b c q m : Nat} {l : List Sb} (h : HpB w0 B b w (some ⟨q, 0, none⟩) c l) (hm : m ≤ l.length) : HpB w0 B b (w.setCell ⟨b, 0, none⟩ (.slice (some ⟨q, 0, none⟩) m c)) (some ⟨q, 0, none⟩) c (l.take m) := by
  have e : (l.take m).length = m := by rw [List.length_take]; omega
  have ho := own_cut h.row hm
  rw [(flat_take sbC 2 sbC_len l m hm).1] at ho
  refine ⟨h.bel.setCell h.bB _, by rw [e]; have := h.len; omega, by rw [e, heap_set h.box]; rfl, ?_, h.ne, h.bB, fun g o hg9 => ⟨by rw [Below.heap_setCell _ _ _ _ (h.oth g o hg9).2.1]; exact (h.oth g o hg9).1, (h.oth g o hg9).2⟩⟩
  rw [e]
  exact ho.kept (grown_set w b 0 _) (.inr (fun e => by injection e with e; exact h.ne q 0 rfl e))
theorem assert_sb (x : Sb) (w : World) : (Instr.typeAssert (.iface 33 (sbV x)) 20 33 false).run Try.prog w = .ok (sbV x) w := by kernel_rfl
set_option maxHeartbeats 1000000 in
set_option maxRecDepth 100000 in
theorem push_any (w0 : Fr) (B b : Nat) (w : World) (A : Option Addr) (c : Nat) (l : List Sb) (x : Sb) (h : HpB w0 B b w A c l) (hl : l.length < 1000) :
    Calls Try.prog 52 #[.pointer (some ⟨b, 0, none⟩), .iface 33 (sbV x)] w fun e w' => e = .returned (.tuple #[]) ∧ ∃ A' c', HpB w0 B b w' A' c' (l ++ [x]) := by
  have HP := hide h
  have HL := hide hl
  obtain ⟨i0, zz, hi0, hia, hib, hic, hid⟩ := info_size info_sb
  have HI0 := hide hi0
  have HIA := hide hia
  have HIB := hide hib
  have HIC := hide hic
  have HID := hide hid
  clear hi0 hia hib hic hid h hl
  go_enter Try.func52, Try.ntmps52
  go_upto_region 0 with fail
  refine wp_region_anyZ 9 (fun Z => Z.heap[b]? = some (.cells #[.slice A l.length c] 39)) (by kernel_rfl) ?_
  have HP1 := hide ((unhide HP).below (Below.refl _ w).drew)
  have HSt := hide (unhide HP1).box
  refine anyZ_take (i := 0) (v := .pointer (some ⟨b, 0, none⟩)) rfl (by kernel_rfl) (by kernel_rfl) (by kernel_rfl) (by kernel_rfl) (fun _ _ _ h => h) (Or.inl ⟨by rfl, by intro Z _; go_simp⟩) (unhide HSt) ?_
  refine anyZ_take (i := 1) (v := .pointer (some ⟨b, 0, none⟩)) rfl (by kernel_rfl) (by kernel_rfl) (by kernel_rfl) (by kernel_rfl) (fun _ _ _ h => h) (Or.inl ⟨by rfl, by intro Z _; go_simp⟩) (unhide HSt) ?_
  refine anyZ_take (i := 2) (v := .pointer (some ⟨b, 0, none⟩)) rfl (by kernel_rfl) (by kernel_rfl) (by kernel_rfl) (by kernel_rfl) (fun _ _ _ h => h) (Or.inl ⟨by rfl, by intro Z _; go_simp⟩) (unhide HSt) ?_
  refine anyZ_take (i := 3) (v := .slice A l.length c) rfl (by kernel_rfl) (by kernel_rfl) (by kernel_rfl) (by kernel_rfl) (fun _ _ _ h => h) (Or.inl ⟨by rfl, by intro Z hs; have h9 : Z.cell? ⟨b, 0, none⟩ = some (.slice A l.length c) := (by rw [Lib.cell_of_heap hs]; rfl); go_simp⟩) (unhide HSt) ?_
  refine anyZ_take (i := 4) (v := .iface 33 (sbV x)) rfl (by kernel_rfl) (by kernel_rfl) (by kernel_rfl) (by kernel_rfl) (fun _ _ _ h => h) (Or.inl ⟨by rfl, by intro Z _; go_simp⟩) (unhide HSt) ?_
  go_simp
  refine anyZ_take (i := 5) (v := sbV x) rfl (by kernel_rfl) (by kernel_rfl) (by kernel_rfl) (by kernel_rfl) (fun _ _ _ h => h) (Or.inl ⟨by rfl, by intro Z _; kernel_rfl⟩) (unhide HSt) ?_
  go_simp
  refine anyZ_one (i := 6) (by kernel_rfl) rfl (fun K hK => ?_)
  rw [if_pos (by rfl)]
  refine wp_build1 39 33 _ rfl (sbA x) i0 zz 2 Try.underlying39 (unhide HI0) (unhide HIA) (unhide HIB) (by decide) (by decide) (unhide HID) rfl rfl ?_
  obtain ⟨W1, hW1⟩ : ∃ W1 : World, w.drew.alloc (.cells (sbA x) 33) = W1 := ⟨_, rfl⟩
  have HP2 := hide ((unhide HP1).below ((Below.refl _ w.drew).alloc (Nat.le_refl _) (.cells (sbA x) 33)))
  have HN := hide (heap_alloc_new w.drew (.cells (sbA x) 33))
  rw [hW1] at HP2 HN ⊢
  refine hK _ _ ⟨fun _ => (unhide HP2).box, ?_⟩
  clear hK K
  refine anyZ_one (i := 7) (by kernel_rfl) rfl (fun K hK => ?_)
  rw [if_pos (by rfl)]
  refine wp_append_any _ _ 39 rfl B 33 i0 zz 2 16 Try.underlying39 (unhide HI0) (unhide HIA) (unhide HIB) (unhide HIC) (unhide HID) (by decide) (.slice A l.length c) l.length (l.flatMap sbC) rfl (unhide HP2).row _ 1 1 (sbC x) rfl rfl (fun _ => ⟨w.drew.heap.size, 0, rfl, fun j u hu => by rw [Nat.zero_add, Lib.cell_of_heap (unhide HN), ← Array.getElem?_toList]; exact hu⟩) sb_one1 (by have := unhide HL; unfold maxLen; omega) (by have := unhide HL; omega) (unhide HP2).size ?_
  intro v1 w1 hown hgrow hblk
  obtain ⟨hbx, A', c', rfl, hP3⟩ := (unhide HP2).grow (unhide HL) hown hgrow hblk
  have HX := hide hbx
  have HP3 := hide hP3
  refine hK _ _ ⟨fun _ => hbx, ?_⟩
  clear hK K hown hgrow hblk hbx hP3 HN HP2
  go_simp
  refine anyZ_take (i := 8) (v := .pointer (some ⟨b, 0, none⟩)) rfl (by kernel_rfl) (by kernel_rfl) (by kernel_rfl) (by kernel_rfl) (fun _ _ _ h => h) (Or.inl ⟨by rfl, by intro Z _; go_simp⟩) (unhide HX) ?_
  go_simp
  refine anyZ_one (i := 9) (by kernel_rfl) rfl (fun K hK => ?_)
  have cz := (show w1.cell? ⟨b, 0, none⟩ = some (.slice A l.length c) by rw [Lib.cell_of_heap (unhide HX)]; rfl)
  have fz : w1.frozen? ⟨b, 0, none⟩ = false := frozen_of_row w1 b 0 _ _ (unhide HX)
  go_simp
  refine hK _ _ ⟨fun h => absurd rfl h, ?_⟩
  clear hK K cz fz
  refine anyZ_done (by kernel_rfl) ?_ _
  go_simp
  go_end0
  exact ⟨rfl, A', c', unhide HP3⟩
set_option maxHeartbeats 1000000 in
set_option maxRecDepth 100000 in
theorem pop_any (w0 : Fr) (B b : Nat) (w : World) (A : Option Addr) (c : Nat) (l l' : List Sb) (x : Sb) (hl : l = l' ++ [x]) (h : HpB w0 B b w A c l) :
    Calls Try.prog 51 #[.pointer (some ⟨b, 0, none⟩)] w fun e w' => e = .returned (.iface 33 (sbV x)) ∧ HpB w0 B b w' A c l' := by
  obtain ⟨m, hm⟩ : ∃ m, l'.length = m := ⟨_, rfl⟩
  have hlen : l.length = m + 1 := by rw [hl, List.length_append, hm]; rfl
  have hx : l.getD m (0, 0) = x := by rw [hl, ← hm, List.getD_eq_getElem?_getD]; simp
  have htk : l.take m = l' := by rw [hl, ← hm]; simp
  obtain ⟨q, rfl, a0, a1⟩ := h.at (i := m) (by omega)
  rw [hx] at a0 a1
  have HP := hide h
  have HT := hide htk
  have bx := h.cell
  obtain ⟨N, hN⟩ : ∃ N, l.length = N := ⟨_, rfl⟩
  rw [hN] at bx
  have fz : w.frozen? ⟨b, 0, none⟩ = false := frozen_of_row w b 0 _ _ h.box
  have wm : IntKind.i64.wrap ((N : Int) - 1) = (m : Int) := by have := h.len; rw [IntKind.wrap_i64]; omega
  have m0 : (0 : Int) ≤ (m : Int) := by omega
  have mN : (m : Int) < (N : Int) := by omega
  have mc : (m : Int) ≤ (c : Int) := by have := own_cap h.row; omega
  have HLn := hide (show m ≤ l.length by omega)
  have bN : b ≠ w.heap.size := Nat.ne_of_lt h.lt
  obtain ⟨W1, hW1⟩ : ∃ W1 : World, w.alloc (.cells (sbA x) 33) = W1 := ⟨_, rfl⟩
  have hP1 := h.below ((Below.refl _ w).alloc (Nat.le_refl _) (.cells (sbA x) 33))
  have hN1 := heap_alloc_new w (.cells (sbA x) 33)
  rw [hW1] at hP1 hN1
  have HC := hide (hP1.cut (m := m) (by omega))
  have c1 := hP1.cell
  rw [hN] at c1
  have f1 : W1.frozen? ⟨b, 0, none⟩ = false := frozen_of_row W1 b 0 _ _ hP1.box
  obtain ⟨S, hS⟩ : ∃ S, w.heap.size = S := ⟨_, rfl⟩
  rw [hS] at hN1 bN
  have n0 : (W1.setCell ⟨b, 0, none⟩ (.slice (some ⟨q, 0, none⟩) m c)).cell? ⟨S, 0, none⟩ = some (.int .i64 x.1) := by rw [Lib.cell_of_heap (heap_setOther hN1 (Ne.symm bN) _)]; rfl
  have n1 : (W1.setCell ⟨b, 0, none⟩ (.slice (some ⟨q, 0, none⟩) m c)).cell? ⟨S, 1, none⟩ = some (.int .i64 x.2) := by rw [Lib.cell_of_heap (heap_setOther hN1 (Ne.symm bN) _)]; rfl
  clear hP1 hN1 h hm hl hx htk hlen hN
  go_enter Try.func51, Try.ntmps51
  go_wp2
  go_ret
  rw [unhide HT] at HC
  exact ⟨rfl, unhide HC⟩
end Go.Proofs.Ytbajmbegkacbbaa
