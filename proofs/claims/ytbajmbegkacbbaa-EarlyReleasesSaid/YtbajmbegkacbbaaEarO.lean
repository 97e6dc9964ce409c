/-
  Early (layer 19): the program's Rank.
-/
import Derived.Test.YtbajmbegkacbbaaEarN
namespace Go.Proofs.Ytbajmbegkacbbaa
open Go.RowKit

def rowO (L : List Int) : Obj := .cells (L.map (Value.int .i64)).toArray 3 (0, 0)
theorem HpB.write {w0 w : World} {B b c G k : Nat} {A : Option Addr} {l : List Sb} {L : List Int} {x : Int} (h : HpB ⟨w0, some (G, rowO L)⟩ B b w A c l) (hG : B ≤ G) : HpB ⟨w0, some (G, rowO (L.set k x))⟩ B b (w.setCell ⟨G, k, none⟩ (.int .i64 x)) A c l := by
  obtain ⟨h1, h2, h3⟩ := h.oth G _ rfl
  refine ⟨h.bel.setCell hG _, h.len, ?_, ?_, h.ne, h.bB, fun g o hg => ?_⟩
  · rw [Below.heap_setCell _ _ _ _ (Ne.symm h2)]; exact h.box
  · refine h.row.kept (grown_set w G k _) (.inr (fun e => ?_))
    rcases A with _ | ⟨q, off, f⟩
    · cases e
    · rcases h.row.2 with ⟨e1, _⟩ | ⟨g', cap, cur, e1, _⟩
      · cases e1
      · injection e1 with e1
        injection e1 with e1
        injection e1 with e2 e3 e4
        subst e2 e3 e4
        injection e with e
        exact h3 _ _ rfl e
  · injection hg with hg
    injection hg with e1 e2
    subst e1 e2
    exact ⟨RowB.put h1 k x, h2, h3⟩
/-- While the heap is emptied: P has been taken, H is left. -/
def RkI (w : World) (b G n k : Nat) (A : Option Addr) (c : Nat) (o P H : List Sb) (wr : World) : Prop :=
  HpB ⟨w, some (G, rowO (P.map Prod.fst ++ List.replicate (n - k) 0))⟩ w.heap.size b wr A c H ∧ HpF leS (0, 0) 0 H.length H ∧ P.Pairwise leS ∧ (∀ p ∈ P, ∀ h ∈ H, leS p h) ∧ (P ++ H).Perm o ∧ P.length = k ∧ H.length = n - k
theorem RkI.done {w wr : World} {b G n c : Nat} {A : Option Addr} {l o P H : List Sb} (h : RkI w b G n n A c o P H wr) (hp : o.Perm (l.filter cntS)) (hG : w.heap.size ≤ G) : GivR w (rnkI l) (.returned (.slice (some ⟨G, 0, none⟩) n n)) wr := by
  obtain ⟨h1, _, h3, _, h5, h6, h7⟩ := h
  rw [Nat.sub_self] at h7
  obtain rfl : H = [] := List.eq_nil_of_length_eq_zero h7
  rw [List.append_nil] at h5
  have e : P = rkL l := IsRk.rk ⟨h5.trans hp, h3⟩
  have hr := (h1.oth G _ rfl).1
  rw [Nat.sub_self, List.replicate_zero, List.append_nil, e] at hr
  have hl : (rnkI l).length = n := by unfold rnkI; rw [List.length_map, ← e]; exact h6
  refine ⟨some ⟨G, 0, none⟩, n, by rw [hl], by omega, fun b' hb => ?_, h1.bel⟩
  have hrow : RowB wr G (rnkI l) := hr
  have := hrow.lt
  exact hrow.nums (by omega)
theorem RkI.step {w wr w' : World} {b G n k c : Nat} {A : Option Addr} {o P H H' : List Sb} (h : RkI w b G n k A c o P H wr) (hk : k < n) (hG : w.heap.size ≤ G) (h' : HpB ⟨w, some (G, rowO (P.map Prod.fst ++ List.replicate (n - k) 0))⟩ w.heap.size b w' A c H') (hf : HpF leS (0, 0) 0 H'.length H') (hp : H.Perm (H.getD 0 (0, 0) :: H')) :
    RkI w b G n (k + 1) A c o (P ++ [H.getD 0 (0, 0)]) H' (w'.setCell ⟨G, k, none⟩ (.int .i64 (H.getD 0 (0, 0)).1)) := by
  obtain ⟨_, h2, h3, h4, h5, h6, h7⟩ := h
  obtain ⟨r1, r2, r3⟩ := pop_rk h3 h4 hp (leS_all h2)
  have hw := h'.write (k := k) (x := (H.getD 0 (0, 0)).1) hG
  have e : (P.map Prod.fst ++ List.replicate (n - k) (0 : Int)).set k (H.getD 0 (0, 0)).1 = (P ++ [H.getD 0 (0, 0)]).map Prod.fst ++ List.replicate (n - (k + 1)) 0 := by
    rw [List.set_append_right _ _ (by rw [List.length_map, h6]; exact Nat.le_refl _), List.length_map, h6, Nat.sub_self, show n - k = (n - (k + 1)) + 1 by omega, List.replicate_succ, List.set_cons_zero, List.map_append]
    simp
  rw [e] at hw
  have hl := hp.length_eq
  rw [List.length_cons] at hl
  exact ⟨hw, hf, r1, r2, r3.trans h5, by rw [List.length_append, h6]; rfl, by omega⟩
set_option maxHeartbeats 1000000 in
set_option maxRecDepth 100000 in
theorem rank_any (b : Nat) (l : List Sb) (A : Option Addr) (c : Nat) (w : World) (hz : l.length ≤ 1000) (h : SbIn b w A l) :
    Calls Try.prog 12 #[.slice A l.length c] w (GivR w (rnkI l)) := by
  have HC := hide (collect_any b l A c w hz h)
  clear h
  go_enter Try.func12, Try.ntmps12
  go_upto_region 1 with fail
  go_wp2_with fail
  refine (unhide HC).mono ?_
  rintro e w1 ⟨A1, c1, o, rfl, hs, hp, hf⟩
  clear HC
  obtain ⟨n, hn⟩ : ∃ n, o.length = n := ⟨_, rfl⟩
  have hn9 : n ≤ 1000 := by have := hs.len; omega
  obtain ⟨W2, hW2⟩ : ∃ W2 : World, w1.alloc (.cells #[.slice A1 n c1] 39) = W2 := ⟨_, rfl⟩
  have b2 := (Below.refl w1.heap.size w1).alloc (Nat.le_refl _) (.cells #[.slice A1 n c1] 39)
  have hx2 := heap_alloc_new w1 (.cells #[.slice A1 n c1] 39)
  rw [hW2] at b2 hx2
  have z2 : W2.cell? ⟨w1.heap.size, 0, none⟩ = some (.slice A1 n c1) := by rw [Lib.cell_of_heap hx2]; rfl
  have hs2 : W2.heap.size = w1.heap.size + 1 := by rw [← hW2, World.size_alloc]
  have hmk := smake n (by omega) W2
  obtain ⟨W3, hW3⟩ : ∃ W3 : World, W2.alloc (.cells (madeCells #[.int .i64 0] n) 3) = W3 := ⟨_, rfl⟩
  have b3 := (Below.refl W2.heap.size W2).alloc (Nat.le_refl _) (.cells (madeCells #[.int .i64 0] n) 3)
  have hr3 := RowB.zeros W2 n
  rw [hW3] at b3 hr3 hmk
  have hsz := hs.size
  have hb := hs.lt
  obtain ⟨G, hG⟩ : ∃ G, W2.heap.size = G := ⟨_, rfl⟩
  obtain ⟨bx, hbx⟩ : ∃ bx, w1.heap.size = bx := ⟨_, rfl⟩
  have HG := hide (show w.heap.size ≤ G by omega)
  have h3 := (hs.below b2).below b3
  have H0 := hide (show RkI w bx G n 0 A1 c1 o [] o W3 from by
    refine ⟨⟨h3.bel, h3.len, ?_, h3.row, fun q off e => ?_, by omega, fun g o' e => ?_⟩, by rw [hn] at hf ⊢; exact hf, List.Pairwise.nil, (fun _ hp => by cases hp), List.Perm.refl _, rfl, by rw [hn]; rfl⟩
    · rw [hn, ← hbx]; exact heap_below hx2 b3
    · have := World.ownsRow.lt hs.row q (by rw [e]; rfl)
      omega
    · injection e with e
      injection e with e1 e2
      subst e1 e2
      refine ⟨by rw [← hG]; exact hr3, by omega, fun q off e => ?_⟩
      have := World.ownsRow.lt hs.row q (by rw [e]; rfl)
      omega)
  have HP := hide hp
  have HN := hide hn
  rw [hbx] at z2
  rw [hG] at hmk
  rw [hn]
  clear hs hp hf b2 hx2 hs2 b3 hr3 hsz hb h3 hG hn
  go_wp2_with fail
  clear hbx
  go_loopw [13] (fun s13 wr => ∃ (k : Nat) (P H : List Sb), k ≤ n ∧ s13 = .int .i64 k ∧ Hid (RkI w bx G n k A1 c1 o P H wr)) (fun s13 _ => n - (intOf s13).toNat)
  case atStart => exact ⟨0, [], o, Nat.zero_le _, rfl, H0⟩
  case round =>
    clear H0 z2 hmk hW2 hW3
    obtain ⟨k, P, H, hk, rfl, HS⟩ := hrel
    obtain ⟨wo, rfl⟩ : ∃ wo : World, wo = wr := ⟨_, rfl⟩
    by_cases hlt : k < n
    · have kl : (k : Int) < (n : Int) := by omega
      have k0 : (0 : Int) ≤ (k : Int) := by omega
      have hH : 0 < H.length := by have := (unhide HS).2.2.2.2.2.2; omega
      have HPo := hide (hpop_any _ _ _ wo A1 c1 H (unhide HS).1 hH (unhide HS).2.1)
      have HStep := hide (fun w' H' => (unhide HS).step (w' := w') (H' := H') hlt (unhide HG))
      have HLT := hide hlt
      generalize H.getD 0 (0, 0) = x at HPo HStep
      have hT : ∀ w, (Instr.typeAssert (.iface 33 (.agg #[.int .i64 x.1, .int .i64 x.2])) 20 33 false).run Try.prog w = .ok (.agg #[.int .i64 x.1, .int .i64 x.2]) w := assert_sb x
      have hF : ∀ w, (Instr.field 33 (.agg #[.int .i64 x.1, .int .i64 x.2]) 0).run Try.prog w = .ok (.int .i64 x.1) w := fun _ => by kernel_rfl
      have HPo := hide (show Calls Try.prog 22 #[hpV bx] wo fun e w' => e = .returned (.iface 33 (.agg #[.int .i64 x.1, .int .i64 x.2])) ∧ ∃ l', HpB _ _ _ w' A1 c1 l' ∧ HpF leS (0, 0) 0 l'.length l' ∧ H.Perm (x :: l') from unhide HPo)
      clear hH hlt
      go_wp2_with (go_at_call 22; refine (unhide HPo).mono ?_; rintro e w5 ⟨rfl, H', hs5, hf5, hp5⟩; have HS5 := hide (unhide HStep w5 H' hs5 hf5 hp5); have c5 := RowB.cell (show RowB w5 G _ from (hs5.oth G _ rfl).1) (k := k) (by have := (unhide HS).2.2.2.2.2.1; have := unhide HLT; rw [List.length_append, List.length_map, List.length_replicate]; omega); have f5 := RowB.frozen (show RowB w5 G _ from (hs5.oth G _ rfl).1) k; clear hs5 hf5 hp5)
      go_roundw
      case rel => exact ⟨k + 1, _, H', by have := unhide HLT; omega, by go_num, HS5⟩
      case measure => have := unhide HLT; simp [intOf]; omega
    · obtain rfl : k = n := by omega
      have kl : ¬ (k : Int) < (k : Int) := by omega
      have HD := hide ((unhide HS).done (unhide HP) (unhide HG))
      go_wp2
      go_ret
      exact unhide HD
end Go.Proofs.Ytbajmbegkacbbaa
