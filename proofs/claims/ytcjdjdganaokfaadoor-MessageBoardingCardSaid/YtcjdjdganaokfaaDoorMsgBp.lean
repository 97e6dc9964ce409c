/-
  MessageBoarding: the walk.
-/
import Derived.Test.YtcjdjdganaokfaaDoorMsgBo
import Derived.Test.YtcjdjdganaokfaaDoorMsgAE
namespace Go.Proofs.YtcjdjdganaokfaaDoor
open Go.RowKit

/-- The message under way: its box, its list in a row of the call's own. -/
structure Bo (w0 : World) (s : Int) (k : Nat) (A : Option Addr) (c : Nat) (W : World) : Prop where
  box : W.heap[w0.heap.size]? = some (msgO (boM (boL s k)) none 0 A c)
  own : W.ownsRow (w0.heap.size + 1) 3 1 (.slice A k c) k ((boL s k).map (Value.int .i64))
  bel : Below w0.heap.size w0 W
theorem Bo.cell {w0 W : World} {s : Int} {k c : Nat} {A : Option Addr} (h : Bo w0 s k A c W) : W.cell? ⟨w0.heap.size, 29, none⟩ = some (.slice A k c) := by
  rw [Lib.cell_of_heap h.box]
  show some (Value.slice A (boL s k).length c) = _
  rw [boL_len]
theorem Bo.lt {w0 W : World} {s : Int} {k c : Nat} {A : Option Addr} (h : Bo w0 s k A c W) : w0.heap.size < W.heap.size := (Array.getElem?_eq_some_iff.1 h.box).1
theorem Bo.push {w0 W w1 : World} {s : Int} {k c q cap : Nat} {A : Option Addr} {v : Int} {tmp : Obj} (h : Bo w0 s k A c W) (hv : v = 1 + (k : Int) * (1 + s))
    (hown : w1.ownsRow (w0.heap.size + 1) 3 1 (.slice (some ⟨q, 0, none⟩) (k + 1) cap) (k + 1) ((boL s k).map (Value.int .i64) ++ [.int .i64 v])) (hgrow : (W.alloc tmp).grownBy w1 (Value.slice A k c).ownBlock) :
    w1.heap[w0.heap.size]? = some (msgO (boM (boL s k)) none 0 A c) ∧ Bo w0 s (k + 1) (some ⟨q, 0, none⟩) cap (w1.setCell ⟨w0.heap.size, 29, none⟩ (.slice (some ⟨q, 0, none⟩) (k + 1) cap)) := by
  have hl := h.lt
  have ba : Below W.heap.size W (W.alloc tmp) := (Below.refl _ _).alloc (Nat.le_refl _) _
  have hb := onward h.bel ba
  have h1 : w1.heap[w0.heap.size]? = some (msgO (boM (boL s k)) none 0 A c) :=
    (hgrow.block _ (Nat.lt_of_lt_of_le hl ba.size) (fun e => by have := (h.own.lt _ e.symm).1; omega)).trans ((ba.block _ hl).trans h.box)
  have hgs : w1.grownBy (w1.setCell ⟨w0.heap.size, 29, none⟩ (.slice (some ⟨q, 0, none⟩) (k + 1) cap)) (some w0.heap.size) := Lib.grownBy_setB (World.grownBy.refl w1 (some w0.heap.size)) 29 _
  refine ⟨h1, ?_, ?_, ?_⟩
  · rw [heap_setM _ h1, show Value.slice (some ⟨q, 0, none⟩) (k + 1) cap = Value.slice (some ⟨q, 0, none⟩) (boL s (k + 1)).length cap by rw [boL_len]]
    rfl
  · rw [boL_snoc, List.map_append, ← hv]
    refine hown.kept hgs (.inr (fun e => ?_))
    have e2 : some q = some w0.heap.size := e
    have := (hown.lt q rfl).1
    injection e2 with e2
    omega
  · exact (hb.grown hgrow hb.size (fun j e => by have := (h.own.lt _ e).1; omega)).setCell (p := ⟨w0.heap.size, 29, none⟩) (Nat.le_refl _) _

set_option maxHeartbeats 8000000 in
set_option maxRecDepth 100000 in
theorem boarding_any (x y : Int) (hy0 : 0 ≤ y) (hy1 : y ≤ 255) (w : World) (hK : Keys w) (hT : Tabs w) :
    Calls Tryd.prog 3 #[.int .i64 x, .int .u8 y] w fun e w' => e = .returned (.bool true) ∧ Below w.heap.size w w' := by
  have r := modN_range x 42 (by decide)
  obtain ⟨N, hN⟩ : ∃ N : Nat, modN x 42 = (N : Int) := ⟨(modN x 42).toNat, by omega⟩
  have hN41 : N ≤ 41 := by omega
  have hmd := mod_any x 42 w (by decide) (by decide)
  rw [hN] at hmd
  have HM := hide hmd
  obtain ⟨s, hs⟩ : ∃ s : Int, y % 24 = s := ⟨_, rfl⟩
  have s0 : 0 ≤ s := by omega
  have s1 : s ≤ 23 := by omega
  have hlt := hT.lt
  have HLT := hide hlt
  have HK := hide hK
  have HT := hide hT
  have hB0 : Bo w s 0 none 0 (w.alloc (msgO (boM []) none 0 none 0)) := ⟨heap_alloc_new w _, World.ownsRow_nil _ _ _ _, (Below.refl _ _).alloc (Nat.le_refl _) _⟩
  obtain ⟨W1, hW1⟩ : ∃ W1 : World, w.alloc (msgO (boM []) none 0 none 0) = W1 := ⟨_, rfl⟩
  rw [hW1] at hB0
  have HB0 := hide hB0
  obtain ⟨i0, hi, hz0, hz1, hz2⟩ := info_parts info_intE
  have HI0 := hide hi
  have HZ0 := hide hz0
  have HZ1 := hide hz1
  have HZ2 := hide hz2
  clear hmd r hN hlt hK hT hB0 hi hz0 hz1 hz2
  go_enter Tryd.func3, Tryd.ntmps3
  go_wp2_with fail
  refine (unhide HM).mono ?_
  rintro e w' ⟨rfl, rfl⟩
  go_wp2_with (refine wpList_storeM_new (g := w.heap.size) rfl (boM []) none 0 none 0 rfl _ _ rfl rfl rfl rfl ?_)
  clear hW1
  go_loopw [6] (fun i wr => ∃ (k : Nat) (A : Option Addr) (c : Nat), k ≤ N ∧ i = .int .i64 k ∧ Hid (Bo w s k A c wr)) (fun i _ => N - (intOf i).toNat)
  case atStart => exact ⟨0, none, 0, Nat.zero_le _, rfl, HB0⟩
  case round =>
    obtain ⟨k, A, c, hk, rfl, HP⟩ := hrel
    obtain ⟨wo, rfl⟩ : ∃ wo : World, wo = wr := ⟨_, rfl⟩
    clear HB0
    by_cases hlt : k < N
    · have kl : (k : Int) < (N : Int) := by omega
      obtain ⟨bd0, bd1⟩ := bo_bd s0 s1 (i := k) (by omega)
      have cA := (unhide HP).cell
      obtain ⟨p, hp⟩ : ∃ p : Int, (k : Int) * (1 + s) = p := ⟨_, rfl⟩
      rw [hp] at bd0 bd1
      have q1 : IntKind.i64.wrap ((k : Int) * (1 + s)) = p := by rw [hp, IntKind.wrap_i64]; omega
      have HPP := hide (show (1 : Int) + p = 1 + (k : Int) * (1 + s) by rw [hp])
      have p0 : 0 ≤ p := bd0
      have p1 : p ≤ 984 := by omega
      have hb5 := (Below.refl wo.heap.size wo).alloc (Nat.le_refl _) (.cells #[.int .i64 (1 + p)] 3)
      have HO5 := hide (owns_below (unhide HP).own hb5)
      have HN5 := hide (World.news_of_block (heap_alloc_new wo (.cells #[.int .i64 (1 + p)] 3)))
      have hz5 : w.heap.size + 1 ≤ (wo.alloc (.cells #[.int .i64 (1 + p)] 3)).heap.size := by have := (unhide HP).lt; have := hb5.size; omega
      clear hb5 bd0 bd1
      go_wp2_with (at_builtin; refine wpList_append_lies _ rfl _ _ 30 rfl (w.heap.size + 1) 3 i0 (.int .i64 0) 1 8 Tryd.underlying30 (unhide HI0) (unhide HZ0) (unhide HZ1) (unhide HZ2) rfl (by decide) _ _ _ rfl (unhide HO5) ⟨wo.heap.size, 0, none⟩ 1 1 [.int .i64 (1 + p)] rfl rfl (unhide HN5) (fun u hu => by rw [List.mem_singleton.1 hu]; rfl) (by decide) (by unfold maxLen; omega) (by omega) hz5 _ rfl ?_)
      intro q cap' w6 hown hgrow hat hlt6
      obtain ⟨g1, g2⟩ := (unhide HP).push (unhide HPP) hown hgrow
      have HG := hide g2
      have c6 : w6.cell? ⟨w.heap.size, 29, none⟩ = some (.slice A k c) := by
        rw [Lib.cell_of_heap g1]
        show some (Value.slice A (boL s k).length c) = _
        rw [boL_len]
      have f6 := Lib.frozen_of_heap g1 29
      clear hown hgrow hat hlt6 g1 g2 cA hp q1
      go_wp2
      go_roundw
      case rel => exact ⟨k + 1, some ⟨q, 0, none⟩, cap', by omega, by go_num, HG⟩
      case measure => simp [intOf]; omega
    · have kl : ¬ (k : Int) < (N : Int) := by omega
      obtain rfl : k = N := by omega
      have hnum : NumsIn 0 wo A (boL s k) := nums_own (by rw [boL_len]; exact (unhide HP).own) (by omega)
      have hcap : k ≤ c := own_le (unhide HP).own
      have hw0 : 0 < wo.heap.size := by have := (unhide HP).lt; omega
      have HBX := hide (unhide HP).box
      have HNM := hide hnum
      by_cases h40 : k ≤ 40
      · have k40 : (k : Int) ≤ 40 := by omega
        have hv := boM_valid (l := boL s k) (by rw [boL_len]; exact h40) (boL_seq s0 s1 hN41) (boL_asc s0 k)
        have HV := hide hv
        have HE := hide (bo_enc hv A c wo hw0 hnum (by rw [boL_len]; exact hcap) (by rw [boL_len]; omega) (boL_seq s0 s1 hN41) ((unhide HK).keep (unhide HP).bel) ((unhide HT).keep (unhide HP).bel))
        have hnum' := hnum
        clear hnum hw0 hv
        have HNP := hide hnum'
        clear hnum'
        go_wp2_with (refine wpList_loadM (unhide HBX) rfl _ rfl rfl ?_)
        have hnum' := unhide HNP
        refine (unhide HE).mono ?_
        rintro e w3 ⟨A3, c3, rfl, hE3, hb3⟩
        have hlen : 2 + nCh (boL s k).length = 2 + (k + 7) / 8 := by rw [boL_len]; rfl
        have hll := boL_len s k
        generalize hn2 : 2 + nCh (boL s k).length = n2 at *
        have HLN := hide hlen
        have e8 : ((n2 : Int) == 2 + ((k : Int) + 7) / 8) = true := by rw [beq_iff_eq, hlen]; omega
        have b4 := (Below.refl w3.heap.size w3).alloc (Nat.le_refl _) (.cells #[.string ⟨#[66, 66, 77]⟩, .string ⟨#[]⟩, .slice A3 n2 c3] 35)
        have hT4 := heap_alloc_new w3 (.cells #[.string ⟨#[66, 66, 77]⟩, .string ⟨#[]⟩, .slice A3 n2 c3] 35)
        have hb34 := onward hb3 b4
        have hb4 := onward (unhide HP).bel hb34
        have hM4 := (hb34.block _ (unhide HP).lt).trans (unhide HBX)
        have hD := bo_dec (unhide HV) A3 c3 (w3.alloc (.cells #[.string ⟨#[66, 66, 77]⟩, .string ⟨#[]⟩, .slice A3 n2 c3] 35)) (by have h1 := hb4.size; have h2 := unhide HLT; omega) (hE3.keep b4) (by rw [hll]; omega) (boL_seq s0 s1 hN41) ((unhide HK).keep hb4) ((unhide HT).keep hb4)
        rw [hn2] at hD
        have HD := hide hD
        have HT4 := hide hT4
        have HB4 := hide hb4
        have HM4 := hide hM4
        have HN4 := hide (hnum'.keep hb34)
        clear hlen hn2 b4 hT4 hb34 hb4 hM4 hD hE3 hb3 hnum'
        have HLL := hide hll
        clear hll
        go_wp2_with fail
        refine (unhide HD).mono ?_
        rintro e w5 ⟨A5, c5, L5, d5, rfl, hN5, hb5⟩
        have b6 := (Below.refl w5.heap.size w5).alloc (Nat.le_refl _) (msgO (boM (boL s k)) A5 c5 L5 d5)
        have hb56 := onward hb5 b6
        have HB6 := hide (onward (unhide HB4) hb56)
        have hX6 := heap_alloc_new w5 (msgO (boM (boL s k)) A5 c5 L5 d5)
        have hT6 := (hb56.block _ (Array.getElem?_eq_some_iff.1 (unhide HT4)).1).trans (unhide HT4)
        have hM6 := (hb56.block _ (Array.getElem?_eq_some_iff.1 (unhide HM4)).1).trans (unhide HM4)
        have hI := kints_any 0 (boL s k) (boL s k) L5 A d5 c (w5.alloc (msgO (boM (boL s k)) A5 c5 L5 d5)) (by rw [unhide HLL]; omega) (hN5.keep b6) ((unhide HN4).keep hb56)
        rw [unhide HLL, decide_eq_true rfl] at hI
        have HI := hide hI
        obtain ⟨W6, hW6⟩ : ∃ W6 : World, w5.alloc (msgO (boM (boL s k)) A5 c5 L5 d5) = W6 := ⟨_, rfl⟩
        rw [hW6] at hX6 hT6 hM6
        have t2 : W6.cell? ⟨w3.heap.size, 2, none⟩ = some (.slice A3 n2 c3) := by rw [Lib.cell_of_heap hT6]; rfl
        have x29 : W6.cell? ⟨w5.heap.size, 29, none⟩ = some (.slice L5 k d5) := by
          rw [Lib.cell_of_heap hX6]
          show some (Value.slice L5 (boL s k).length d5) = _
          rw [unhide HLL]
        have m29 : W6.cell? ⟨w.heap.size, 29, none⟩ = some (.slice A k c) := by
          rw [Lib.cell_of_heap hM6]
          show some (Value.slice A (boL s k).length c) = _
          rw [unhide HLL]
        rw [hW6] at HI HB6
        have HI := hide (unhide HI)
        clear b6 hb56 hX6 hT6 hM6 hI hb5 hN5 HD HT4 HM4
        go_wp2_with (first
          | (refine wpList_storeM_new rfl (boM (boL s k)) A5 c5 L5 d5 rfl _ _ rfl rfl rfl rfl ?_)
          | (go_at_call 13; refine (unhide HI).mono ?_; rintro e w7 ⟨rfl, hb7⟩; have HB7 := hide (onward (unhide HB6) hb7); clear hb7)
          | (go_at_call 11; refine (awake_msg _ ((unhide HK).keep (unhide HB7)) ((unhide HT).keep (unhide HB7))).mono ?_; rintro e wz ⟨rfl, hbz⟩; have HBZ := hide (onward (unhide HB7) hbz); clear hbz))
        go_ret
        exact ⟨rfl, unhide HBZ⟩
      · have k40 : ¬ (k : Int) ≤ 40 := by omega
        have HE := hide (bo_bad (l := boL s k) (by rw [boL_len]; omega) (by rw [boL_len]; omega) A c wo hnum ((unhide HK).keep (unhide HP).bel))
        clear hnum hw0
        go_wp2_with (refine wpList_loadM (unhide HBX) rfl _ rfl rfl ?_)
        refine (unhide HE).mono ?_
        rintro e w3 ⟨rfl, hb3⟩
        have hb4 := onward (onward (unhide HP).bel hb3) ((Below.refl w3.heap.size w3).alloc (Nat.le_refl _) (.cells #[.string ⟨#[]⟩, .string ⟨#[]⟩, .slice none 0 0] 35))
        have HB4 := hide hb4
        clear hb3 hb4
        go_wp2_with (go_at_call 11; refine (awake_msg _ ((unhide HK).keep (unhide HB4)) ((unhide HT).keep (unhide HB4))).mono ?_; rintro e wz ⟨rfl, hbz⟩; have HBZ := hide (onward (unhide HB4) hbz); clear hbz)
        go_ret
        exact ⟨rfl, unhide HBZ⟩
theorem boarding_law (x : Int) (_wx : (Lit.int .i64 x).wf = true) (y : Int) (wy : (Lit.int .u8 y).wf = true) {w : World} (hKT : Keys w ∧ Tabs w) :
    Calls Tryd.prog 3 #[.int .i64 x, .int .u8 y] w fun e w' => e = .returned (.bool true) ∧ Below w.heap.size w w' := by
  have h : 0 ≤ y ∧ y ≤ 255 := by
    have h1 : IntKind.u8.min ≤ y ∧ y ≤ IntKind.u8.max := by have := wy; simpa [Lit.wf] using this
    exact ⟨h1.1, h1.2⟩
  exact boarding_any x y h.1 h.2 w hKT.1 hKT.2
end Go.Proofs.YtcjdjdganaokfaaDoor
