/-
  awake of the inbox's statements: the walk; Skip.
-/
import Derived.Test.YtcjdjdganaokfaaDoorInbO

/- InbP: awake of the inbox's statements: the walk. -/
namespace Go.Proofs.YtcjdjdganaokfaaDoor
open Go.RowKit

set_option maxRecDepth 100000 in
theorem yields_loadI {ops : Array Oper} {S : World → Prop} {o : Oper} {a : Act} {t : TypeId} {g : Nat} {fr : Nat × Nat} {win : Int} {A : Option Addr} {n c : Nat} (x : Operand) (ho : o.op = .load 46 x)
    (hx : a.eval x = .pointer (some ⟨g, 0, none⟩)) (hw : Region.wanted o (yielded ops a.tmps) = true) (hS : ∀ w, S w → w.heap[g]? = some (.cells #[.int .i64 win, .slice A n c] t fr)) : YieldsIf Tryd.prog ops S o (ibV win A n c) a := by
  refine .inl ⟨hw, fun w hs => ?_⟩
  unfold execOp
  simp only [ho, hx, Instr.loadAt, Instr.sureAddr, Sem.run_bind, Sem.run_pure, Result.andThen_ok, run_loadVar_row w g t _ _ fr _ (hS w hs) undI' undI infoI]

set_option maxRecDepth 100000 in
theorem wp_storeI {o : Oper} {a : Act} {W : World} {K : Act → World → Prop} {Q : Exit → Act → World → Prop} {t : TypeId} {g : Nat} {old : Array Value} (hg : W.heap[g]? = some (.cells old t (0, 0))) (win : Int) (A : Option Addr) (n c : Nat) (x y : Operand) (ho : o.op = .store 46 x y)
    (hx : a.eval x = .pointer (some ⟨g, 0, none⟩)) (hy : a.eval y = ibV win A n c) (hold : old.size = 2)
    (h : K (a.put o.dst undef) (W.setRow g #[.int .i64 win, .slice A n c])) : o.wp Tryd.prog a W K Q :=
  wp_store_row _ x y ho g _ hx hy t old hg infoI hold (by simp [Value.oneCell']) h
set_option maxHeartbeats 8000000 in
set_option maxRecDepth 100000 in
theorem awake_inb (w : World) (hK : Keys w) :
    Calls Tryd.prog 22 #[] w fun e w' => e = .returned (.bool true) ∧ Below w.heap.size w w' := by
  have HK := hide hK
  clear hK
  go_enter Tryd.func22, Tryd.ntmps22
  go_wp2_with fail
  refine (inew_ok 3 w (by decide) (by decide)).mono ?_
  rintro e w1 ⟨rfl, hb1⟩
  have hb2 := onward hb1 ((Below.refl w1.heap.size w1).alloc (Nat.le_refl _) (ibO 3 none 0 0))
  have hX2 := heap_alloc_new w1 (ibO 3 none 0 0)
  obtain ⟨W2, hW2⟩ : ∃ W2 : World, w1.alloc (ibO 3 none 0 0) = W2 := ⟨_, rfl⟩
  rw [hW2] at hb2 hX2
  have hXl : w1.heap.size < W2.heap.size := by rw [← hW2, World.size_alloc]; omega
  have hzw := hb1.size
  clear hb1
  go_wp2_with (refine wpList_storeI_new (g := w1.heap.size) rfl 3 none 0 0 rfl _ _ rfl rfl rfl rfl ?_)
  refine wp_region_held (S := fun _ => True) (by kernel_rfl) ?_
  have hbD : Below W2.heap.size W2 W2.drew := (Below.refl _ _).drew
  have hXD : (W2.drew).heap[w1.heap.size]? = some (ibO 3 none 0 0) := hX2
  have d0 : W2.cell? ⟨w1.heap.size, 0, none⟩ = some (.int .i64 3) := by rw [Lib.cell_of_heap hX2]; rfl
  have d1 : W2.cell? ⟨w1.heap.size, 1, none⟩ = some (.slice none 0 0) := by rw [Lib.cell_of_heap hX2]; rfl
  refine wpAnyH_two (i := 0) (j := 1) (by kernel_rfl) rfl rfl (fun K hK => ?_) (fun K hK => ?_)
  case' refine_1 =>
    go_simp
    refine hK _ _ ⟨trivial, ?_⟩
    clear hK K
    refine wpAnyH_one (i := 1) (by kernel_rfl) rfl (fun K hK => ?_)
    go_simp
    go_at_call 19
    refine (nbd_any ARN 2 W2.drew).mono ?_
    rintro e w3 ⟨rfl, hb3⟩
    try go_simp
    refine hK _ _ ⟨trivial, ?_⟩
    clear hK K
  case' refine_2 =>
    go_simp
    go_at_call 19
    refine (nbd_any ARN 2 W2.drew).mono ?_
    rintro e w3 ⟨rfl, hb3⟩
    try go_simp
    refine hK _ _ ⟨trivial, ?_⟩
    clear hK K
    have d0' := kept (onward hbD hb3) d0
    have d1' := kept (onward hbD hb3) d1
    refine wpAnyH_one (i := 0) (by kernel_rfl) rfl (fun K hK => ?_)
    go_simp
    refine hK _ _ ⟨trivial, ?_⟩
    clear hK K d0' d1'
  all_goals
    have hX3 := (hb3.block _ (Array.getElem?_eq_some_iff.1 hXD).1).trans hXD
    have hB3 : Below w.heap.size w w3 := onward (onward hb2 hbD) hb3
    have hx3 : w1.heap.size < w3.heap.size := (Array.getElem?_eq_some_iff.1 hX3).1
    refine wpAnyH_one (i := 2) (by kernel_rfl) rfl (fun K hK => ?_)
    go_simp
    go_at_call 18
    refine (awk_1 w1.heap.size w3 ((unhide HK).keep hB3) hx3).mono ?_
    rintro e w4 ⟨A1, c1, s, Ao, co, rfl, hs, hin, hb4⟩
    try go_simp
    have hX4 := (hb4.block _ hx3).trans hX3
    refine hK _ _ ⟨trivial, ?_⟩
    clear hK K
    refine wpAnyH_take (i := 3) (v := .tuple #[ibV 3 A1 1 c1, .slice Ao 0 co, .int .i64 2, .int .i64 0]) rfl (by kernel_rfl) (by kernel_rfl) (by kernel_rfl) (fun _ _ _ h => h) (Or.inl ⟨by rfl, by intro w _; go_simp⟩) trivial ?_
    refine wpAnyH_take (i := 4) (v := ibV 3 A1 1 c1) rfl (by kernel_rfl) (by kernel_rfl) (by kernel_rfl) (fun _ _ _ h => h) (Or.inl ⟨by rfl, by intro w _; go_simp⟩) trivial ?_
    refine wpAnyH_take (i := 5) (v := .slice Ao 0 co) rfl (by kernel_rfl) (by kernel_rfl) (by kernel_rfl) (fun _ _ _ h => h) (Or.inl ⟨by rfl, by intro w _; go_simp⟩) trivial ?_
    refine wpAnyH_take (i := 6) (v := .int .i64 2) rfl (by kernel_rfl) (by kernel_rfl) (by kernel_rfl) (fun _ _ _ h => h) (Or.inl ⟨by rfl, by intro w _; go_simp⟩) trivial ?_
    refine wpAnyH_take (i := 7) (v := .int .i64 0) rfl (by kernel_rfl) (by kernel_rfl) (by kernel_rfl) (fun _ _ _ h => h) (Or.inl ⟨by rfl, by intro w _; go_simp⟩) trivial ?_
    refine wpAnyH_one (i := 8) (by kernel_rfl) rfl (fun K hK => ?_)
    have e0 : w4.cell? ⟨w1.heap.size, 0, none⟩ = some (.int .i64 3) := by rw [Lib.cell_of_heap hX4]; rfl
    have e1 : w4.cell? ⟨w1.heap.size, 1, none⟩ = some (.slice none 0 0) := by rw [Lib.cell_of_heap hX4]; rfl
    have f0 := Lib.frozen_of_heap hX4 0
    have f1 := Lib.frozen_of_heap hX4 1
    go_simp
    refine hK _ _ ⟨trivial, ?_⟩
    clear hK K
    refine wpAnyH_take (i := 9) (v := .slice Ao 0 co) rfl (by kernel_rfl) (by kernel_rfl) (by kernel_rfl) (fun _ _ _ h => h) (Or.inl ⟨by rfl, by intro w _; go_simp⟩) trivial ?_
    refine wpAnyH_take (i := 10) (v := .int .i64 2) rfl (by kernel_rfl) (by kernel_rfl) (by kernel_rfl) (fun _ _ _ h => h) (Or.inl ⟨by rfl, by intro w _; go_simp⟩) trivial ?_
    refine wpAnyH_take (i := 11) (v := .int .i64 0) rfl (by kernel_rfl) (by kernel_rfl) (by kernel_rfl) (fun _ _ _ h => h) (Or.inl ⟨by rfl, by intro w _; go_simp⟩) trivial ?_
    refine wpAnyH_done (by kernel_rfl) ?_ _
    have hR5 : ((w4.setCell ⟨w1.heap.size, 0, none⟩ (.int .i64 3)).setCell ⟨w1.heap.size, 1, none⟩ (.slice A1 1 c1)).heap[w1.heap.size]? = some (ibO 3 A1 1 c1) := by
      rw [heap_setM _ (heap_setM _ hX4)]; rfl
    have hg5 := Lib.grownBy_setB (Lib.grownBy_setB (World.grownBy.refl w4 (some w1.heap.size)) 0 (.int .i64 3)) 1 (.slice A1 1 c1)
    have hin5 := hin.grown hg5
    have hB5 : Below w.heap.size w ((w4.setCell ⟨w1.heap.size, 0, none⟩ (.int .i64 3)).setCell ⟨w1.heap.size, 1, none⟩ (.slice A1 1 c1)) := ((onward hB3 hb4).setCell (p := ⟨w1.heap.size, 0, none⟩) hzw _).setCell (p := ⟨w1.heap.size, 1, none⟩) hzw _
    obtain ⟨W5, hW5⟩ : ∃ W5 : World, (w4.setCell ⟨w1.heap.size, 0, none⟩ (.int .i64 3)).setCell ⟨w1.heap.size, 1, none⟩ (.slice A1 1 c1) = W5 := ⟨_, rfl⟩
    rw [hW5] at hR5 hin5 hB5 ⊢
    have HR5 := hide hR5
    have HIN := hide hin5
    have HB5 := hide hB5
    have HS := hide hs
    clear hR5 hin5 hB5 hg5 hin hb4 hX4 e0 e1 f0 f1 hX3 hB3 hx3 hb3 hs d0 d1 hXD hbD hX2 hb2
    go_wp2_with fail
    have hXD := unhide HR5
    have bD : Below W5.heap.size W5 W5.drew := (Below.refl _ _).drew
    have hD : (W5.drew).heap[w1.heap.size]? = some (ibO 3 A1 1 c1) := hXD
    have hXl5 : w1.heap.size < W5.heap.size := (Array.getElem?_eq_some_iff.1 hXD).1
    refine wp_region_held (S := fun Z => Z.heap[w1.heap.size]? = some (ibO 3 A1 1 c1)) (by kernel_rfl) ?_
    refine wpAnyH_take (i := 0) (v := ibV 3 A1 1 c1) rfl (by kernel_rfl) (by kernel_rfl) (by kernel_rfl) (fun _ _ _ h => h) (yields_loadI _ rfl rfl rfl (fun _ h => h)) hD ?_
    refine wpAnyH_two (i := 1) (j := 8) (by kernel_rfl) rfl rfl (fun K hK => ?_) (fun K hK => ?_)
    case' refine_2 =>
      go_simp
      obtain ⟨v5, hv5⟩ : ∃ v5 : World, (W5.alloc (.cells #[.int .i64 0, .slice none 0 0] 46)).drew = v5 := ⟨_, rfl⟩
      obtain ⟨B6, hB6⟩ : ∃ B6, W5.heap.size = B6 := ⟨_, rfl⟩
      have hbv : Below W5.heap.size W5 v5 := by rw [← hv5]; exact ((Below.refl _ _).alloc (Nat.le_refl _) _).drew
      have hX_v5 := (hbv.block _ hXl5).trans hXD
      have hZv : v5.heap[B6]? = some (ibO 0 none 0 0) := by rw [← hv5, ← hB6]; exact heap_alloc_new W5 _
      have hBv : B6 < v5.heap.size := (Array.getElem?_eq_some_iff.1 hZv).1
      refine hK _ _ ⟨by rw [hv5]; exact hX_v5, ?_⟩
      clear hK K
      rw [hv5]
      refine wpAnyH_one (i := 1) (by kernel_rfl) rfl (fun K hK => ?_)
      go_simp
      go_at_call 19
      refine (nbd_any ARN 1 v5).mono ?_
      rintro e w6 ⟨rfl, hb_w6⟩
      try go_simp
      have hX_w6 := (hb_w6.block _ (Array.getElem?_eq_some_iff.1 hX_v5).1).trans hX_v5
      refine hK _ _ ⟨hX_w6, ?_⟩
      clear hK K
      have hb5v := onward hbv hb_w6
      have hZ6 := (hb_w6.block _ hBv).trans hZv
      refine wpAnyH_one (i := 2) (by kernel_rfl) rfl (fun K hK => ?_)
      go_simp
      go_at_call 18
      refine (awk_2 B6 c1 A1 s w6 (unhide HS) ((((unhide HIN).other (Nat.le_of_eq hB6)).keep hbv).keep hb_w6) ((unhide HK).keep (onward (unhide HB5) hb5v)) (Array.getElem?_eq_some_iff.1 hZ6).1).mono ?_
      rintro e w8 ⟨A2, n2, c2, g, off, co2, hgB, rfl, hq8, hb7⟩
      try go_simp
      have hX8 := (hb7.block _ (Array.getElem?_eq_some_iff.1 hX_w6).1).trans hX_w6
      refine hK _ _ ⟨hX8, ?_⟩
      clear hK K
      refine wpAnyH_take (i := 3) (v := .tuple #[ibV 3 A2 n2 c2, .slice (some ⟨g, off, none⟩) 2 co2, .int .i64 1, .int .i64 0]) rfl (by kernel_rfl) (by kernel_rfl) (by kernel_rfl) (fun _ _ _ h => h) (Or.inl ⟨by rfl, by intro w _; go_simp⟩) hX8 ?_
      refine wpAnyH_take (i := 4) (v := ibV 3 A2 n2 c2) rfl (by kernel_rfl) (by kernel_rfl) (by kernel_rfl) (fun _ _ _ h => h) (Or.inl ⟨by rfl, by intro w _; go_simp⟩) hX8 ?_
      refine wpAnyH_take (i := 5) (v := .slice (some ⟨g, off, none⟩) 2 co2) rfl (by kernel_rfl) (by kernel_rfl) (by kernel_rfl) (fun _ _ _ h => h) (Or.inl ⟨by rfl, by intro w _; go_simp⟩) hX8 ?_
      refine wpAnyH_take (i := 6) (v := .int .i64 1) rfl (by kernel_rfl) (by kernel_rfl) (by kernel_rfl) (fun _ _ _ h => h) (Or.inl ⟨by rfl, by intro w _; go_simp⟩) hX8 ?_
      refine wpAnyH_take (i := 7) (v := .int .i64 0) rfl (by kernel_rfl) (by kernel_rfl) (by kernel_rfl) (fun _ _ _ h => h) (Or.inl ⟨by rfl, by intro w _; go_simp⟩) hX8 ?_
      have hZ8 := (hb7.block _ (Array.getElem?_eq_some_iff.1 hZ6).1).trans hZ6
      have hb58 : Below W5.heap.size W5 w8 := onward hb5v hb7
      have hlB : W5.heap.size ≤ B6 := Nat.le_of_eq hB6
    case' refine_1 =>
      go_simp
      go_at_call 19
      refine (nbd_any ARN 1 W5.drew).mono ?_
      rintro e w6 ⟨rfl, hb_w6⟩
      try go_simp
      have hX_w6 := (hb_w6.block _ (Array.getElem?_eq_some_iff.1 hD).1).trans hD
      refine hK _ _ ⟨hX_w6, ?_⟩
      clear hK K
      refine wpAnyH_two (i := 2) (j := 8) (by kernel_rfl) rfl rfl (fun K hK => ?_) (fun K hK => ?_)
      case' refine_1 =>
        have hb56 := onward bD hb_w6
        go_simp
        go_at_call 18
        refine (awk_2 w1.heap.size c1 A1 s w6 (unhide HS) ((unhide HIN).keep hb56) ((unhide HK).keep (onward (unhide HB5) hb56)) (Nat.lt_of_lt_of_le hXl5 hb56.size)).mono ?_
        rintro e w7 ⟨A2, n2, c2, g, off, co2, hgb, rfl, hq, hb7⟩
        try go_simp
        have hX7 := (hb7.block _ (Array.getElem?_eq_some_iff.1 hX_w6).1).trans hX_w6
        refine hK _ _ ⟨hX7, ?_⟩
        clear hK K
        refine wpAnyH_take (i := 3) (v := .tuple #[ibV 3 A2 n2 c2, .slice (some ⟨g, off, none⟩) 2 co2, .int .i64 1, .int .i64 0]) rfl (by kernel_rfl) (by kernel_rfl) (by kernel_rfl) (fun _ _ _ h => h) (Or.inl ⟨by rfl, by intro w _; go_simp⟩) hX7 ?_
        refine wpAnyH_take (i := 4) (v := ibV 3 A2 n2 c2) rfl (by kernel_rfl) (by kernel_rfl) (by kernel_rfl) (fun _ _ _ h => h) (Or.inl ⟨by rfl, by intro w _; go_simp⟩) hX7 ?_
        refine wpAnyH_take (i := 5) (v := .slice (some ⟨g, off, none⟩) 2 co2) rfl (by kernel_rfl) (by kernel_rfl) (by kernel_rfl) (fun _ _ _ h => h) (Or.inl ⟨by rfl, by intro w _; go_simp⟩) hX7 ?_
        refine wpAnyH_take (i := 6) (v := .int .i64 1) rfl (by kernel_rfl) (by kernel_rfl) (by kernel_rfl) (fun _ _ _ h => h) (Or.inl ⟨by rfl, by intro w _; go_simp⟩) hX7 ?_
        refine wpAnyH_take (i := 7) (v := .int .i64 0) rfl (by kernel_rfl) (by kernel_rfl) (by kernel_rfl) (fun _ _ _ h => h) (Or.inl ⟨by rfl, by intro w _; go_simp⟩) hX7 ?_
        refine wpAnyH_one (i := 8) (by kernel_rfl) rfl (fun K hK => ?_)
        go_simp
        obtain ⟨w8, hw8⟩ : ∃ w8 : World, w7.alloc (.cells #[.int .i64 0, .slice none 0 0] 46) = w8 := ⟨_, rfl⟩
        obtain ⟨B6, hB6⟩ : ∃ B6, w7.heap.size = B6 := ⟨_, rfl⟩
        have hb8 : Below w7.heap.size w7 w8 := by rw [← hw8]; exact (Below.refl _ _).alloc (Nat.le_refl _) _
        have hX8 := (hb8.block _ (Array.getElem?_eq_some_iff.1 hX7).1).trans hX7
        have hZ8 : w8.heap[B6]? = some (ibO 0 none 0 0) := by rw [← hw8, ← hB6]; exact heap_alloc_new w7 _
        have hq8 := kept hb8 hq
        have hgB : g ≠ B6 := by have := World.block_lt_of_cell? w7 _ hq; simp only [] at this; omega
        have hb58 : Below W5.heap.size W5 w8 := onward (onward hb56 hb7) hb8
        have hlB : W5.heap.size ≤ B6 := by have := (onward hb56 hb7).size; omega
        refine hK _ _ ⟨by rw [hw8]; exact hX8, ?_⟩
        clear hK K
        rw [hw8]
      case' refine_2 =>
        go_simp
        obtain ⟨v6, hv6⟩ : ∃ v6 : World, w6.alloc (.cells #[.int .i64 0, .slice none 0 0] 46) = v6 := ⟨_, rfl⟩
        obtain ⟨B6, hB6⟩ : ∃ B6, w6.heap.size = B6 := ⟨_, rfl⟩
        have hbv : Below w6.heap.size w6 v6 := by rw [← hv6]; exact (Below.refl _ _).alloc (Nat.le_refl _) _
        have hb56 := onward bD hb_w6
        have hb5v := onward hb56 hbv
        have hX_v6 := (hbv.block _ (Array.getElem?_eq_some_iff.1 hX_w6).1).trans hX_w6
        have hZv : v6.heap[B6]? = some (ibO 0 none 0 0) := by rw [← hv6, ← hB6]; exact heap_alloc_new w6 _
        have hBv : B6 < v6.heap.size := (Array.getElem?_eq_some_iff.1 hZv).1
        refine hK _ _ ⟨by rw [hv6]; exact hX_v6, ?_⟩
        clear hK K
        rw [hv6]
        refine wpAnyH_one (i := 2) (by kernel_rfl) rfl (fun K hK => ?_)
        go_simp
        go_at_call 18
        refine (awk_2 B6 c1 A1 s v6 (unhide HS) ((((unhide HIN).keep hb56).other (Nat.le_of_eq hB6)).keep hbv) ((unhide HK).keep (onward (unhide HB5) hb5v)) hBv).mono ?_
        rintro e w8 ⟨A2, n2, c2, g, off, co2, hgB, rfl, hq8, hb7⟩
        try go_simp
        have hX8 := (hb7.block _ (Array.getElem?_eq_some_iff.1 hX_v6).1).trans hX_v6
        refine hK _ _ ⟨hX8, ?_⟩
        clear hK K
        refine wpAnyH_take (i := 3) (v := .tuple #[ibV 3 A2 n2 c2, .slice (some ⟨g, off, none⟩) 2 co2, .int .i64 1, .int .i64 0]) rfl (by kernel_rfl) (by kernel_rfl) (by kernel_rfl) (fun _ _ _ h => h) (Or.inl ⟨by rfl, by intro w _; go_simp⟩) hX8 ?_
        refine wpAnyH_take (i := 4) (v := ibV 3 A2 n2 c2) rfl (by kernel_rfl) (by kernel_rfl) (by kernel_rfl) (fun _ _ _ h => h) (Or.inl ⟨by rfl, by intro w _; go_simp⟩) hX8 ?_
        refine wpAnyH_take (i := 5) (v := .slice (some ⟨g, off, none⟩) 2 co2) rfl (by kernel_rfl) (by kernel_rfl) (by kernel_rfl) (fun _ _ _ h => h) (Or.inl ⟨by rfl, by intro w _; go_simp⟩) hX8 ?_
        refine wpAnyH_take (i := 6) (v := .int .i64 1) rfl (by kernel_rfl) (by kernel_rfl) (by kernel_rfl) (fun _ _ _ h => h) (Or.inl ⟨by rfl, by intro w _; go_simp⟩) hX8 ?_
        refine wpAnyH_take (i := 7) (v := .int .i64 0) rfl (by kernel_rfl) (by kernel_rfl) (by kernel_rfl) (fun _ _ _ h => h) (Or.inl ⟨by rfl, by intro w _; go_simp⟩) hX8 ?_
        have hZ8 := (hb7.block _ hBv).trans hZv
        have hb58 : Below W5.heap.size W5 w8 := onward hb5v hb7
        have hlB : W5.heap.size ≤ B6 := by have := hb56.size; omega
    all_goals
      have hne : w1.heap.size ≠ B6 := by omega
      have e0 : w8.cell? ⟨B6, 0, none⟩ = some (.int .i64 0) := by rw [Lib.cell_of_heap hZ8]; rfl
      have e1 : w8.cell? ⟨B6, 1, none⟩ = some (.slice none 0 0) := by rw [Lib.cell_of_heap hZ8]; rfl
      have f0 := Lib.frozen_of_heap hZ8 0
      have f1 := Lib.frozen_of_heap hZ8 1
      obtain ⟨w9, hw9⟩ : ∃ w9 : World, (w8.setCell ⟨B6, 0, none⟩ (.int .i64 3)).setCell ⟨B6, 1, none⟩ (.slice A2 n2 c2) = w9 := ⟨_, rfl⟩
      have hX9 : w9.heap[w1.heap.size]? = some (ibO 3 A1 1 c1) := by rw [← hw9, Below.heap_setCell _ _ _ _ hne, Below.heap_setCell _ _ _ _ hne]; exact hX8
      have hb59 : Below W5.heap.size W5 w9 := by rw [← hw9]; exact (hb58.setCell (p := ⟨B6, 0, none⟩) hlB _).setCell (p := ⟨B6, 1, none⟩) hlB _
      have hg9 := Lib.grownBy_setB (Lib.grownBy_setB (World.grownBy.refl w8 (some B6)) 0 (.int .i64 3)) 1 (.slice A2 n2 c2)
      have hq9 : w9.cell? ⟨g, off + 1 * 30 + 3, none⟩ = some (.int .i64 2) := by rw [← hw9]; exact hg9.cell hq8 (by simpa using hgB)
      refine wpAnyH_one (i := 9) (by kernel_rfl) rfl (fun K hK => ?_)
      go_simp
      try rw [hw9]
      refine hK _ _ ⟨hX9, ?_⟩
      clear hK K
      refine wpAnyH_take (i := 10) (v := .slice (some ⟨g, off, none⟩) 2 co2) rfl (by kernel_rfl) (by kernel_rfl) (by kernel_rfl) (fun _ _ _ h => h) (Or.inl ⟨by rfl, by intro w _; go_simp⟩) hX9 ?_
      refine wpAnyH_take (i := 11) (v := .int .i64 1) rfl (by kernel_rfl) (by kernel_rfl) (by kernel_rfl) (fun _ _ _ h => h) (Or.inl ⟨by rfl, by intro w _; go_simp⟩) hX9 ?_
      refine wpAnyH_take (i := 12) (v := .int .i64 0) rfl (by kernel_rfl) (by kernel_rfl) (by kernel_rfl) (fun _ _ _ h => h) (Or.inl ⟨by rfl, by intro w _; go_simp⟩) hX9 ?_
      refine wpAnyH_done (by kernel_rfl) ?_ _
      have hM := awk_3 w1.heap.size c1 A1 s w9 (unhide HS) ((unhide HIN).keep hb59) (Nat.lt_of_lt_of_le hXl5 hb59.size)
      have HM := hide hM
      have HB9 := hide (onward (unhide HB5) hb59)
      have q1 : w9.cell? ⟨g, off + 30 + 3, none⟩ = some (.int .i64 2) := hq9
      have q2 : w9.cell? ⟨g, off + 33, none⟩ = some (.int .i64 2) := hq9
      have x0 : w9.cell? ⟨w1.heap.size, 0, none⟩ = some (.int .i64 3) := by rw [Lib.cell_of_heap hX9]; rfl
      have x1 : w9.cell? ⟨w1.heap.size, 1, none⟩ = some (.slice A1 1 c1) := by rw [Lib.cell_of_heap hX9]; rfl
      clear hM hb58 hb59 hg9 hq9 hq8 hX9 hX8 e0 e1 f0 f1 hZ8
      go_wp2_with (go_at_call 21; refine (unhide HM).mono ?_; rintro e wZ ⟨A3, c3, rfl, hbZ⟩; have HBZ := hide hbZ; clear hbZ)
      go_ret
      exact ⟨rfl, onward (unhide HB9) (unhide HBZ)⟩
end Go.Proofs.YtcjdjdganaokfaaDoor

/- InbQ: Contracts of Skip. -/
namespace Go.Proofs.YtcjdjdganaokfaaDoor
open Go.RowKit

set_option maxHeartbeats 4000000 in
set_option maxRecDepth 100000 in
theorem skip_none (b : Nat) (win : Int) (A : Option Addr) (c : Nat) (ss : List SnS) (p : ByteArray) (w : World) (h : SndsIn b w A ss) (hz : ss.length ≤ 1000000) (hm : MonoF (portC p) ss sn0) (hh : holdsF ss p = false) :
    Calls Tryd.prog 25 #[ibV win A ss.length c, .string p] w fun e w' => e = .returned (.tuple #[ibV 0 none 0 0, .slice none 0 0, .int .i64 6]) ∧ Below w.heap.size w w' := by
  obtain ⟨W1, hW⟩ : ∃ W1 : World, (w.alloc (ibO win A ss.length c)).alloc (ibO 0 none 0 0) = W1 := ⟨_, rfl⟩
  have b1 : Below w.heap.size w W1 := by rw [← hW]; exact below_new ((Below.refl _ _).alloc (Nat.le_refl _) _) _
  have hX1 : W1.heap[w.heap.size]? = some (ibO win A ss.length c) := by rw [← hW, Below.heap_alloc _ _ _ (by rw [World.size_alloc]; omega)]; exact heap_alloc_new w _
  have hR1 : W1.heap[w.heap.size + 1]? = some (ibO 0 none 0 0) := by
    rw [← hW]
    have := heap_alloc_new (w.alloc (ibO win A ss.length c)) (ibO 0 none 0 0)
    rwa [World.size_alloc] at this
  have hF := holder_any b win A c ss p W1 (h.keep b1) hz hm
  rw [hh] at hF
  have HF := hide hF
  have HX1 := hide hX1
  have HR1 := hide hR1
  have HB1 := hide b1
  clear h hm hh hF hX1 hR1 b1
  go_enter Tryd.func25, Tryd.ntmps25
  go_wp2_with (refine wpList_loadI (unhide HX1) rfl _ rfl rfl ?_)
  refine (unhide HF).mono ?_
  rintro e w2 ⟨rfl, hb2⟩
  have HR2 := hide ((hb2.block _ (Array.getElem?_eq_some_iff.1 (unhide HR1)).1).trans (unhide HR1))
  have HB2 := hide (onward (unhide HB1) hb2)
  clear hb2
  go_wp2_with (refine wpList_storeI (unhide HR2) 0 none 0 0 rfl _ _ rfl rfl rfl rfl ?_)
  have hR := setRow_heap w2 (w.heap.size + 1) _ #[.int .i64 0, .slice none 0 0] _ _ (unhide HR2)
  have r0 := Lib.cell_of_heap hR 0
  have r1 := Lib.cell_of_heap hR 1
  refine bodyPost_ret (v := .tuple #[ibV 0 none 0 0, .slice none 0 0, .int .i64 6]) (by simp [results, go_sem, r0, r1]) rfl ?_
  exact ⟨rfl, below_setRow (unhide HB2) (by omega) _⟩

/-- What Skip releases. -/
def skN (s : Snd) : Int := (s.held.getD 0 msg0).num
def skK (s : Snd) : Nat := relN (skN s) s.held

set_option maxHeartbeats 8000000 in
set_option maxRecDepth 100000 in
theorem skip_some (b : Nat) (win : Int) (A : Option Addr) (c : Nat) (ss : List SnS) (p : ByteArray) (w : World) (h : SndsIn b w A ss) (hz : ss.length ≤ 1000) (hm : MonoF (portC p) ss sn0) (hh : holdsF ss p = true) (hb : b < w.heap.size)
    (hf : ∀ s ∈ ss, FewM s.held) (hn1 : 0 ≤ skN (ss.getD (lbF (portC p) ss) sn0).mod) (hn2 : skN (ss.getD (lbF (portC p) ss) sn0).mod ≤ 1000000000) :
    Calls Tryd.prog 25 #[ibV win A ss.length c, .string p] w fun e w' => ∃ (A' : Option Addr) (c' : Nat) (ss' : List SnS) (Ao : Option Addr) (co : Nat) (out : List MsS),
      e = .returned (.tuple #[ibV win A' ss'.length c', .slice Ao out.length co, .int .i64 0]) ∧
      ss'.map SnS.mod = (ss.map SnS.mod).set (lbF (portC p) ss) ⟨(ss.getD (lbF (portC p) ss) sn0).port, skN (ss.getD (lbF (portC p) ss) sn0).mod + (skK (ss.getD (lbF (portC p) ss) sn0).mod : Nat), (ss.getD (lbF (portC p) ss) sn0).mod.held.drop (skK (ss.getD (lbF (portC p) ss) sn0).mod)⟩ ∧
      out.map (·.m) = (ss.getD (lbF (portC p) ss) sn0).mod.held.take (skK (ss.getD (lbF (portC p) ss) sn0).mod) ∧ SndsIn b w' A' ss' ∧ MsgsIn b w' Ao out ∧ Below w.heap.size w w' := by
  obtain ⟨W1, hW⟩ : ∃ W1 : World, (w.alloc (ibO win A ss.length c)).alloc (ibO 0 none 0 0) = W1 := ⟨_, rfl⟩
  have b1 : Below w.heap.size w W1 := by rw [← hW]; exact below_new ((Below.refl _ _).alloc (Nat.le_refl _) _) _
  have hX1 : W1.heap[w.heap.size]? = some (ibO win A ss.length c) := by rw [← hW, Below.heap_alloc _ _ _ (by rw [World.size_alloc]; omega)]; exact heap_alloc_new w _
  have hR1 : W1.heap[w.heap.size + 1]? = some (ibO 0 none 0 0) := by
    rw [← hW]
    have := heap_alloc_new (w.alloc (ibO win A ss.length c)) (ibO 0 none 0 0)
    rwa [World.size_alloc] at this
  have hF := holder_any b win A c ss p W1 (h.keep b1) (by omega) hm
  rw [hh] at hF
  unfold holdsF at hh
  rw [Bool.and_eq_true] at hh
  have hil := hasF_lt hh.1
  obtain ⟨s, hs⟩ : ∃ s, ss.getD (lbF (portC p) ss) sn0 = s := ⟨_, rfl⟩
  have hmem : s ∈ ss := by rw [← hs, at_k hil]; exact List.getElem_mem _
  rw [hs] at hn1 hn2 hh ⊢
  have hne : 0 < s.held.length := by simpa using hh.2
  have HF := hide hF
  have HX1 := hide hX1
  have HR1 := hide hR1
  have HB1 := hide b1
  have HI := hide h
  have HFW := hide hf
  have HS := hide hs
  have HMem := hide hmem
  have HZ1 := hide b1.size
  generalize lbF (portC p) ss = i at *
  clear h hm hh hF hX1 hR1 b1 hf hs hmem
  go_enter Tryd.func25, Tryd.ntmps25
  go_wp2_with (refine wpList_loadI (unhide HX1) rfl _ rfl rfl ?_)
  refine (unhide HF).mono ?_
  rintro e w2 ⟨rfl, hb2⟩
  have HX2 := hide ((hb2.block _ (Array.getElem?_eq_some_iff.1 (unhide HX1)).1).trans (unhide HX1))
  have HR2 := hide ((hb2.block _ (Array.getElem?_eq_some_iff.1 (unhide HR1)).1).trans (unhide HR1))
  have HB2 := hide (onward (unhide HB1) hb2)
  have HZ2 := hide hb2.size
  clear hb2 HF HX1 HR1
  go_wp2_with (refine wpList_loadI (unhide HX2) rfl _ rfl rfl ?_)
  refine (cpi_any b win A c ss w2 ((unhide HI).keep (unhide HB2)) hz (unhide HFW)).mono ?_
  rintro e w6 ⟨A1, c1, ss1, rfl, hmod, hown, hb6⟩
  have hlen1 : ss1.length = ss.length := by have := congrArg List.length hmod; simpa using this
  have hi1 : i < ss1.length := by omega
  obtain ⟨G, cur, rfl, hlG, hG6, _, _, hc⟩ := own_cells hown.row (by omega)
  have hb7 := (Below.refl w6.heap.size w6).alloc (Nat.le_refl _) (ibO win (some ⟨G, 0, none⟩) ss1.length c1)
  have hb67 := onward hb6 hb7
  have hY7 := heap_alloc_new w6 (ibO win (some ⟨G, 0, none⟩) ss1.length c1)
  have hR7 := (hb67.block _ (Array.getElem?_eq_some_iff.1 (unhide HR2)).1).trans (unhide HR2)
  have hG7 := (hb7.block _ (Array.getElem?_eq_some_iff.1 hG6).1).trans hG6
  have hO7 := hown.below hb7
  have hB7 := onward (unhide HB2) hb67
  have hz7 := hb67.size
  have hz6 := hb6.size
  have hm1 : (ss1.getD i sn0).mod = s.mod := by rw [mod_at hmod hil, unhide HS]
  obtain ⟨W7, hW7⟩ : ∃ W7 : World, w6.alloc (ibO win (some ⟨G, 0, none⟩) ss1.length c1) = W7 := ⟨_, rfl⟩
  rw [hW7] at hY7 hR7 hG7 hO7 hB7 hz7
  obtain ⟨k0, k1, k2⟩ := cs_at ss1 i hi1 hc
  have hsm : ss1.getD i sn0 ∈ ss1 := by rw [at_k hi1]; exact List.getElem_mem _
  have hMO := hO7.each _ hsm
  obtain ⟨s1, hs1⟩ : ∃ s1, ss1.getD i sn0 = s1 := ⟨_, rfl⟩
  rw [hs1] at hm1 k0 k1 k2 hMO
  have hmi : s1.held.map (·.m) = s.held.map (·.m) := congrArg Snd.held hm1
  have hl1 : s1.held.length = s.held.length := by have := congrArg List.length hmi; simpa using this
  obtain ⟨g1, cur1, hA1, -, hg1, -, -, hc1⟩ := own_cells hMO.row (by omega)
  have hnum : (s1.held.getD 0 ms0).m.num = skN s.mod := by
    show _ = ((s.held.map (·.m)).getD 0 msg0).num
    rw [← hmi, at_k (show 0 < s1.held.length by omega), at_k (show 0 < (s1.held.map (·.m)).length by rw [List.length_map]; omega), List.getElem_map]
  have q3 : W7.cell? ⟨g1, 3, none⟩ = some (.int .i64 (skN s.mod)) := by
    rw [Lib.cell_of_heap hg1, ← hnum]
    refine hc1 3 _ ?_
    have := flatK_at MsS.cs 30 MsS.cs_len s1.held 0 (by omega) 3 (by omega)
    rw [Nat.zero_mul, Nat.zero_add] at this
    rw [this, at_k (show 0 < s1.held.length by omega)]
    rfl
  rw [hA1] at k2
  have y1 : W7.cell? ⟨w6.heap.size, 1, none⟩ = some (.slice (some ⟨G, 0, none⟩) ss1.length c1) := by rw [Lib.cell_of_heap hY7]; rfl
  have u1 : W7.cell? ⟨G, i * 3 + 1, none⟩ = some (.int .i64 s1.next) := by rw [Lib.cell_of_heap hG7]; exact k1
  have u2 : W7.cell? ⟨G, i * 3 + 2, none⟩ = some (.slice (some ⟨g1, 0, none⟩) s1.held.length s1.c) := by rw [Lib.cell_of_heap hG7]; exact k2
  have f1 := Lib.frozen_of_heap hG7 (i * 3 + 1)
  have il : (i : Int) < (ss1.length : Int) := by omega
  have l0 : (0 : Int) < (s1.held.length : Int) := by omega
  obtain ⟨WH, hWH⟩ : ∃ WH : World, W7.setCell ⟨G, i * 3 + 1, none⟩ (.int .i64 (skN s.mod)) = WH := ⟨_, rfl⟩
  have hHalf : Half w2.heap.size G i ss1 ⟨s1.port, skN s.mod, s1.A, s1.c, s1.held⟩ WH (cur.setIfInBounds (i * 3 + 1) (.int .i64 (skN s.mod))) := by
    rw [← hWH]
    refine ⟨heap_setM _ hG7, chg_cells hc hi1 (fun j h1 h2 => set_other (by omega)) (by rw [hs1]) (set_same k1) (by rw [set_other (by omega), hA1]; exact k2), fun j hj hne => ?_, hMO.step (KeepTy.set hG7 (by decide) _ _) (KeepTy.set hG7 (by decide) _ _) (KeepTy.set hG7 (by decide) _ _), hlG, ?_⟩
    · exact (hO7.each _ (by rw [at_k hj]; exact List.getElem_mem _)).step (KeepTy.set hG7 (by decide) _ _) (KeepTy.set hG7 (by decide) _ _) (KeepTy.set hG7 (by decide) _ _)
    · have : (W7.setCell ⟨G, i * 3 + 1, none⟩ (.int .i64 (skN s.mod))).heap.size = W7.heap.size := by simp [World.setCell]
      omega
  have hfew : FewM s1.held := fewM_of (unhide HFW s (unhide HMem)) hmi
  have hbb : b < w2.heap.size := by have := unhide HZ1; have := unhide HZ2; omega
  have HRel := hide (release_at b w2.heap.size G i ss1 ⟨s1.port, skN s.mod, s1.A, s1.c, s1.held⟩ WH _ hHalf hi1 hbb (show 0 < s1.held.length by omega) hfew hn1 hn2)
  have kI : KeepTy 46 W7 WH := by rw [← hWH]; exact KeepTy.set hG7 (by decide) _ _
  have HYH := hide (kI _ _ _ hY7)
  have HRH := hide (kI _ _ _ hR7)
  have HBH := hide (show Below w.heap.size w WH by rw [← hWH]; exact hB7.setCell (p := ⟨G, i * 3 + 1, none⟩) (by have := (unhide HB2).size; simp only []; omega) _)
  have HBB := hide hbb
  have HMod := hide hmod
  have HMI := hide hmi
  have HP1 := hide (show s1.port = s.port from congrArg Snd.port hm1)
  have HRl := hide (Array.getElem?_eq_some_iff.1 (unhide HR2)).1
  have HYl := hide (kI _ _ _ hY7)
  have yH : WH.cell? ⟨w6.heap.size, 1, none⟩ = some (.slice (some ⟨G, 0, none⟩) ss1.length c1) := by rw [Lib.cell_of_heap (kI _ _ _ hY7)]; rfl
  have HSZ := hide (show w2.heap.size ≤ WH.heap.size from hHalf.sz)
  clear hmod hown hb6 hlen1 hG6 hc hb7 hb67 hY7 hR7 hG7 hO7 hB7 hz7 hz6 hm1 k0 k1 k2 hsm hMO hs1 hmi hl1 hA1 hg1 hc1 hnum hHalf hfew hbb kI
  go_wp2_with (refine wpList_storeI_new (g := w6.heap.size) rfl win (some ⟨G, 0, none⟩) ss1.length c1 rfl _ _ rfl rfl rfl rfl ?_)
  refine (unhide HRel).mono ?_
  rintro e wB ⟨Ao, co, ys, s2, rfl, hys, hyo, hs2, hin, hbB, hkB⟩
  have HYB := hide (hkB _ _ _ (unhide HYH))
  have HRB := hide ((hbB.block _ (unhide HRl)).trans (unhide HRH))
  have HIN := hide hin
  have HBBB := hide hbB
  have HYO := hide hyo
  have HYS := hide hys
  have HS2 := hide hs2
  clear hys hyo hs2 hin hbB hkB
  go_wp2_with (first
    | (refine wpList_storeI (unhide HRB) win (some ⟨G, 0, none⟩) ss1.length c1 rfl _ _ rfl rfl rfl rfl ?_)
    | (refine wpList_loadI (unhide HYB) rfl _ rfl rfl ?_))
  have hR := setRow_heap wB (w.heap.size + 1) _ #[.int .i64 win, .slice (some ⟨G, 0, none⟩) ss1.length c1] _ _ (unhide HRB)
  have r0 := Lib.cell_of_heap hR 0
  have r1 := Lib.cell_of_heap hR 1
  refine bodyPost_ret (v := .tuple #[ibV win (some ⟨G, 0, none⟩) ss1.length c1, .slice Ao ys.length co, .int .i64 0]) (by simp [results, go_sem, r0, r1]) rfl ?_
  have hgr := gr_setRow wB (w.heap.size + 1) #[.int .i64 win, .slice (some ⟨G, 0, none⟩) ss1.length c1]
  have hbw : w.heap.size ≤ w2.heap.size := (unhide HB2).size
  have hys := unhide HYS
  have hs2 := unhide HS2
  simp only [unhide HMI] at hys hs2
  refine ⟨some ⟨G, 0, none⟩, c1, ss1.set i s2, Ao, co, ys, by rw [List.length_set], ?_, hys, ?_, ?_, ?_⟩
  · rw [List.map_set, unhide HMod, hs2, unhide HP1]; rfl
  · exact ((unhide HIN _ (unhide HRl)).grown hgr).merge (unhide HIN b (unhide HBB))
  · exact ((unhide HYO).step (KeepTy.setRow (unhide HRB) (by decide)) (KeepTy.setRow (unhide HRB) (by decide)) (KeepTy.setRow (unhide HRB) (by decide))).ins (by have := unhide HSZ; have := unhide HBB; omega)
  · exact below_setRow ((unhide HBH).trans ((unhide HBBB).mono hbw)) (by omega) _
end Go.Proofs.YtcjdjdganaokfaaDoor
