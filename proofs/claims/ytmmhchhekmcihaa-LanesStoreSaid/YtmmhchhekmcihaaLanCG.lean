/-
  Lanes (layer 17): LanesStore: its walk.
-/
import Derived.Test.YtmmhchhekmcihaaLanCF
import Derived.Test.YtmmhchhekmcihaaLanBG
import Derived.Test.YtmmhchhekmcihaaAnyW
import Derived.Deep.CutRange
namespace Go.Proofs.Ytmmhchhekmcihaa
open Go.RowKit
theorem infoStd : (Try.prog.info? 39).map (·.size) = some 2 := by kernel_rfl
theorem ints_alloc {w : World} {A : Option Addr} {n : Nat} (h : IntsIn w.heap.size w A n) (o : Obj) : IntsIn (w.alloc o).heap.size (w.alloc o) A n := fun hn => by
  obtain ⟨g, off, hA, hg, hc⟩ := h hn
  refine ⟨g, off, hA, by rw [World.size_alloc]; omega, fun i hi => ?_⟩
  obtain ⟨x, hx⟩ := hc i hi
  exact ⟨x, by rw [World.cell?_of_block (Below.heap_alloc _ _ _ hg)]; exact hx⟩
theorem LsS.boxed {w0 W : World} {g1 g2 : Nat} {d1 d2 : Int} {R1 R2 : List (List Bg)} {A1 A2 : Option Addr} {c1 c2 : Nat} (h : LsS w0 g1 g2 d1 R1 A1 c1 d2 R2 A2 c2 W) (o : Obj) (cs : Array Value) : LsS w0 g1 g2 d1 R1 A1 c1 d2 R2 A2 c2 ((W.alloc o).setRow W.heap.size cs) := by
  have := h.lt; have := h.g1R; have := h.g2R
  have k := below_new (Below.refl W.heap.size W) o
  have hk := h.below k
  have hs : ∀ {A : Option Addr} {R : List (List Bg)} {c : Nat}, StoI (D3 w0.heap.size g1 g2) W A R c → StoI (D3 w0.heap.size g1 g2) ((W.alloc o).setRow W.heap.size cs) A R c := fun h1 =>
    (((StoI.mono (S' := fun b => D3 w0.heap.size g1 g2 b ∨ b = W.heap.size) h1 (fun b hb e => e.elim id fun e => absurd e (by omega))).below k).keep (KepS.setRow (W.alloc o) cs (.inr rfl))).mono fun b _ e => .inl e
  exact ⟨below_row hk.bel (by omega) _, hk.src.grown (grown_row _ _ _) (fun j e => by injection e with e; omega), h.g1R, h.g2R, by rw [setRow_other _ _ _ _ (by omega)]; exact hk.b1, by rw [setRow_other _ _ _ _ (by omega)]; exact hk.b2, hs h.s1, hs h.s2⟩
section
variable {ops : Array Oper} {rest : List Oper} {o : Oper} {a : Act} {W : World} {Q : Exit → Act → World → Prop}
theorem wpList_storeSt {x' y' x y : Int} {g : Nat} (hg : W.heap[g]? = some (.cells #[.int .i64 x', .int .i64 y'] 39)) (hgd : o.guard = none) (u v : Operand) (ho : o.op = .store 39 u v)
    (hx : a.eval u = .pointer (some ⟨g, 0, none⟩)) (hy : a.eval v = .agg #[.int .i64 x, .int .i64 y]) (h : wpList Try.prog ops Q rest (a.put o.dst undef) (W.setRow g #[.int .i64 x, .int .i64 y])) : wpList Try.prog ops Q (o :: rest) a W :=
  wpList_store_row hgd _ u v ho g #[.int .i64 x, .int .i64 y] hx hy 39 _ hg (infoStd) rfl (by simp [Value.oneCell']) h
end
set_option maxHeartbeats 8000000 in
set_option maxRecDepth 100000 in
theorem store_any (haw : ∀ w : World, Calls Try.prog 9 #[] w fun e w' => e = .returned (.bool true) ∧ Below w.heap.size w w') (A0 : Option Addr) (n0 c0 : Nat) (w : World) (hc : n0 ≤ c0) (hA : IntsIn w.heap.size w A0 n0) (li dpt bag due : Int) (wb : (Lit.int .i64 bag).wf = true) (wd : (Lit.int .i64 due).wf = true) :
    Calls Try.prog 6 #[.slice A0 n0 c0, .int .i64 li, .int .i64 dpt, .agg #[.int .i64 bag, .int .i64 due]] w fun e w' => e = .returned (.bool true) ∧ Below w.heap.size w w' := by
  obtain ⟨W0, hW0⟩ : ∃ W0 : World, w.alloc (.cells #[.int .i64 bag, .int .i64 due] 39) = W0 := ⟨_, rfl⟩
  have HAw := hide haw
  have HWr := hide (And.intro wb wd)
  have HB0 := hide (show Below w.heap.size w W0 by rw [← hW0]; exact below_new (Below.refl w.heap.size w) _)
  have HRaw := hide (show W0.heap[w.heap.size]? = some (.cells #[.int .i64 bag, .int .i64 due] 39) by rw [← hW0]; exact heap_alloc_new w _)
  have HNew := hide (new_any A0 n0 c0 W0 hc (by rw [← hW0]; exact ints_alloc hA _))
  have HW0 := hide hW0
  clear haw hA wb wd hW0
  go_enter Try.func6, Try.ntmps6
  go_wp2_with fail
  rw [unhide HW0]
  clear HW0
  refine (unhide HNew).mono ?_
  rintro e w1 ⟨rfl, hs1, hb1⟩
  have HS1 := hide hs1
  have HB1 := hide hb1
  obtain ⟨D, R, E, hG⟩ := newG li dpt
  have HG := hide hG
  have HNp := hide (fun W => (sto_ok.new li dpt W).mono fun e w' k => new_u hG k)
  have HNr := hide (fun W => (rnew_st li dpt W).mono fun e w' k => new_u hG k)
  clear hs1 hb1 hG
  go_wp2_with fail
  refine (unhide HNp _).mono ?_
  rintro e w3 ⟨A3, c3, rfl, hb3, h3⟩
  have HB3 := hide hb3
  have H3 := hide h3
  clear hb3 h3
  go_wp2_with fail
  refine (unhide HNr _).mono ?_
  rintro e w5 ⟨A5, c5, rfl, hb5, h5⟩
  have HX := hide (LsS.start (d2 := D) (unhide HB1) (unhide HS1) (unhide HB3) (unhide H3) hb5 h5)
  clear hb5 h5 HB1 HS1 HB3 H3 HNp HNr
  go_upto_region 4 with fail
  obtain ⟨W5, hW5⟩ : ∃ W5 : World, w5.alloc (lnsO D A5 R.length c5) = W5 := ⟨_, rfl⟩
  rw [hW5] at HX ⊢
  obtain ⟨g1, hg1⟩ : ∃ g1 : Nat, w3.heap.size = g1 := ⟨_, rfl⟩
  rw [hg1] at HX ⊢
  obtain ⟨g2, hg2⟩ : ∃ g2 : Nat, w5.heap.size = g2 := ⟨_, rfl⟩
  rw [hg2] at HX ⊢
  have HX := hide (unhide HX)
  clear hW5 hg1 hg2
  have y0 : W5.cell? ⟨g1, 0, none⟩ = some (.int .i64 D) := by rw [Lib.cell_of_heap (unhide HX).b1]; rfl
  have y1 : W5.cell? ⟨g1, 1, none⟩ = some (.slice A3 R.length c3) := by rw [Lib.cell_of_heap (unhide HX).b1]; rfl
  have z0 : W5.cell? ⟨g2, 0, none⟩ = some (.int .i64 D) := by rw [Lib.cell_of_heap (unhide HX).b2]; rfl
  have z1 : W5.cell? ⟨g2, 1, none⟩ = some (.slice A5 R.length c5) := by rw [Lib.cell_of_heap (unhide HX).b2]; rfl
  have q1 : (E != E) = false := bne_self_eq_false E
  have HSame := hide (rsame_any _ _ D R A3 A5 c3 c5 W5 (unhide HG).small.1 (unhide HG).small.2 (unhide HX).s1.row (unhide HX).s2.row)
  go_wp2_with (first | (go_at_call 25; refine (unhide HSame).mono ?_; rintro e w6 ⟨rfl, hb6⟩; have HX6 := hide ((unhide HX).below hb6); clear hb6))
  clear y0 y1 z0 z1 q1 HSame HG HX
  refine (range_any _ _ 1 4 _ (unhide HX6).src (by omega) (by omega) (by omega)).mono ?_
  rintro e w7 ⟨xx, rfl, x1, x2, hs7, hg7⟩
  have HX7 := hide ((unhide HX6).read hs7 hg7)
  clear hs7 hg7 HX6
  go_wp2_with fail
  refine (range_any _ _ 1 4 _ (unhide HX7).src (by omega) (by omega) (by omega)).mono ?_
  rintro e w8 ⟨yy, rfl, y1, y2, hs8, hg8⟩
  have HX8 := hide ((unhide HX7).read hs8 hg8)
  clear hs8 hg8 HX7
  obtain ⟨yn, rfl⟩ := Int.eq_ofNat_of_zero_le (show 0 ≤ yy by omega)
  have hG : NewG xx yn yn (List.replicate xx.toNat []) 0 := .inr ⟨by omega, rfl, rfl, rfl⟩
  have hnl : (List.replicate xx.toNat ([] : List Bg)).flatten = [] := by simp
  have hV : ValL yn (List.replicate xx.toNat []) := ⟨by omega, by rw [List.length_replicate]; omega, fun l hl => by rw [List.eq_of_mem_replicate hl]; exact Nat.zero_le _, fun l hl s hs => by (rw [List.eq_of_mem_replicate hl] at hs; cases hs), by rw [hnl]; exact List.nodup_nil⟩
  clear hnl
  obtain ⟨L0, hL0⟩ : ∃ L0, List.replicate xx.toNat ([] : List Bg) = L0 := ⟨_, rfl⟩
  rw [hL0] at hG hV
  have HG := hide hG.small
  have HNp := hide (fun W => (sto_ok.new xx yn W).mono fun e w' k => new_u hG k)
  have HNr := hide (fun W => (rnew_st xx yn W).mono fun e w' k => new_u hG k)
  have HV0 := hide hV
  clear hL0 hG hV x1 x2 y1 y2
  go_wp2_with fail
  refine (unhide HNp _).mono ?_
  rintro e w9 ⟨A9, c9, rfl, hb9, h9⟩
  have HX9 := hide ((unhide HX8).below hb9)
  have HX10 := hide ((unhide HX9).put1 (d := yn) (h9 _ (unhide HX8).old))
  clear hb9 h9 HX8
  go_wp2_with (first | (refine wpList_storeLn (unhide HX9).b1 rfl _ _ rfl rfl rfl ?_))
  refine (unhide HNr _).mono ?_
  rintro e w11 ⟨A11, c11, rfl, hb11, h11⟩
  have HX11 := hide ((unhide HX10).below hb11)
  have HX12 := hide ((unhide HX11).put2 (d := yn) (h11 _ (unhide HX10).old))
  clear hb11 h11 HX9 HX10
  go_upto_region 9 with (first | (refine wpList_storeLn (unhide HX11).b2 rfl _ _ rfl rfl rfl ?_))
  obtain ⟨W12, hW12⟩ : ∃ W12 : World, w11.setRow g2 #[.int .i64 yn, .slice A11 L0.length c11] = W12 := ⟨_, rfl⟩
  rw [hW12] at HX12 ⊢
  have HX12 := hide (unhide HX12)
  clear hW12 HX11 HNp HNr
  have y0 : W12.cell? ⟨g1, 0, none⟩ = some (.int .i64 yn) := by rw [Lib.cell_of_heap (unhide HX12).b1]; rfl
  have y1 : W12.cell? ⟨g1, 1, none⟩ = some (.slice A9 L0.length c9) := by rw [Lib.cell_of_heap (unhide HX12).b1]; rfl
  have z0 : W12.cell? ⟨g2, 0, none⟩ = some (.int .i64 yn) := by rw [Lib.cell_of_heap (unhide HX12).b2]; rfl
  have z1 : W12.cell? ⟨g2, 1, none⟩ = some (.slice A11 L0.length c11) := by rw [Lib.cell_of_heap (unhide HX12).b2]; rfl
  have HSame := hide (rsame_any _ _ yn L0 A9 A11 c9 c11 W12 (unhide HG).1 (unhide HG).2 (unhide HX12).s1.row (unhide HX12).s2.row)
  go_wp2_with (first | (go_at_call 25; refine (unhide HSame).mono ?_; rintro e w13 ⟨rfl, hb13⟩; have HX13 := hide (And.intro ((unhide HX12).below hb13) (unhide HV0)); clear hb13))
  clear y0 y1 z0 z1 HSame HG HX12 HV0
  go_loopw [16] (fun s16 wr => ∃ (i : Nat) (L : List (List Bg)) (A : Option Addr) (c : Nat) (A' : Option Addr) (c' : Nat), i ≤ 30 ∧ s16 = .int .i64 (i : Int) ∧ Hid (LsS W0 g1 g2 yn L A c yn L A' c' wr ∧ ValL yn L)) (fun s16 _ => 30 - (intOf s16).toNat)
  case atStart => exact ⟨0, L0, A9, c9, A11, c11, by omega, rfl, HX13⟩
  case round =>
  obtain ⟨i, L, A, c, A', c', hi, rfl, HI⟩ := hrel
  obtain ⟨wo, rfl⟩ : ∃ wo : World, wo = wr := ⟨_, rfl⟩
  clear HX13

  by_cases h30 : i < 30
  · have i30 : (i : Int) < 30 := by omega
    by_cases h4 : i < 4
    · have i4 : (i : Int) < 4 := by omega
      have HJ := hide (unhide HI).1
      have HV := hide (unhide HI).2
      clear HI
      by_cases h3 : i = 3
      · have i3 : ((i : Int) == 3) = true := by rw [beq_iff_eq]; omega
        clear h3
        go_wp2_with fail
        refine (range_any _ _ 0 14 _ (unhide HJ).src (by omega) (by omega) (by omega)).mono ?_
        rintro e w15 ⟨bb, rfl, bb1, bb2, hs15, hg15⟩
        have HJ1 := hide ((unhide HJ).read hs15 hg15)
        clear hs15 hg15 HJ
        go_wp2_with fail
        refine (n_any _ _ 9 _ (unhide HJ1).src (by omega) (by omega)).mono ?_
        rintro e w16 ⟨dd, rfl, dd1, dd2, hs16, hg16⟩
        have HJ2 := hide ((unhide HJ1).read hs16 hg16)
        have HW := hide (show (Lit.int .i64 bb).wf = true ∧ (Lit.int .i64 dd).wf = true from ⟨WalkArith.wf_i64 (by omega), WalkArith.wf_i64 (by omega)⟩)
        clear hs16 hg16 HJ1 bb1 bb2 dd1 dd2
        go_upto_region 16 with fail
        have HJ4 := hide ((unhide HJ2).boxed (.cells #[.int .i64 bb, .int .i64 dd] 39) #[.int .i64 bag, .int .i64 due])
        have HRb := hide (heap_below (unhide HRaw) ((unhide HJ2).below (below_new (Below.refl w16.heap.size w16) (.cells #[.int .i64 bb, .int .i64 dd] 39))).bel)
        have HBx := hide (show ((w16.alloc (.cells #[.int .i64 bb, .int .i64 dd] 39)).setRow w16.heap.size #[.int .i64 bag, .int .i64 due]).heap[w16.heap.size]? = some (.cells #[.int .i64 bag, .int .i64 due] 39) from setRow_heap _ _ _ _ _ _ (heap_alloc_new w16 (.cells #[.int .i64 bb, .int .i64 dd] 39)))
        have r0 : (w16.alloc (.cells #[.int .i64 bb, .int .i64 dd] 39)).cell? ⟨w.heap.size, 0, none⟩ = some (.int .i64 bag) := by rw [Lib.cell_of_heap (unhide HRb)]; rfl
        have r1 : (w16.alloc (.cells #[.int .i64 bb, .int .i64 dd] 39)).cell? ⟨w.heap.size, 1, none⟩ = some (.int .i64 due) := by rw [Lib.cell_of_heap (unhide HRb)]; rfl
        go_upto_region 17 with (first | (refine wpList_storeSt (heap_alloc_new w16 _) rfl _ _ rfl rfl rfl ?_))
        clear r0 r1 HRb HW
        have HW := HWr
        have hyg := (unhide HJ2).lt
        clear HJ2
        obtain ⟨W18, hW18⟩ : ∃ W18 : World, (w16.alloc (.cells #[.int .i64 bb, .int .i64 dd] 39)).setRow w16.heap.size #[.int .i64 bag, .int .i64 due] = W18 := ⟨_, rfl⟩
        rw [hW18] at HJ4 HBx ⊢
        obtain ⟨y, hy⟩ : ∃ y : Nat, w16.heap.size = y := ⟨_, rfl⟩
        rw [hy] at HBx hyg ⊢
        have HJ4 := hide (unhide HJ4)
        have HBx := hide (unhide HBx)
        have HYg := hide hyg
        clear hy hW18 hyg
        obtain ⟨bb, dd, hbd⟩ : ∃ bb dd : Int, bag = bb ∧ due = dd := ⟨_, _, rfl, rfl⟩
        obtain ⟨e1, e2⟩ := hbd
        rw [e1, e2] at HBx HW
        have HBx := hide (unhide HBx)
        have HW := hide (unhide HW)
        clear e1 e2
        go_wp2_with fail
        refine (n_any _ _ 3 _ (unhide HJ4).src (by omega) (by omega)).mono ?_
        rintro e w19 ⟨z, rfl, zz1, zz2, hs19, hg19⟩
        have HJ5 := hide ((unhide HJ4).read hs19 hg19)
        have HBx5 := hide ((hg19.block y (Array.getElem?_eq_some_iff.1 (unhide HBx)).1 (fun e => by injection e with e; have := unhide HYg; have := (unhide HJ4).g1R; have := (unhide HJ4).g2R; omega)).trans (unhide HBx))
        clear hs19 hg19 zz1 zz2 HBx HJ4 HYg
        by_cases hz : z = 0
        · have q0 : (z == 0) = true := by rw [beq_iff_eq]; exact hz
          clear hz
          obtain ⟨D, R, M, E, hT⟩ := takeG bb (unhide HV)
          have HTp := hide (fun (S : Nat → Prop) (A : Option Addr) (c : Nat) (W : World) (h : StoI S W A L c) (ho : Old S W) => (sto_ok.take yn L bb A c S W (unhide HV) h ho (unhide HW).1).mono fun e w' k => take_u hT k)
          have HTr := hide (fun (S : Nat → Prop) (A : Option Addr) (c : Nat) (W : World) (h : StoI S W A L c) (ho : Old S W) => (rtake_st yn L bb A c S W (unhide HV) h ho).mono fun e w' k => take_u hT k)
          have HG := hide hT
          clear hT
          have b0 : w19.cell? ⟨y, 0, none⟩ = some (.int .i64 bb) := by rw [Lib.cell_of_heap (unhide HBx5)]; rfl
          have b1 : w19.cell? ⟨y, 1, none⟩ = some (.int .i64 dd) := by rw [Lib.cell_of_heap (unhide HBx5)]; rfl
          go_wp2_with (first | (refine wpList_loadLn (unhide HJ5).b1 rfl _ rfl rfl ?_))
          refine (unhide HTp (D3 W0.heap.size g1 g2) A c w19 (unhide HJ5).s1 (unhide HJ5).old).mono ?_
          rintro e w20 ⟨A3, c3, B3, e3, rfl, hb20, hs20, hm20⟩
          have HJ6 := hide (((unhide HJ5).below hb20).below (below_new (Below.refl w20.heap.size w20) (lnsO D A3 R.length c3)))
          have HTa := hide (hs20.below (below_new (Below.refl w20.heap.size w20) (lnsO D A3 R.length c3)))
          have HYa := hide (heap_alloc_new w20 (lnsO D A3 R.length c3))
          have HBx6 := hide (heap_below (heap_below (unhide HBx5) hb20) (below_new (Below.refl w20.heap.size w20) (lnsO D A3 R.length c3)))
          have HMa := hide ((hm20 W0.heap.size (.inl rfl)).keep (below_new (Below.refl w20.heap.size w20) (lnsO D A3 R.length c3)))
          have HN18 := hide (((unhide HJ5).below hb20).lt)
          clear hb20 hs20 b0 b1 hm20
          go_upto_region 19 with fail
          obtain ⟨W21, hW21⟩ : ∃ W21 : World, w20.alloc (lnsO D A3 R.length c3) = W21 := ⟨_, rfl⟩
          rw [hW21] at HJ6 HTa HYa HBx6 HMa ⊢
          obtain ⟨y18, hy18⟩ : ∃ y18 : Nat, w20.heap.size = y18 := ⟨_, rfl⟩
          rw [hy18] at HYa HN18 ⊢
          have HJ6 := hide (unhide HJ6)
          have HTa := hide (unhide HTa)
          have HYa := hide (unhide HYa)
          have HBx6 := hide (unhide HBx6)
          have HMa := hide (unhide HMa)
          have HN18 := hide (unhide HN18)
          clear hW21 hy18 HJ5 HBx5
          have b0 : W21.cell? ⟨y, 0, none⟩ = some (.int .i64 bb) := by rw [Lib.cell_of_heap (unhide HBx6)]; rfl
          have b1 : W21.cell? ⟨y, 1, none⟩ = some (.int .i64 dd) := by rw [Lib.cell_of_heap (unhide HBx6)]; rfl
          go_wp2_with (first | (refine wpList_loadLn (unhide HJ6).b2 rfl _ rfl rfl ?_))
          refine (unhide HTr (D3 W0.heap.size g1 g2) A' c' W21 (unhide HJ6).s2 (unhide HJ6).old).mono ?_
          rintro e w22 ⟨A5, c5, B5, e5, rfl, hb22, hs22, hm22⟩
          have bn := below_new (Below.refl w22.heap.size w22) (lnsO D A5 R.length c5)
          have HJ9 := hide (((unhide HJ6).below hb22).below bn)
          have HTa := hide (((unhide HTa).below hb22).below bn)
          have HTb := hide (hs22.below bn)
          have HYa := hide (heap_below (heap_below (unhide HYa) hb22) bn)
          have HYb := hide (heap_alloc_new w22 (lnsO D A5 R.length c5))
          have HMa := hide (((unhide HMa).keep hb22).keep bn)
          have HMb := hide ((hm22 W0.heap.size (.inl rfl)).keep bn)
          have HN21 := hide (((unhide HJ6).below hb22).lt)
          clear hb22 hs22 b0 b1 bn HJ6 HBx6 HTp HTr hm22
          go_upto_region 20 with fail
          obtain ⟨W23, hW23⟩ : ∃ W23 : World, w22.alloc (lnsO D A5 R.length c5) = W23 := ⟨_, rfl⟩
          rw [hW23] at HJ9 HTa HTb HYa HYb HMa HMb ⊢
          obtain ⟨y21, hy21⟩ : ∃ y21 : Nat, w22.heap.size = y21 := ⟨_, rfl⟩
          rw [hy21] at HYb HN21 ⊢
          have HJ9 := hide (unhide HJ9)
          have HTa := hide (unhide HTa)
          have HTb := hide (unhide HTb)
          have HYa := hide (unhide HYa)
          have HYb := hide (unhide HYb)
          have HMa := hide (unhide HMa)
          have HMb := hide (unhide HMb)
          have HN21 := hide (unhide HN21)
          clear hW23 hy21
          have y0 : W23.cell? ⟨y18, 0, none⟩ = some (.int .i64 D) := by rw [Lib.cell_of_heap (unhide HYa)]; rfl
          have y1 : W23.cell? ⟨y18, 1, none⟩ = some (.slice A3 R.length c3) := by rw [Lib.cell_of_heap (unhide HYa)]; rfl
          have z0 : W23.cell? ⟨y21, 0, none⟩ = some (.int .i64 D) := by rw [Lib.cell_of_heap (unhide HYb)]; rfl
          have z1 : W23.cell? ⟨y21, 1, none⟩ = some (.slice A5 R.length c5) := by rw [Lib.cell_of_heap (unhide HYb)]; rfl
          have q1 : (E != E) = false := bne_self_eq_false E
          have HSame := hide (rsame_any _ _ D R A3 A5 c3 c5 W23 (unhide HG).small.1 (unhide HG).small.2 (unhide HTa).row (unhide HTb).row)
          have HInts := hide (fun (W : World) (hb : Below W23.heap.size W23 W) => kints_any _ M M B3 B5 e3 e5 W (by have := (unhide HG).2.2.2; omega) ((unhide HMa).keep hb) ((unhide HMb).keep hb))
          rw [decide_eq_true (rfl : M = M)] at HInts
          have HInts := hide (unhide HInts)
          by_cases hE : E = 0
          · have q3 : (E == 0) = true := by rw [beq_iff_eq]; exact hE
            have HE := hide hE
            clear hE
            go_upto_region 23 with (first | (go_at_call 25; refine (unhide HSame).mono ?_; rintro e w24 ⟨rfl, hb24⟩; have HB24 := hide hb24; clear hb24) | (go_at_call 13; refine (unhide HInts _ (unhide HB24)).mono ?_; rintro e w25 ⟨rfl, hb25⟩; have HB25 := hide (onward (unhide HB24) hb25); clear hb25))
            have HR := hide ((unhide HG).2.2.1 (unhide HE))
            have HJt := hide ((unhide HJ9).below (unhide HB25).drew)
            have HYc := hide (heap_below (unhide HYa) (unhide HB25).drew)
            have HYd := hide (heap_below (unhide HYb) (unhide HB25).drew)
            have HTc := hide ((unhide HTa).below (unhide HB25).drew)
            have HTd := hide ((unhide HTb).below (unhide HB25).drew)
            have HJu := hide ((unhide HJt).put1 (d := D) (unhide HTc))
            have HJv := hide ((unhide HJu).put2 (d := D) ((unhide HTd).keep (KepS.setRow _ _ (.inr (.inl rfl)))))
            clear y0 y1 z0 z1 q1
            refine wp_region_anyW [3] (fun Z => Z.heap[y18]? = some (lnsO D A3 R.length c3) ∧ Z.heap[y21]? = some (lnsO D A5 R.length c5)) (by kernel_rfl) ?_
            refine anyW_take (i := 0) (v := lnsV D A3 R.length c3) rfl (by kernel_rfl) (by kernel_rfl) (by kernel_rfl) (by kernel_rfl) (fun _ _ _ h => h) (yields_loadLn _ rfl rfl rfl (fun _ h => h.1)) ⟨unhide HYc, unhide HYd⟩ ?_
            refine anyW_take (i := 1) (v := lnsV D A5 R.length c5) rfl (by kernel_rfl) (by kernel_rfl) (by kernel_rfl) (by kernel_rfl) (fun _ _ _ h => h) (yields_loadLn _ rfl rfl rfl (fun _ h => h.2)) ⟨unhide HYc, unhide HYd⟩ ?_
            refine anyW_one (i := 2) (by kernel_rfl) rfl (fun K hK => ?_)
            rw [if_pos (by rfl)]
            refine wp_store_row 42 _ _ rfl g1 #[.int .i64 D, .slice A3 R.length c3] rfl rfl _ _ (unhide HJt).b1 infoLn rfl (by simp [Value.oneCell']) ?_
            refine hK _ _ ⟨fun _ => ⟨by have := (unhide HJt).g2R; have := unhide HN18; rw [setRow_other _ _ _ _ (by omega)]; exact unhide HYc, by have := (unhide HJt).g2R; have := unhide HN21; rw [setRow_other _ _ _ _ (by omega)]; exact unhide HYd⟩, ?_⟩
            clear hK K
            refine anyW_one (i := 3) (by kernel_rfl) rfl (fun K hK => ?_)
            rw [if_pos (by rfl)]
            refine wp_store_row 42 _ _ rfl g2 #[.int .i64 D, .slice A5 R.length c5] rfl rfl _ _ (unhide HJu).b2 infoLn rfl (by simp [Value.oneCell']) ?_
            refine hK _ _ ⟨fun h => absurd (List.mem_singleton.2 rfl) h, ?_⟩
            clear hK K
            refine anyW_done (by kernel_rfl) ?_ _
            obtain ⟨eD, hRl, hRv⟩ := unhide HR
            subst eD
            have HRv := hide hRv
            clear hRl hRv HR
            go_simp
            go_wp2_with fail
            go_roundw
            case rel => exact ⟨i + 1, R, A3, c3, A5, c5, by omega, by go_num, hide ⟨unhide HJv, unhide HRv⟩⟩
            case measure => simp [intOf]; omega
          · have q3 : (E == 0) = false := by rw [beq_eq_false_iff_ne]; exact hE
            clear hE
            go_wp2_with (first | (go_at_call 25; refine (unhide HSame).mono ?_; rintro e w24 ⟨rfl, hb24⟩; have HB24 := hide hb24; clear hb24) | (go_at_call 13; refine (unhide HInts _ (unhide HB24)).mono ?_; rintro e w25 ⟨rfl, hb25⟩; have HB25 := hide (onward (unhide HB24) hb25); clear hb25))
            go_roundw
            case rel => exact ⟨i + 1, L, A, c, A', c', by omega, by go_num, hide ⟨(unhide HJ9).below (unhide HB25), unhide HV⟩⟩
            case measure => simp [intOf]; omega
        · have q0 : (z == 0) = false := by rw [beq_eq_false_iff_ne]; exact hz
          clear hz
          obtain ⟨D, R, P, E, hT⟩ := putG (bb, dd) (unhide HV)
          have HTp := hide (fun (S : Nat → Prop) (A : Option Addr) (c : Nat) (W : World) (h : StoI S W A L c) (ho : Old S W) => (sto_ok.put yn L (bb, dd) A c S W (unhide HV) h ho (unhide HW).1 (unhide HW).2).mono fun e w' k => put_u hT k)
          have HTr := hide (fun (S : Nat → Prop) (A : Option Addr) (c : Nat) (W : World) (h : StoI S W A L c) (ho : Old S W) => (rput_st yn L (bb, dd) A c S W (unhide HV) h ho).mono fun e w' k => put_u hT k)
          have HG := hide hT
          clear hT
          have b0 : w19.cell? ⟨y, 0, none⟩ = some (.int .i64 bb) := by rw [Lib.cell_of_heap (unhide HBx5)]; rfl
          have b1 : w19.cell? ⟨y, 1, none⟩ = some (.int .i64 dd) := by rw [Lib.cell_of_heap (unhide HBx5)]; rfl
          go_wp2_with (first | (refine wpList_loadLn (unhide HJ5).b1 rfl _ rfl rfl ?_))
          refine (unhide HTp (D3 W0.heap.size g1 g2) A c w19 (unhide HJ5).s1 (unhide HJ5).old).mono ?_
          rintro e w20 ⟨A3, c3, rfl, hb20, hs20⟩
          have HJ6 := hide (((unhide HJ5).below hb20).below (below_new (Below.refl w20.heap.size w20) (lnsO D A3 R.length c3)))
          have HTa := hide (hs20.below (below_new (Below.refl w20.heap.size w20) (lnsO D A3 R.length c3)))
          have HYa := hide (heap_alloc_new w20 (lnsO D A3 R.length c3))
          have HBx6 := hide (heap_below (heap_below (unhide HBx5) hb20) (below_new (Below.refl w20.heap.size w20) (lnsO D A3 R.length c3)))
          have HN18 := hide (((unhide HJ5).below hb20).lt)
          clear hb20 hs20 b0 b1
          go_upto_region 25 with fail
          obtain ⟨W21, hW21⟩ : ∃ W21 : World, w20.alloc (lnsO D A3 R.length c3) = W21 := ⟨_, rfl⟩
          rw [hW21] at HJ6 HTa HYa HBx6 ⊢
          obtain ⟨y18, hy18⟩ : ∃ y18 : Nat, w20.heap.size = y18 := ⟨_, rfl⟩
          rw [hy18] at HYa HN18 ⊢
          have HJ6 := hide (unhide HJ6)
          have HTa := hide (unhide HTa)
          have HYa := hide (unhide HYa)
          have HBx6 := hide (unhide HBx6)
          have HN18 := hide (unhide HN18)
          clear hW21 hy18 HJ5 HBx5
          have b0 : W21.cell? ⟨y, 0, none⟩ = some (.int .i64 bb) := by rw [Lib.cell_of_heap (unhide HBx6)]; rfl
          have b1 : W21.cell? ⟨y, 1, none⟩ = some (.int .i64 dd) := by rw [Lib.cell_of_heap (unhide HBx6)]; rfl
          go_wp2_with (first | (refine wpList_loadLn (unhide HJ6).b2 rfl _ rfl rfl ?_))
          refine (unhide HTr (D3 W0.heap.size g1 g2) A' c' W21 (unhide HJ6).s2 (unhide HJ6).old).mono ?_
          rintro e w22 ⟨A5, c5, rfl, hb22, hs22⟩
          have bn := below_new (Below.refl w22.heap.size w22) (lnsO D A5 R.length c5)
          have HJ9 := hide (((unhide HJ6).below hb22).below bn)
          have HTa := hide (((unhide HTa).below hb22).below bn)
          have HTb := hide (hs22.below bn)
          have HYa := hide (heap_below (heap_below (unhide HYa) hb22) bn)
          have HYb := hide (heap_alloc_new w22 (lnsO D A5 R.length c5))
          have HN21 := hide (((unhide HJ6).below hb22).lt)
          clear hb22 hs22 b0 b1 bn HJ6 HBx6 HTp HTr
          go_upto_region 26 with fail
          obtain ⟨W23, hW23⟩ : ∃ W23 : World, w22.alloc (lnsO D A5 R.length c5) = W23 := ⟨_, rfl⟩
          rw [hW23] at HJ9 HTa HTb HYa HYb ⊢
          obtain ⟨y21, hy21⟩ : ∃ y21 : Nat, w22.heap.size = y21 := ⟨_, rfl⟩
          rw [hy21] at HYb HN21 ⊢
          have HJ9 := hide (unhide HJ9)
          have HTa := hide (unhide HTa)
          have HTb := hide (unhide HTb)
          have HYa := hide (unhide HYa)
          have HYb := hide (unhide HYb)
          have HN21 := hide (unhide HN21)
          clear hW23 hy21
          have y0 : W23.cell? ⟨y18, 0, none⟩ = some (.int .i64 D) := by rw [Lib.cell_of_heap (unhide HYa)]; rfl
          have y1 : W23.cell? ⟨y18, 1, none⟩ = some (.slice A3 R.length c3) := by rw [Lib.cell_of_heap (unhide HYa)]; rfl
          have z0 : W23.cell? ⟨y21, 0, none⟩ = some (.int .i64 D) := by rw [Lib.cell_of_heap (unhide HYb)]; rfl
          have z1 : W23.cell? ⟨y21, 1, none⟩ = some (.slice A5 R.length c5) := by rw [Lib.cell_of_heap (unhide HYb)]; rfl
          have q1 : (E != E) = false := bne_self_eq_false E
          have HSame := hide (rsame_any _ _ D R A3 A5 c3 c5 W23 (unhide HG).small.1 (unhide HG).small.2 (unhide HTa).row (unhide HTb).row)
          have q2 : ((P : Int) != (P : Int)) = false := bne_self_eq_false _
          by_cases hE : E = 0
          · have q3 : (E == 0) = true := by rw [beq_iff_eq]; exact hE
            have HE := hide hE
            clear hE
            go_upto_region 29 with (first | (go_at_call 25; refine (unhide HSame).mono ?_; rintro e w24 ⟨rfl, hb24⟩; have HB24 := hide hb24; clear hb24))
            have HR := hide ((unhide HG).2.2 (unhide HE))
            have HJt := hide ((unhide HJ9).below (unhide HB24).drew)
            have HYc := hide (heap_below (unhide HYa) (unhide HB24).drew)
            have HYd := hide (heap_below (unhide HYb) (unhide HB24).drew)
            have HTc := hide ((unhide HTa).below (unhide HB24).drew)
            have HTd := hide ((unhide HTb).below (unhide HB24).drew)
            have HJu := hide ((unhide HJt).put1 (d := D) (unhide HTc))
            have HJv := hide ((unhide HJu).put2 (d := D) ((unhide HTd).keep (KepS.setRow _ _ (.inr (.inl rfl)))))
            clear y0 y1 z0 z1 q1
            refine wp_region_anyW [3] (fun Z => Z.heap[y18]? = some (lnsO D A3 R.length c3) ∧ Z.heap[y21]? = some (lnsO D A5 R.length c5)) (by kernel_rfl) ?_
            refine anyW_take (i := 0) (v := lnsV D A3 R.length c3) rfl (by kernel_rfl) (by kernel_rfl) (by kernel_rfl) (by kernel_rfl) (fun _ _ _ h => h) (yields_loadLn _ rfl rfl rfl (fun _ h => h.1)) ⟨unhide HYc, unhide HYd⟩ ?_
            refine anyW_take (i := 1) (v := lnsV D A5 R.length c5) rfl (by kernel_rfl) (by kernel_rfl) (by kernel_rfl) (by kernel_rfl) (fun _ _ _ h => h) (yields_loadLn _ rfl rfl rfl (fun _ h => h.2)) ⟨unhide HYc, unhide HYd⟩ ?_
            refine anyW_one (i := 2) (by kernel_rfl) rfl (fun K hK => ?_)
            rw [if_pos (by rfl)]
            refine wp_store_row 42 _ _ rfl g1 #[.int .i64 D, .slice A3 R.length c3] rfl rfl _ _ (unhide HJt).b1 infoLn rfl (by simp [Value.oneCell']) ?_
            refine hK _ _ ⟨fun _ => ⟨by have := (unhide HJt).g2R; have := unhide HN18; rw [setRow_other _ _ _ _ (by omega)]; exact unhide HYc, by have := (unhide HJt).g2R; have := unhide HN21; rw [setRow_other _ _ _ _ (by omega)]; exact unhide HYd⟩, ?_⟩
            clear hK K
            refine anyW_one (i := 3) (by kernel_rfl) rfl (fun K hK => ?_)
            rw [if_pos (by rfl)]
            refine wp_store_row 42 _ _ rfl g2 #[.int .i64 D, .slice A5 R.length c5] rfl rfl _ _ (unhide HJu).b2 infoLn rfl (by simp [Value.oneCell']) ?_
            refine hK _ _ ⟨fun h => absurd (List.mem_singleton.2 rfl) h, ?_⟩
            clear hK K
            refine anyW_done (by kernel_rfl) ?_ _
            obtain ⟨eD, hRl, hRv⟩ := unhide HR
            subst eD
            have HRv := hide hRv
            clear hRl hRv HR
            go_simp
            go_wp2_with fail
            go_roundw
            case rel => exact ⟨i + 1, R, A3, c3, A5, c5, by omega, by go_num, hide ⟨unhide HJv, unhide HRv⟩⟩
            case measure => simp [intOf]; omega
          · have q3 : (E == 0) = false := by rw [beq_eq_false_iff_ne]; exact hE
            clear hE
            go_wp2_with (first | (go_at_call 25; refine (unhide HSame).mono ?_; rintro e w24 ⟨rfl, hb24⟩; have HB24 := hide hb24; clear hb24))
            go_roundw
            case rel => exact ⟨i + 1, L, A, c, A', c', by omega, by go_num, hide ⟨(unhide HJ9).below (unhide HB24), unhide HV⟩⟩
            case measure => simp [intOf]; omega
      · have i3 : ((i : Int) == 3) = false := by rw [beq_eq_false_iff_ne]; omega
        clear h3
        go_wp2_with fail
        refine (range_any _ _ 0 14 _ (unhide HJ).src (by omega) (by omega) (by omega)).mono ?_
        rintro e w15 ⟨bb, rfl, bb1, bb2, hs15, hg15⟩
        have HJ1 := hide ((unhide HJ).read hs15 hg15)
        clear hs15 hg15 HJ
        go_wp2_with fail
        refine (n_any _ _ 9 _ (unhide HJ1).src (by omega) (by omega)).mono ?_
        rintro e w16 ⟨dd, rfl, dd1, dd2, hs16, hg16⟩
        have HJ2 := hide ((unhide HJ1).read hs16 hg16)
        have HW := hide (show (Lit.int .i64 bb).wf = true ∧ (Lit.int .i64 dd).wf = true from ⟨WalkArith.wf_i64 (by omega), WalkArith.wf_i64 (by omega)⟩)
        clear hs16 hg16 HJ1 bb1 bb2 dd1 dd2
        go_upto_region 17 with fail
        have HJ4 := hide ((unhide HJ2).below (below_new (Below.refl w16.heap.size w16) (.cells #[.int .i64 bb, .int .i64 dd] 39)))
        have HBx := hide (heap_alloc_new w16 (.cells #[.int .i64 bb, .int .i64 dd] 39))
        have hyg := (unhide HJ2).lt
        clear HJ2
        obtain ⟨W18, hW18⟩ : ∃ W18 : World, w16.alloc (.cells #[.int .i64 bb, .int .i64 dd] 39) = W18 := ⟨_, rfl⟩
        rw [hW18] at HJ4 HBx ⊢
        obtain ⟨y, hy⟩ : ∃ y : Nat, w16.heap.size = y := ⟨_, rfl⟩
        rw [hy] at HBx hyg ⊢
        have HJ4 := hide (unhide HJ4)
        have HBx := hide (unhide HBx)
        have HYg := hide hyg
        clear hy hW18 hyg
        go_wp2_with fail
        refine (n_any _ _ 3 _ (unhide HJ4).src (by omega) (by omega)).mono ?_
        rintro e w19 ⟨z, rfl, zz1, zz2, hs19, hg19⟩
        have HJ5 := hide ((unhide HJ4).read hs19 hg19)
        have HBx5 := hide ((hg19.block y (Array.getElem?_eq_some_iff.1 (unhide HBx)).1 (fun e => by injection e with e; have := unhide HYg; have := (unhide HJ4).g1R; have := (unhide HJ4).g2R; omega)).trans (unhide HBx))
        clear hs19 hg19 zz1 zz2 HBx HJ4 HYg
        by_cases hz : z = 0
        · have q0 : (z == 0) = true := by rw [beq_iff_eq]; exact hz
          clear hz
          obtain ⟨D, R, M, E, hT⟩ := takeG bb (unhide HV)
          have HTp := hide (fun (S : Nat → Prop) (A : Option Addr) (c : Nat) (W : World) (h : StoI S W A L c) (ho : Old S W) => (sto_ok.take yn L bb A c S W (unhide HV) h ho (unhide HW).1).mono fun e w' k => take_u hT k)
          have HTr := hide (fun (S : Nat → Prop) (A : Option Addr) (c : Nat) (W : World) (h : StoI S W A L c) (ho : Old S W) => (rtake_st yn L bb A c S W (unhide HV) h ho).mono fun e w' k => take_u hT k)
          have HG := hide hT
          clear hT
          have b0 : w19.cell? ⟨y, 0, none⟩ = some (.int .i64 bb) := by rw [Lib.cell_of_heap (unhide HBx5)]; rfl
          have b1 : w19.cell? ⟨y, 1, none⟩ = some (.int .i64 dd) := by rw [Lib.cell_of_heap (unhide HBx5)]; rfl
          go_wp2_with (first | (refine wpList_loadLn (unhide HJ5).b1 rfl _ rfl rfl ?_))
          refine (unhide HTp (D3 W0.heap.size g1 g2) A c w19 (unhide HJ5).s1 (unhide HJ5).old).mono ?_
          rintro e w20 ⟨A3, c3, B3, e3, rfl, hb20, hs20, hm20⟩
          have HJ6 := hide (((unhide HJ5).below hb20).below (below_new (Below.refl w20.heap.size w20) (lnsO D A3 R.length c3)))
          have HTa := hide (hs20.below (below_new (Below.refl w20.heap.size w20) (lnsO D A3 R.length c3)))
          have HYa := hide (heap_alloc_new w20 (lnsO D A3 R.length c3))
          have HBx6 := hide (heap_below (heap_below (unhide HBx5) hb20) (below_new (Below.refl w20.heap.size w20) (lnsO D A3 R.length c3)))
          have HMa := hide ((hm20 W0.heap.size (.inl rfl)).keep (below_new (Below.refl w20.heap.size w20) (lnsO D A3 R.length c3)))
          have HN18 := hide (((unhide HJ5).below hb20).lt)
          clear hb20 hs20 b0 b1 hm20
          go_upto_region 19 with fail
          obtain ⟨W21, hW21⟩ : ∃ W21 : World, w20.alloc (lnsO D A3 R.length c3) = W21 := ⟨_, rfl⟩
          rw [hW21] at HJ6 HTa HYa HBx6 HMa ⊢
          obtain ⟨y18, hy18⟩ : ∃ y18 : Nat, w20.heap.size = y18 := ⟨_, rfl⟩
          rw [hy18] at HYa HN18 ⊢
          have HJ6 := hide (unhide HJ6)
          have HTa := hide (unhide HTa)
          have HYa := hide (unhide HYa)
          have HBx6 := hide (unhide HBx6)
          have HMa := hide (unhide HMa)
          have HN18 := hide (unhide HN18)
          clear hW21 hy18 HJ5 HBx5
          have b0 : W21.cell? ⟨y, 0, none⟩ = some (.int .i64 bb) := by rw [Lib.cell_of_heap (unhide HBx6)]; rfl
          have b1 : W21.cell? ⟨y, 1, none⟩ = some (.int .i64 dd) := by rw [Lib.cell_of_heap (unhide HBx6)]; rfl
          go_wp2_with (first | (refine wpList_loadLn (unhide HJ6).b2 rfl _ rfl rfl ?_))
          refine (unhide HTr (D3 W0.heap.size g1 g2) A' c' W21 (unhide HJ6).s2 (unhide HJ6).old).mono ?_
          rintro e w22 ⟨A5, c5, B5, e5, rfl, hb22, hs22, hm22⟩
          have bn := below_new (Below.refl w22.heap.size w22) (lnsO D A5 R.length c5)
          have HJ9 := hide (((unhide HJ6).below hb22).below bn)
          have HTa := hide (((unhide HTa).below hb22).below bn)
          have HTb := hide (hs22.below bn)
          have HYa := hide (heap_below (heap_below (unhide HYa) hb22) bn)
          have HYb := hide (heap_alloc_new w22 (lnsO D A5 R.length c5))
          have HMa := hide (((unhide HMa).keep hb22).keep bn)
          have HMb := hide ((hm22 W0.heap.size (.inl rfl)).keep bn)
          have HN21 := hide (((unhide HJ6).below hb22).lt)
          clear hb22 hs22 b0 b1 bn HJ6 HBx6 HTp HTr hm22
          go_upto_region 20 with fail
          obtain ⟨W23, hW23⟩ : ∃ W23 : World, w22.alloc (lnsO D A5 R.length c5) = W23 := ⟨_, rfl⟩
          rw [hW23] at HJ9 HTa HTb HYa HYb HMa HMb ⊢
          obtain ⟨y21, hy21⟩ : ∃ y21 : Nat, w22.heap.size = y21 := ⟨_, rfl⟩
          rw [hy21] at HYb HN21 ⊢
          have HJ9 := hide (unhide HJ9)
          have HTa := hide (unhide HTa)
          have HTb := hide (unhide HTb)
          have HYa := hide (unhide HYa)
          have HYb := hide (unhide HYb)
          have HMa := hide (unhide HMa)
          have HMb := hide (unhide HMb)
          have HN21 := hide (unhide HN21)
          clear hW23 hy21
          have y0 : W23.cell? ⟨y18, 0, none⟩ = some (.int .i64 D) := by rw [Lib.cell_of_heap (unhide HYa)]; rfl
          have y1 : W23.cell? ⟨y18, 1, none⟩ = some (.slice A3 R.length c3) := by rw [Lib.cell_of_heap (unhide HYa)]; rfl
          have z0 : W23.cell? ⟨y21, 0, none⟩ = some (.int .i64 D) := by rw [Lib.cell_of_heap (unhide HYb)]; rfl
          have z1 : W23.cell? ⟨y21, 1, none⟩ = some (.slice A5 R.length c5) := by rw [Lib.cell_of_heap (unhide HYb)]; rfl
          have q1 : (E != E) = false := bne_self_eq_false E
          have HSame := hide (rsame_any _ _ D R A3 A5 c3 c5 W23 (unhide HG).small.1 (unhide HG).small.2 (unhide HTa).row (unhide HTb).row)
          have HInts := hide (fun (W : World) (hb : Below W23.heap.size W23 W) => kints_any _ M M B3 B5 e3 e5 W (by have := (unhide HG).2.2.2; omega) ((unhide HMa).keep hb) ((unhide HMb).keep hb))
          rw [decide_eq_true (rfl : M = M)] at HInts
          have HInts := hide (unhide HInts)
          by_cases hE : E = 0
          · have q3 : (E == 0) = true := by rw [beq_iff_eq]; exact hE
            have HE := hide hE
            clear hE
            go_upto_region 23 with (first | (go_at_call 25; refine (unhide HSame).mono ?_; rintro e w24 ⟨rfl, hb24⟩; have HB24 := hide hb24; clear hb24) | (go_at_call 13; refine (unhide HInts _ (unhide HB24)).mono ?_; rintro e w25 ⟨rfl, hb25⟩; have HB25 := hide (onward (unhide HB24) hb25); clear hb25))
            have HR := hide ((unhide HG).2.2.1 (unhide HE))
            have HJt := hide ((unhide HJ9).below (unhide HB25).drew)
            have HYc := hide (heap_below (unhide HYa) (unhide HB25).drew)
            have HYd := hide (heap_below (unhide HYb) (unhide HB25).drew)
            have HTc := hide ((unhide HTa).below (unhide HB25).drew)
            have HTd := hide ((unhide HTb).below (unhide HB25).drew)
            have HJu := hide ((unhide HJt).put1 (d := D) (unhide HTc))
            have HJv := hide ((unhide HJu).put2 (d := D) ((unhide HTd).keep (KepS.setRow _ _ (.inr (.inl rfl)))))
            clear y0 y1 z0 z1 q1
            refine wp_region_anyW [3] (fun Z => Z.heap[y18]? = some (lnsO D A3 R.length c3) ∧ Z.heap[y21]? = some (lnsO D A5 R.length c5)) (by kernel_rfl) ?_
            refine anyW_take (i := 0) (v := lnsV D A3 R.length c3) rfl (by kernel_rfl) (by kernel_rfl) (by kernel_rfl) (by kernel_rfl) (fun _ _ _ h => h) (yields_loadLn _ rfl rfl rfl (fun _ h => h.1)) ⟨unhide HYc, unhide HYd⟩ ?_
            refine anyW_take (i := 1) (v := lnsV D A5 R.length c5) rfl (by kernel_rfl) (by kernel_rfl) (by kernel_rfl) (by kernel_rfl) (fun _ _ _ h => h) (yields_loadLn _ rfl rfl rfl (fun _ h => h.2)) ⟨unhide HYc, unhide HYd⟩ ?_
            refine anyW_one (i := 2) (by kernel_rfl) rfl (fun K hK => ?_)
            rw [if_pos (by rfl)]
            refine wp_store_row 42 _ _ rfl g1 #[.int .i64 D, .slice A3 R.length c3] rfl rfl _ _ (unhide HJt).b1 infoLn rfl (by simp [Value.oneCell']) ?_
            refine hK _ _ ⟨fun _ => ⟨by have := (unhide HJt).g2R; have := unhide HN18; rw [setRow_other _ _ _ _ (by omega)]; exact unhide HYc, by have := (unhide HJt).g2R; have := unhide HN21; rw [setRow_other _ _ _ _ (by omega)]; exact unhide HYd⟩, ?_⟩
            clear hK K
            refine anyW_one (i := 3) (by kernel_rfl) rfl (fun K hK => ?_)
            rw [if_pos (by rfl)]
            refine wp_store_row 42 _ _ rfl g2 #[.int .i64 D, .slice A5 R.length c5] rfl rfl _ _ (unhide HJu).b2 infoLn rfl (by simp [Value.oneCell']) ?_
            refine hK _ _ ⟨fun h => absurd (List.mem_singleton.2 rfl) h, ?_⟩
            clear hK K
            refine anyW_done (by kernel_rfl) ?_ _
            obtain ⟨eD, hRl, hRv⟩ := unhide HR
            subst eD
            have HRv := hide hRv
            clear hRl hRv HR
            go_simp
            go_wp2_with fail
            go_roundw
            case rel => exact ⟨i + 1, R, A3, c3, A5, c5, by omega, by go_num, hide ⟨unhide HJv, unhide HRv⟩⟩
            case measure => simp [intOf]; omega
          · have q3 : (E == 0) = false := by rw [beq_eq_false_iff_ne]; exact hE
            clear hE
            go_wp2_with (first | (go_at_call 25; refine (unhide HSame).mono ?_; rintro e w24 ⟨rfl, hb24⟩; have HB24 := hide hb24; clear hb24) | (go_at_call 13; refine (unhide HInts _ (unhide HB24)).mono ?_; rintro e w25 ⟨rfl, hb25⟩; have HB25 := hide (onward (unhide HB24) hb25); clear hb25))
            go_roundw
            case rel => exact ⟨i + 1, L, A, c, A', c', by omega, by go_num, hide ⟨(unhide HJ9).below (unhide HB25), unhide HV⟩⟩
            case measure => simp [intOf]; omega
        · have q0 : (z == 0) = false := by rw [beq_eq_false_iff_ne]; exact hz
          clear hz
          obtain ⟨D, R, P, E, hT⟩ := putG (bb, dd) (unhide HV)
          have HTp := hide (fun (S : Nat → Prop) (A : Option Addr) (c : Nat) (W : World) (h : StoI S W A L c) (ho : Old S W) => (sto_ok.put yn L (bb, dd) A c S W (unhide HV) h ho (unhide HW).1 (unhide HW).2).mono fun e w' k => put_u hT k)
          have HTr := hide (fun (S : Nat → Prop) (A : Option Addr) (c : Nat) (W : World) (h : StoI S W A L c) (ho : Old S W) => (rput_st yn L (bb, dd) A c S W (unhide HV) h ho).mono fun e w' k => put_u hT k)
          have HG := hide hT
          clear hT
          have b0 : w19.cell? ⟨y, 0, none⟩ = some (.int .i64 bb) := by rw [Lib.cell_of_heap (unhide HBx5)]; rfl
          have b1 : w19.cell? ⟨y, 1, none⟩ = some (.int .i64 dd) := by rw [Lib.cell_of_heap (unhide HBx5)]; rfl
          go_wp2_with (first | (refine wpList_loadLn (unhide HJ5).b1 rfl _ rfl rfl ?_))
          refine (unhide HTp (D3 W0.heap.size g1 g2) A c w19 (unhide HJ5).s1 (unhide HJ5).old).mono ?_
          rintro e w20 ⟨A3, c3, rfl, hb20, hs20⟩
          have HJ6 := hide (((unhide HJ5).below hb20).below (below_new (Below.refl w20.heap.size w20) (lnsO D A3 R.length c3)))
          have HTa := hide (hs20.below (below_new (Below.refl w20.heap.size w20) (lnsO D A3 R.length c3)))
          have HYa := hide (heap_alloc_new w20 (lnsO D A3 R.length c3))
          have HBx6 := hide (heap_below (heap_below (unhide HBx5) hb20) (below_new (Below.refl w20.heap.size w20) (lnsO D A3 R.length c3)))
          have HN18 := hide (((unhide HJ5).below hb20).lt)
          clear hb20 hs20 b0 b1
          go_upto_region 25 with fail
          obtain ⟨W21, hW21⟩ : ∃ W21 : World, w20.alloc (lnsO D A3 R.length c3) = W21 := ⟨_, rfl⟩
          rw [hW21] at HJ6 HTa HYa HBx6 ⊢
          obtain ⟨y18, hy18⟩ : ∃ y18 : Nat, w20.heap.size = y18 := ⟨_, rfl⟩
          rw [hy18] at HYa HN18 ⊢
          have HJ6 := hide (unhide HJ6)
          have HTa := hide (unhide HTa)
          have HYa := hide (unhide HYa)
          have HBx6 := hide (unhide HBx6)
          have HN18 := hide (unhide HN18)
          clear hW21 hy18 HJ5 HBx5
          have b0 : W21.cell? ⟨y, 0, none⟩ = some (.int .i64 bb) := by rw [Lib.cell_of_heap (unhide HBx6)]; rfl
          have b1 : W21.cell? ⟨y, 1, none⟩ = some (.int .i64 dd) := by rw [Lib.cell_of_heap (unhide HBx6)]; rfl
          go_wp2_with (first | (refine wpList_loadLn (unhide HJ6).b2 rfl _ rfl rfl ?_))
          refine (unhide HTr (D3 W0.heap.size g1 g2) A' c' W21 (unhide HJ6).s2 (unhide HJ6).old).mono ?_
          rintro e w22 ⟨A5, c5, rfl, hb22, hs22⟩
          have bn := below_new (Below.refl w22.heap.size w22) (lnsO D A5 R.length c5)
          have HJ9 := hide (((unhide HJ6).below hb22).below bn)
          have HTa := hide (((unhide HTa).below hb22).below bn)
          have HTb := hide (hs22.below bn)
          have HYa := hide (heap_below (heap_below (unhide HYa) hb22) bn)
          have HYb := hide (heap_alloc_new w22 (lnsO D A5 R.length c5))
          have HN21 := hide (((unhide HJ6).below hb22).lt)
          clear hb22 hs22 b0 b1 bn HJ6 HBx6 HTp HTr
          go_upto_region 26 with fail
          obtain ⟨W23, hW23⟩ : ∃ W23 : World, w22.alloc (lnsO D A5 R.length c5) = W23 := ⟨_, rfl⟩
          rw [hW23] at HJ9 HTa HTb HYa HYb ⊢
          obtain ⟨y21, hy21⟩ : ∃ y21 : Nat, w22.heap.size = y21 := ⟨_, rfl⟩
          rw [hy21] at HYb HN21 ⊢
          have HJ9 := hide (unhide HJ9)
          have HTa := hide (unhide HTa)
          have HTb := hide (unhide HTb)
          have HYa := hide (unhide HYa)
          have HYb := hide (unhide HYb)
          have HN21 := hide (unhide HN21)
          clear hW23 hy21
          have y0 : W23.cell? ⟨y18, 0, none⟩ = some (.int .i64 D) := by rw [Lib.cell_of_heap (unhide HYa)]; rfl
          have y1 : W23.cell? ⟨y18, 1, none⟩ = some (.slice A3 R.length c3) := by rw [Lib.cell_of_heap (unhide HYa)]; rfl
          have z0 : W23.cell? ⟨y21, 0, none⟩ = some (.int .i64 D) := by rw [Lib.cell_of_heap (unhide HYb)]; rfl
          have z1 : W23.cell? ⟨y21, 1, none⟩ = some (.slice A5 R.length c5) := by rw [Lib.cell_of_heap (unhide HYb)]; rfl
          have q1 : (E != E) = false := bne_self_eq_false E
          have HSame := hide (rsame_any _ _ D R A3 A5 c3 c5 W23 (unhide HG).small.1 (unhide HG).small.2 (unhide HTa).row (unhide HTb).row)
          have q2 : ((P : Int) != (P : Int)) = false := bne_self_eq_false _
          by_cases hE : E = 0
          · have q3 : (E == 0) = true := by rw [beq_iff_eq]; exact hE
            have HE := hide hE
            clear hE
            go_upto_region 29 with (first | (go_at_call 25; refine (unhide HSame).mono ?_; rintro e w24 ⟨rfl, hb24⟩; have HB24 := hide hb24; clear hb24))
            have HR := hide ((unhide HG).2.2 (unhide HE))
            have HJt := hide ((unhide HJ9).below (unhide HB24).drew)
            have HYc := hide (heap_below (unhide HYa) (unhide HB24).drew)
            have HYd := hide (heap_below (unhide HYb) (unhide HB24).drew)
            have HTc := hide ((unhide HTa).below (unhide HB24).drew)
            have HTd := hide ((unhide HTb).below (unhide HB24).drew)
            have HJu := hide ((unhide HJt).put1 (d := D) (unhide HTc))
            have HJv := hide ((unhide HJu).put2 (d := D) ((unhide HTd).keep (KepS.setRow _ _ (.inr (.inl rfl)))))
            clear y0 y1 z0 z1 q1
            refine wp_region_anyW [3] (fun Z => Z.heap[y18]? = some (lnsO D A3 R.length c3) ∧ Z.heap[y21]? = some (lnsO D A5 R.length c5)) (by kernel_rfl) ?_
            refine anyW_take (i := 0) (v := lnsV D A3 R.length c3) rfl (by kernel_rfl) (by kernel_rfl) (by kernel_rfl) (by kernel_rfl) (fun _ _ _ h => h) (yields_loadLn _ rfl rfl rfl (fun _ h => h.1)) ⟨unhide HYc, unhide HYd⟩ ?_
            refine anyW_take (i := 1) (v := lnsV D A5 R.length c5) rfl (by kernel_rfl) (by kernel_rfl) (by kernel_rfl) (by kernel_rfl) (fun _ _ _ h => h) (yields_loadLn _ rfl rfl rfl (fun _ h => h.2)) ⟨unhide HYc, unhide HYd⟩ ?_
            refine anyW_one (i := 2) (by kernel_rfl) rfl (fun K hK => ?_)
            rw [if_pos (by rfl)]
            refine wp_store_row 42 _ _ rfl g1 #[.int .i64 D, .slice A3 R.length c3] rfl rfl _ _ (unhide HJt).b1 infoLn rfl (by simp [Value.oneCell']) ?_
            refine hK _ _ ⟨fun _ => ⟨by have := (unhide HJt).g2R; have := unhide HN18; rw [setRow_other _ _ _ _ (by omega)]; exact unhide HYc, by have := (unhide HJt).g2R; have := unhide HN21; rw [setRow_other _ _ _ _ (by omega)]; exact unhide HYd⟩, ?_⟩
            clear hK K
            refine anyW_one (i := 3) (by kernel_rfl) rfl (fun K hK => ?_)
            rw [if_pos (by rfl)]
            refine wp_store_row 42 _ _ rfl g2 #[.int .i64 D, .slice A5 R.length c5] rfl rfl _ _ (unhide HJu).b2 infoLn rfl (by simp [Value.oneCell']) ?_
            refine hK _ _ ⟨fun h => absurd (List.mem_singleton.2 rfl) h, ?_⟩
            clear hK K
            refine anyW_done (by kernel_rfl) ?_ _
            obtain ⟨eD, hRl, hRv⟩ := unhide HR
            subst eD
            have HRv := hide hRv
            clear hRl hRv HR
            go_simp
            go_wp2_with fail
            go_roundw
            case rel => exact ⟨i + 1, R, A3, c3, A5, c5, by omega, by go_num, hide ⟨unhide HJv, unhide HRv⟩⟩
            case measure => simp [intOf]; omega
          · have q3 : (E == 0) = false := by rw [beq_eq_false_iff_ne]; exact hE
            clear hE
            go_wp2_with (first | (go_at_call 25; refine (unhide HSame).mono ?_; rintro e w24 ⟨rfl, hb24⟩; have HB24 := hide hb24; clear hb24))
            go_roundw
            case rel => exact ⟨i + 1, L, A, c, A', c', by omega, by go_num, hide ⟨(unhide HJ9).below (unhide HB24), unhide HV⟩⟩
            case measure => simp [intOf]; omega
    · have i4 : ¬ (i : Int) < 4 := by omega
      have i3 : ((i : Int) == 3) = false := by rw [beq_eq_false_iff_ne]; omega
      go_wp2_with fail
      refine (moreq_any _ _ wo (unhide HI).1.src).mono ?_
      rintro e w14 ⟨v, rfl, hb14⟩
      have HJ := hide ((unhide HI).1.below hb14)
      have HV := hide (unhide HI).2
      clear HI hb14
      cases v with
      | false =>
        go_wp2_with (go_at_call 9; refine ((unhide HAw) _).mono ?_; rintro e wz ⟨rfl, hbz⟩; have HBZ := hide (onward (unhide HJ).bel hbz); clear hbz)
        go_ret
        exact ⟨rfl, onward (unhide HB0) (unhide HBZ)⟩
      | true =>
        go_wp2_with fail
        refine (range_any _ _ 0 14 _ (unhide HJ).src (by omega) (by omega) (by omega)).mono ?_
        rintro e w15 ⟨bb, rfl, bb1, bb2, hs15, hg15⟩
        have HJ1 := hide ((unhide HJ).read hs15 hg15)
        clear hs15 hg15 HJ
        go_wp2_with fail
        refine (n_any _ _ 9 _ (unhide HJ1).src (by omega) (by omega)).mono ?_
        rintro e w16 ⟨dd, rfl, dd1, dd2, hs16, hg16⟩
        have HJ2 := hide ((unhide HJ1).read hs16 hg16)
        have HW := hide (show (Lit.int .i64 bb).wf = true ∧ (Lit.int .i64 dd).wf = true from ⟨WalkArith.wf_i64 (by omega), WalkArith.wf_i64 (by omega)⟩)
        clear hs16 hg16 HJ1 bb1 bb2 dd1 dd2
        go_upto_region 17 with fail
        have HJ4 := hide ((unhide HJ2).below (below_new (Below.refl w16.heap.size w16) (.cells #[.int .i64 bb, .int .i64 dd] 39)))
        have HBx := hide (heap_alloc_new w16 (.cells #[.int .i64 bb, .int .i64 dd] 39))
        have hyg := (unhide HJ2).lt
        clear HJ2
        obtain ⟨W18, hW18⟩ : ∃ W18 : World, w16.alloc (.cells #[.int .i64 bb, .int .i64 dd] 39) = W18 := ⟨_, rfl⟩
        rw [hW18] at HJ4 HBx ⊢
        obtain ⟨y, hy⟩ : ∃ y : Nat, w16.heap.size = y := ⟨_, rfl⟩
        rw [hy] at HBx hyg ⊢
        have HJ4 := hide (unhide HJ4)
        have HBx := hide (unhide HBx)
        have HYg := hide hyg
        clear hy hW18 hyg
        go_wp2_with fail
        refine (n_any _ _ 3 _ (unhide HJ4).src (by omega) (by omega)).mono ?_
        rintro e w19 ⟨z, rfl, zz1, zz2, hs19, hg19⟩
        have HJ5 := hide ((unhide HJ4).read hs19 hg19)
        have HBx5 := hide ((hg19.block y (Array.getElem?_eq_some_iff.1 (unhide HBx)).1 (fun e => by injection e with e; have := unhide HYg; have := (unhide HJ4).g1R; have := (unhide HJ4).g2R; omega)).trans (unhide HBx))
        clear hs19 hg19 zz1 zz2 HBx HJ4 HYg
        by_cases hz : z = 0
        · have q0 : (z == 0) = true := by rw [beq_iff_eq]; exact hz
          clear hz
          obtain ⟨D, R, M, E, hT⟩ := takeG bb (unhide HV)
          have HTp := hide (fun (S : Nat → Prop) (A : Option Addr) (c : Nat) (W : World) (h : StoI S W A L c) (ho : Old S W) => (sto_ok.take yn L bb A c S W (unhide HV) h ho (unhide HW).1).mono fun e w' k => take_u hT k)
          have HTr := hide (fun (S : Nat → Prop) (A : Option Addr) (c : Nat) (W : World) (h : StoI S W A L c) (ho : Old S W) => (rtake_st yn L bb A c S W (unhide HV) h ho).mono fun e w' k => take_u hT k)
          have HG := hide hT
          clear hT
          have b0 : w19.cell? ⟨y, 0, none⟩ = some (.int .i64 bb) := by rw [Lib.cell_of_heap (unhide HBx5)]; rfl
          have b1 : w19.cell? ⟨y, 1, none⟩ = some (.int .i64 dd) := by rw [Lib.cell_of_heap (unhide HBx5)]; rfl
          go_wp2_with (first | (refine wpList_loadLn (unhide HJ5).b1 rfl _ rfl rfl ?_))
          refine (unhide HTp (D3 W0.heap.size g1 g2) A c w19 (unhide HJ5).s1 (unhide HJ5).old).mono ?_
          rintro e w20 ⟨A3, c3, B3, e3, rfl, hb20, hs20, hm20⟩
          have HJ6 := hide (((unhide HJ5).below hb20).below (below_new (Below.refl w20.heap.size w20) (lnsO D A3 R.length c3)))
          have HTa := hide (hs20.below (below_new (Below.refl w20.heap.size w20) (lnsO D A3 R.length c3)))
          have HYa := hide (heap_alloc_new w20 (lnsO D A3 R.length c3))
          have HBx6 := hide (heap_below (heap_below (unhide HBx5) hb20) (below_new (Below.refl w20.heap.size w20) (lnsO D A3 R.length c3)))
          have HMa := hide ((hm20 W0.heap.size (.inl rfl)).keep (below_new (Below.refl w20.heap.size w20) (lnsO D A3 R.length c3)))
          have HN18 := hide (((unhide HJ5).below hb20).lt)
          clear hb20 hs20 b0 b1 hm20
          go_upto_region 19 with fail
          obtain ⟨W21, hW21⟩ : ∃ W21 : World, w20.alloc (lnsO D A3 R.length c3) = W21 := ⟨_, rfl⟩
          rw [hW21] at HJ6 HTa HYa HBx6 HMa ⊢
          obtain ⟨y18, hy18⟩ : ∃ y18 : Nat, w20.heap.size = y18 := ⟨_, rfl⟩
          rw [hy18] at HYa HN18 ⊢
          have HJ6 := hide (unhide HJ6)
          have HTa := hide (unhide HTa)
          have HYa := hide (unhide HYa)
          have HBx6 := hide (unhide HBx6)
          have HMa := hide (unhide HMa)
          have HN18 := hide (unhide HN18)
          clear hW21 hy18 HJ5 HBx5
          have b0 : W21.cell? ⟨y, 0, none⟩ = some (.int .i64 bb) := by rw [Lib.cell_of_heap (unhide HBx6)]; rfl
          have b1 : W21.cell? ⟨y, 1, none⟩ = some (.int .i64 dd) := by rw [Lib.cell_of_heap (unhide HBx6)]; rfl
          go_wp2_with (first | (refine wpList_loadLn (unhide HJ6).b2 rfl _ rfl rfl ?_))
          refine (unhide HTr (D3 W0.heap.size g1 g2) A' c' W21 (unhide HJ6).s2 (unhide HJ6).old).mono ?_
          rintro e w22 ⟨A5, c5, B5, e5, rfl, hb22, hs22, hm22⟩
          have bn := below_new (Below.refl w22.heap.size w22) (lnsO D A5 R.length c5)
          have HJ9 := hide (((unhide HJ6).below hb22).below bn)
          have HTa := hide (((unhide HTa).below hb22).below bn)
          have HTb := hide (hs22.below bn)
          have HYa := hide (heap_below (heap_below (unhide HYa) hb22) bn)
          have HYb := hide (heap_alloc_new w22 (lnsO D A5 R.length c5))
          have HMa := hide (((unhide HMa).keep hb22).keep bn)
          have HMb := hide ((hm22 W0.heap.size (.inl rfl)).keep bn)
          have HN21 := hide (((unhide HJ6).below hb22).lt)
          clear hb22 hs22 b0 b1 bn HJ6 HBx6 HTp HTr hm22
          go_upto_region 20 with fail
          obtain ⟨W23, hW23⟩ : ∃ W23 : World, w22.alloc (lnsO D A5 R.length c5) = W23 := ⟨_, rfl⟩
          rw [hW23] at HJ9 HTa HTb HYa HYb HMa HMb ⊢
          obtain ⟨y21, hy21⟩ : ∃ y21 : Nat, w22.heap.size = y21 := ⟨_, rfl⟩
          rw [hy21] at HYb HN21 ⊢
          have HJ9 := hide (unhide HJ9)
          have HTa := hide (unhide HTa)
          have HTb := hide (unhide HTb)
          have HYa := hide (unhide HYa)
          have HYb := hide (unhide HYb)
          have HMa := hide (unhide HMa)
          have HMb := hide (unhide HMb)
          have HN21 := hide (unhide HN21)
          clear hW23 hy21
          have y0 : W23.cell? ⟨y18, 0, none⟩ = some (.int .i64 D) := by rw [Lib.cell_of_heap (unhide HYa)]; rfl
          have y1 : W23.cell? ⟨y18, 1, none⟩ = some (.slice A3 R.length c3) := by rw [Lib.cell_of_heap (unhide HYa)]; rfl
          have z0 : W23.cell? ⟨y21, 0, none⟩ = some (.int .i64 D) := by rw [Lib.cell_of_heap (unhide HYb)]; rfl
          have z1 : W23.cell? ⟨y21, 1, none⟩ = some (.slice A5 R.length c5) := by rw [Lib.cell_of_heap (unhide HYb)]; rfl
          have q1 : (E != E) = false := bne_self_eq_false E
          have HSame := hide (rsame_any _ _ D R A3 A5 c3 c5 W23 (unhide HG).small.1 (unhide HG).small.2 (unhide HTa).row (unhide HTb).row)
          have HInts := hide (fun (W : World) (hb : Below W23.heap.size W23 W) => kints_any _ M M B3 B5 e3 e5 W (by have := (unhide HG).2.2.2; omega) ((unhide HMa).keep hb) ((unhide HMb).keep hb))
          rw [decide_eq_true (rfl : M = M)] at HInts
          have HInts := hide (unhide HInts)
          by_cases hE : E = 0
          · have q3 : (E == 0) = true := by rw [beq_iff_eq]; exact hE
            have HE := hide hE
            clear hE
            go_upto_region 23 with (first | (go_at_call 25; refine (unhide HSame).mono ?_; rintro e w24 ⟨rfl, hb24⟩; have HB24 := hide hb24; clear hb24) | (go_at_call 13; refine (unhide HInts _ (unhide HB24)).mono ?_; rintro e w25 ⟨rfl, hb25⟩; have HB25 := hide (onward (unhide HB24) hb25); clear hb25))
            have HR := hide ((unhide HG).2.2.1 (unhide HE))
            have HJt := hide ((unhide HJ9).below (unhide HB25).drew)
            have HYc := hide (heap_below (unhide HYa) (unhide HB25).drew)
            have HYd := hide (heap_below (unhide HYb) (unhide HB25).drew)
            have HTc := hide ((unhide HTa).below (unhide HB25).drew)
            have HTd := hide ((unhide HTb).below (unhide HB25).drew)
            have HJu := hide ((unhide HJt).put1 (d := D) (unhide HTc))
            have HJv := hide ((unhide HJu).put2 (d := D) ((unhide HTd).keep (KepS.setRow _ _ (.inr (.inl rfl)))))
            clear y0 y1 z0 z1 q1
            refine wp_region_anyW [3] (fun Z => Z.heap[y18]? = some (lnsO D A3 R.length c3) ∧ Z.heap[y21]? = some (lnsO D A5 R.length c5)) (by kernel_rfl) ?_
            refine anyW_take (i := 0) (v := lnsV D A3 R.length c3) rfl (by kernel_rfl) (by kernel_rfl) (by kernel_rfl) (by kernel_rfl) (fun _ _ _ h => h) (yields_loadLn _ rfl rfl rfl (fun _ h => h.1)) ⟨unhide HYc, unhide HYd⟩ ?_
            refine anyW_take (i := 1) (v := lnsV D A5 R.length c5) rfl (by kernel_rfl) (by kernel_rfl) (by kernel_rfl) (by kernel_rfl) (fun _ _ _ h => h) (yields_loadLn _ rfl rfl rfl (fun _ h => h.2)) ⟨unhide HYc, unhide HYd⟩ ?_
            refine anyW_one (i := 2) (by kernel_rfl) rfl (fun K hK => ?_)
            rw [if_pos (by rfl)]
            refine wp_store_row 42 _ _ rfl g1 #[.int .i64 D, .slice A3 R.length c3] rfl rfl _ _ (unhide HJt).b1 infoLn rfl (by simp [Value.oneCell']) ?_
            refine hK _ _ ⟨fun _ => ⟨by have := (unhide HJt).g2R; have := unhide HN18; rw [setRow_other _ _ _ _ (by omega)]; exact unhide HYc, by have := (unhide HJt).g2R; have := unhide HN21; rw [setRow_other _ _ _ _ (by omega)]; exact unhide HYd⟩, ?_⟩
            clear hK K
            refine anyW_one (i := 3) (by kernel_rfl) rfl (fun K hK => ?_)
            rw [if_pos (by rfl)]
            refine wp_store_row 42 _ _ rfl g2 #[.int .i64 D, .slice A5 R.length c5] rfl rfl _ _ (unhide HJu).b2 infoLn rfl (by simp [Value.oneCell']) ?_
            refine hK _ _ ⟨fun h => absurd (List.mem_singleton.2 rfl) h, ?_⟩
            clear hK K
            refine anyW_done (by kernel_rfl) ?_ _
            obtain ⟨eD, hRl, hRv⟩ := unhide HR
            subst eD
            have HRv := hide hRv
            clear hRl hRv HR
            go_simp
            go_wp2_with fail
            go_roundw
            case rel => exact ⟨i + 1, R, A3, c3, A5, c5, by omega, by go_num, hide ⟨unhide HJv, unhide HRv⟩⟩
            case measure => simp [intOf]; omega
          · have q3 : (E == 0) = false := by rw [beq_eq_false_iff_ne]; exact hE
            clear hE
            go_wp2_with (first | (go_at_call 25; refine (unhide HSame).mono ?_; rintro e w24 ⟨rfl, hb24⟩; have HB24 := hide hb24; clear hb24) | (go_at_call 13; refine (unhide HInts _ (unhide HB24)).mono ?_; rintro e w25 ⟨rfl, hb25⟩; have HB25 := hide (onward (unhide HB24) hb25); clear hb25))
            go_roundw
            case rel => exact ⟨i + 1, L, A, c, A', c', by omega, by go_num, hide ⟨(unhide HJ9).below (unhide HB25), unhide HV⟩⟩
            case measure => simp [intOf]; omega
        · have q0 : (z == 0) = false := by rw [beq_eq_false_iff_ne]; exact hz
          clear hz
          obtain ⟨D, R, P, E, hT⟩ := putG (bb, dd) (unhide HV)
          have HTp := hide (fun (S : Nat → Prop) (A : Option Addr) (c : Nat) (W : World) (h : StoI S W A L c) (ho : Old S W) => (sto_ok.put yn L (bb, dd) A c S W (unhide HV) h ho (unhide HW).1 (unhide HW).2).mono fun e w' k => put_u hT k)
          have HTr := hide (fun (S : Nat → Prop) (A : Option Addr) (c : Nat) (W : World) (h : StoI S W A L c) (ho : Old S W) => (rput_st yn L (bb, dd) A c S W (unhide HV) h ho).mono fun e w' k => put_u hT k)
          have HG := hide hT
          clear hT
          have b0 : w19.cell? ⟨y, 0, none⟩ = some (.int .i64 bb) := by rw [Lib.cell_of_heap (unhide HBx5)]; rfl
          have b1 : w19.cell? ⟨y, 1, none⟩ = some (.int .i64 dd) := by rw [Lib.cell_of_heap (unhide HBx5)]; rfl
          go_wp2_with (first | (refine wpList_loadLn (unhide HJ5).b1 rfl _ rfl rfl ?_))
          refine (unhide HTp (D3 W0.heap.size g1 g2) A c w19 (unhide HJ5).s1 (unhide HJ5).old).mono ?_
          rintro e w20 ⟨A3, c3, rfl, hb20, hs20⟩
          have HJ6 := hide (((unhide HJ5).below hb20).below (below_new (Below.refl w20.heap.size w20) (lnsO D A3 R.length c3)))
          have HTa := hide (hs20.below (below_new (Below.refl w20.heap.size w20) (lnsO D A3 R.length c3)))
          have HYa := hide (heap_alloc_new w20 (lnsO D A3 R.length c3))
          have HBx6 := hide (heap_below (heap_below (unhide HBx5) hb20) (below_new (Below.refl w20.heap.size w20) (lnsO D A3 R.length c3)))
          have HN18 := hide (((unhide HJ5).below hb20).lt)
          clear hb20 hs20 b0 b1
          go_upto_region 25 with fail
          obtain ⟨W21, hW21⟩ : ∃ W21 : World, w20.alloc (lnsO D A3 R.length c3) = W21 := ⟨_, rfl⟩
          rw [hW21] at HJ6 HTa HYa HBx6 ⊢
          obtain ⟨y18, hy18⟩ : ∃ y18 : Nat, w20.heap.size = y18 := ⟨_, rfl⟩
          rw [hy18] at HYa HN18 ⊢
          have HJ6 := hide (unhide HJ6)
          have HTa := hide (unhide HTa)
          have HYa := hide (unhide HYa)
          have HBx6 := hide (unhide HBx6)
          have HN18 := hide (unhide HN18)
          clear hW21 hy18 HJ5 HBx5
          have b0 : W21.cell? ⟨y, 0, none⟩ = some (.int .i64 bb) := by rw [Lib.cell_of_heap (unhide HBx6)]; rfl
          have b1 : W21.cell? ⟨y, 1, none⟩ = some (.int .i64 dd) := by rw [Lib.cell_of_heap (unhide HBx6)]; rfl
          go_wp2_with (first | (refine wpList_loadLn (unhide HJ6).b2 rfl _ rfl rfl ?_))
          refine (unhide HTr (D3 W0.heap.size g1 g2) A' c' W21 (unhide HJ6).s2 (unhide HJ6).old).mono ?_
          rintro e w22 ⟨A5, c5, rfl, hb22, hs22⟩
          have bn := below_new (Below.refl w22.heap.size w22) (lnsO D A5 R.length c5)
          have HJ9 := hide (((unhide HJ6).below hb22).below bn)
          have HTa := hide (((unhide HTa).below hb22).below bn)
          have HTb := hide (hs22.below bn)
          have HYa := hide (heap_below (heap_below (unhide HYa) hb22) bn)
          have HYb := hide (heap_alloc_new w22 (lnsO D A5 R.length c5))
          have HN21 := hide (((unhide HJ6).below hb22).lt)
          clear hb22 hs22 b0 b1 bn HJ6 HBx6 HTp HTr
          go_upto_region 26 with fail
          obtain ⟨W23, hW23⟩ : ∃ W23 : World, w22.alloc (lnsO D A5 R.length c5) = W23 := ⟨_, rfl⟩
          rw [hW23] at HJ9 HTa HTb HYa HYb ⊢
          obtain ⟨y21, hy21⟩ : ∃ y21 : Nat, w22.heap.size = y21 := ⟨_, rfl⟩
          rw [hy21] at HYb HN21 ⊢
          have HJ9 := hide (unhide HJ9)
          have HTa := hide (unhide HTa)
          have HTb := hide (unhide HTb)
          have HYa := hide (unhide HYa)
          have HYb := hide (unhide HYb)
          have HN21 := hide (unhide HN21)
          clear hW23 hy21
          have y0 : W23.cell? ⟨y18, 0, none⟩ = some (.int .i64 D) := by rw [Lib.cell_of_heap (unhide HYa)]; rfl
          have y1 : W23.cell? ⟨y18, 1, none⟩ = some (.slice A3 R.length c3) := by rw [Lib.cell_of_heap (unhide HYa)]; rfl
          have z0 : W23.cell? ⟨y21, 0, none⟩ = some (.int .i64 D) := by rw [Lib.cell_of_heap (unhide HYb)]; rfl
          have z1 : W23.cell? ⟨y21, 1, none⟩ = some (.slice A5 R.length c5) := by rw [Lib.cell_of_heap (unhide HYb)]; rfl
          have q1 : (E != E) = false := bne_self_eq_false E
          have HSame := hide (rsame_any _ _ D R A3 A5 c3 c5 W23 (unhide HG).small.1 (unhide HG).small.2 (unhide HTa).row (unhide HTb).row)
          have q2 : ((P : Int) != (P : Int)) = false := bne_self_eq_false _
          by_cases hE : E = 0
          · have q3 : (E == 0) = true := by rw [beq_iff_eq]; exact hE
            have HE := hide hE
            clear hE
            go_upto_region 29 with (first | (go_at_call 25; refine (unhide HSame).mono ?_; rintro e w24 ⟨rfl, hb24⟩; have HB24 := hide hb24; clear hb24))
            have HR := hide ((unhide HG).2.2 (unhide HE))
            have HJt := hide ((unhide HJ9).below (unhide HB24).drew)
            have HYc := hide (heap_below (unhide HYa) (unhide HB24).drew)
            have HYd := hide (heap_below (unhide HYb) (unhide HB24).drew)
            have HTc := hide ((unhide HTa).below (unhide HB24).drew)
            have HTd := hide ((unhide HTb).below (unhide HB24).drew)
            have HJu := hide ((unhide HJt).put1 (d := D) (unhide HTc))
            have HJv := hide ((unhide HJu).put2 (d := D) ((unhide HTd).keep (KepS.setRow _ _ (.inr (.inl rfl)))))
            clear y0 y1 z0 z1 q1
            refine wp_region_anyW [3] (fun Z => Z.heap[y18]? = some (lnsO D A3 R.length c3) ∧ Z.heap[y21]? = some (lnsO D A5 R.length c5)) (by kernel_rfl) ?_
            refine anyW_take (i := 0) (v := lnsV D A3 R.length c3) rfl (by kernel_rfl) (by kernel_rfl) (by kernel_rfl) (by kernel_rfl) (fun _ _ _ h => h) (yields_loadLn _ rfl rfl rfl (fun _ h => h.1)) ⟨unhide HYc, unhide HYd⟩ ?_
            refine anyW_take (i := 1) (v := lnsV D A5 R.length c5) rfl (by kernel_rfl) (by kernel_rfl) (by kernel_rfl) (by kernel_rfl) (fun _ _ _ h => h) (yields_loadLn _ rfl rfl rfl (fun _ h => h.2)) ⟨unhide HYc, unhide HYd⟩ ?_
            refine anyW_one (i := 2) (by kernel_rfl) rfl (fun K hK => ?_)
            rw [if_pos (by rfl)]
            refine wp_store_row 42 _ _ rfl g1 #[.int .i64 D, .slice A3 R.length c3] rfl rfl _ _ (unhide HJt).b1 infoLn rfl (by simp [Value.oneCell']) ?_
            refine hK _ _ ⟨fun _ => ⟨by have := (unhide HJt).g2R; have := unhide HN18; rw [setRow_other _ _ _ _ (by omega)]; exact unhide HYc, by have := (unhide HJt).g2R; have := unhide HN21; rw [setRow_other _ _ _ _ (by omega)]; exact unhide HYd⟩, ?_⟩
            clear hK K
            refine anyW_one (i := 3) (by kernel_rfl) rfl (fun K hK => ?_)
            rw [if_pos (by rfl)]
            refine wp_store_row 42 _ _ rfl g2 #[.int .i64 D, .slice A5 R.length c5] rfl rfl _ _ (unhide HJu).b2 infoLn rfl (by simp [Value.oneCell']) ?_
            refine hK _ _ ⟨fun h => absurd (List.mem_singleton.2 rfl) h, ?_⟩
            clear hK K
            refine anyW_done (by kernel_rfl) ?_ _
            obtain ⟨eD, hRl, hRv⟩ := unhide HR
            subst eD
            have HRv := hide hRv
            clear hRl hRv HR
            go_simp
            go_wp2_with fail
            go_roundw
            case rel => exact ⟨i + 1, R, A3, c3, A5, c5, by omega, by go_num, hide ⟨unhide HJv, unhide HRv⟩⟩
            case measure => simp [intOf]; omega
          · have q3 : (E == 0) = false := by rw [beq_eq_false_iff_ne]; exact hE
            clear hE
            go_wp2_with (first | (go_at_call 25; refine (unhide HSame).mono ?_; rintro e w24 ⟨rfl, hb24⟩; have HB24 := hide hb24; clear hb24))
            go_roundw
            case rel => exact ⟨i + 1, L, A, c, A', c', by omega, by go_num, hide ⟨(unhide HJ9).below (unhide HB24), unhide HV⟩⟩
            case measure => simp [intOf]; omega
  · have i30 : ¬ (i : Int) < 30 := by omega
    go_wp2_with (go_at_call 9; refine ((unhide HAw) _).mono ?_; rintro e wz ⟨rfl, hbz⟩; have HBZ := hide (onward (unhide HI).1.bel hbz); clear hbz)
    go_ret
    exact ⟨rfl, onward (unhide HB0) (unhide HBZ)⟩
end Go.Proofs.Ytmmhchhekmcihaa
