/-
  InboxConflicts: the walk.
-/
import Derived.Test.YtcjdjdganaokfaaDoorInbAD
namespace Go.Proofs.YtcjdjdganaokfaaDoor
open Go.RowKit

set_option maxHeartbeats 16000000 in
set_option maxRecDepth 100000 in
theorem conf_any (A0 : Option Addr) (len cap : Nat) (k : Int) (w : World) (hcap : len ≤ cap) (hA : IntsIn w.heap.size w A0 len) (hK : Keys w) :
    Calls Tryd.prog 7 #[.slice A0 len cap, .int .i64 k] w fun e w' => e = .returned (.bool true) ∧ Below w.heap.size w w' := by
  have HK := hide hK
  have r1 := modN_range k 7 (by decide)
  obtain ⟨N, hN⟩ : ∃ N : Int, 2 + modN k 7 = N := ⟨_, rfl⟩
  have N2 : 2 ≤ N := by omega
  have N8 : N ≤ 8 := by omega
  have q1 : IntKind.i64.wrap (2 + modN k 7) = N := by rw [hN, IntKind.wrap_i64]; omega
  have HM0 := hide (fun W : World => mod_any k 7 W (by decide) (by decide))
  clear r1 hN hK
  generalize modN k 7 = a1 at *
  go_enter Tryd.func7, Tryd.ntmps7
  go_wp2_with fail
  refine (new_at w.heap.size A0 len cap w (Nat.le_refl _) hcap hA).mono ?_
  rintro e w1 ⟨rfl, hs1, hb1⟩
  have HS1 := hide hs1
  have HB1 := hide hb1
  clear hs1 hb1 hA
  go_wp2_with fail
  refine (inew_ok 8 w1 (by decide) (by decide)).mono ?_
  rintro e w2 ⟨rfl, hb2⟩
  obtain ⟨W2, hW2⟩ : ∃ W2 : World, w2.alloc (ibO 8 none 0 0) = W2 := ⟨_, rfl⟩
  have b2 : Below w2.heap.size w2 W2 := by rw [← hW2]; exact (Below.refl _ _).alloc (Nat.le_refl _) _
  have hX2 : W2.heap[w2.heap.size]? = some (ibO 8 none 0 0) := by rw [← hW2]; exact heap_alloc_new w2 _
  have b12 := onward hb2 b2
  have HX2 := hide hX2
  have HS2 := hide ((unhide HS1).keep b12)
  have HB2 := hide (onward (unhide HB1) b12)
  have HL2 := hide (show w.heap.size < w2.heap.size by have := (unhide HS1).lt; have := hb2.size; omega)
  clear hX2 b2 b12 hb2 HS1 HB1
  go_wp2_with (refine wpList_storeI_new (g := w2.heap.size) rfl 8 none 0 0 rfl _ _ rfl rfl rfl rfl ?_)
  clear hW2
  refine (unhide HM0 W2).mono ?_
  rintro e w' ⟨rfl, rfl⟩
  generalize w2.heap.size = X at *
  go_wp2_with fail
  refine (message_free w.heap.size w.heap.size W2 (unhide HS2)).mono ?_
  rintro e w4 ⟨m, P, pc, Q, qc, rfl, ⟨hv, -, -, hport⟩, hl, hn, -, hg4⟩
  have hXl : X < W2.heap.size := (Array.getElem?_eq_some_iff.1 (unhide HX2)).1
  have hpt : Lib.compareBytes m.port.data.toList m.port.data.toList = 0 := by
    obtain ⟨j, hj⟩ := hport
    rw [hj]
    rcases fewPort_two j with e | e <;> rw [e] <;> decide +kernel
  have hX4 : w4.heap[X]? = some (ibO 8 none 0 0) := (hg4.block X hXl (by have := unhide HL2; simp; omega)).trans (unhide HX2)
  have hB4 : Below w.heap.size w w4 := below_reads (unhide HB2) hg4 (Nat.le_refl _) (unhide HB2).size
  have hXl4 : X < w4.heap.size := (Array.getElem?_eq_some_iff.1 hX4).1
  obtain ⟨W4, hW4⟩ : ∃ W4 : World, w4.alloc (msgO m P pc Q qc) = W4 := ⟨_, rfl⟩
  have b4 : Below w4.heap.size w4 W4 := by rw [← hW4]; exact (Below.refl _ _).alloc (Nat.le_refl _) _
  have hM4 : W4.heap[w4.heap.size]? = some (msgO m P pc Q qc) := by rw [← hW4]; exact heap_alloc_new w4 _
  have m3 : W4.cell? ⟨w4.heap.size, 3, none⟩ = some (.int .i64 m.num) := by rw [Lib.cell_of_heap hM4]; rfl
  have f3 := Lib.frozen_of_heap hM4 3
  obtain ⟨W5, hW5⟩ : ∃ W5 : World, W4.setCell ⟨w4.heap.size, 3, none⟩ (.int .i64 N) = W5 := ⟨_, rfl⟩
  have hM5 : W5.heap[w4.heap.size]? = some (msgO (numd m N) P pc Q qc) := by rw [← hW5, heap_setM _ hM4]; rfl
  have hg5 : W4.grownBy W5 (some w4.heap.size) := by rw [← hW5]; exact Lib.grownBy_setB (World.grownBy.refl W4 (some w4.heap.size)) 3 _
  obtain ⟨W6, hW6⟩ : ∃ W6 : World, W5.alloc (msgO (numd m N) P pc Q qc) = W6 := ⟨_, rfl⟩
  have b6 : Below W5.heap.size W5 W6 := by rw [← hW6]; exact (Below.refl _ _).alloc (Nat.le_refl _) _
  have hO6 : W6.heap[W5.heap.size]? = some (msgO (numd m N) P pc Q qc) := by rw [← hW6]; exact heap_alloc_new W5 _
  have hM6 := (b6.block _ (Array.getElem?_eq_some_iff.1 hM5).1).trans hM5
  have hCS : Cs w X w4.heap.size W5.heap.size ⟨numd m N, P, pc, Q, qc⟩ W6 := cs_mk hB4 hXl4 hX4 (by have := (unhide HB2).size; have := unhide HL2; omega) (hl X hXl) (hn X hXl) b4 hg5 b6 hM6 (Array.getElem?_eq_some_iff.1 hM5).1 (Array.getElem?_eq_some_iff.1 hO6).1
  have m2 : W6.cell? ⟨w4.heap.size, 2, none⟩ = some (.string m.port) := by rw [Lib.cell_of_heap hM6]; rfl
  have o2 : W6.cell? ⟨W5.heap.size, 2, none⟩ = some (.string m.port) := by rw [Lib.cell_of_heap hO6]; rfl
  have o3 : W6.cell? ⟨W5.heap.size, 3, none⟩ = some (.int .i64 N) := by rw [Lib.cell_of_heap hO6]; rfl
  have g2 := Lib.frozen_of_heap hO6 2
  have g3 := Lib.frozen_of_heap hO6 3
  have e2 : W6.setCell ⟨W5.heap.size, 2, none⟩ (.string m.port) = W6 := setCell_self hO6 rfl
  have e3 : W6.setCell ⟨W5.heap.size, 3, none⟩ (.int .i64 N) = W6 := setCell_self hO6 rfl
  have HM5 := hide hM5
  have HCS6 := hide hCS
  have HO6 := hide hO6
  have HV := hide hv
  have HPT := hide hpt
  clear hl hn hg4 hXl hX4 hB4 hXl4 b4 hM4 hg5 b6 hO6 hM6 hCS hM5 hv hpt hport HX2 HS2 HB2 HL2
  go_wp2_with (first
    | (refine wpList_storeM_new rfl m P pc Q qc rfl _ _ rfl rfl rfl rfl ?_)
    | (rw [hW5]; refine wpList_loadM (unhide HM5) rfl _ rfl rfl ?_)
    | (refine wpList_loadM (unhide HM5) rfl _ rfl rfl ?_)
    | (refine wpList_storeM_new rfl (numd m N) P pc Q qc rfl _ _ rfl rfl rfl rfl ?_))
  clear hW4 hW5 q1
  refine (?m1 : ?X1 → _) ?r1
  case m1 =>
    intro h1
    go_region
    all_goals exact h1
  clear hW6 m3 f3 m2 o2 o3 g2 g3 e2 e3
  obtain ⟨W7, hW7⟩ : ∃ W7 : World, W6.drew = W7 := ⟨_, rfl⟩
  have hCS := (unhide HCS6).drew
  rw [hW7] at hCS
  have HO7 := hide (show W7.heap[W5.heap.size]? = some (msgO (numd m N) P pc Q qc) by rw [← hW7]; exact unhide HO6)
  have HM7 := hide (show W7.heap[w4.heap.size]? = some (msgO (numd m N) P pc Q qc) from hCS.bm)
  have HCS := hide hCS
  have m0 : W7.cell? ⟨w4.heap.size, 0, none⟩ = some (.int .i64 m.kind) := by rw [Lib.cell_of_heap hCS.bm]; rfl
  clear hCS HCS6 HO6 HM5
  rw [hW7]
  clear hW7
  generalize w4.heap.size = M at *
  generalize W5.heap.size = O at *
  have hv := unhide HV
  have hpt := unhide HPT
  by_cases h5 : m.kind = 5
  · skip
    have k5 : (m.kind == 5) = true := by rw [beq_iff_eq]; exact h5
    have hLim := (valid_few hv).2
    have hOl := (unhide HCS).lt
    have b1 : Below W7.heap.size W7 (W7.alloc (.cells #[] 3)) := (Below.refl _ _).alloc (Nat.le_refl _) _
    have m29 : (W7.alloc (.cells #[] 3)).cell? ⟨M, 29, none⟩ = some (.slice Q m.lst.length qc) := kept b1 (by rw [Lib.cell_of_heap (unhide HM7)]; rfl)
    have HOM := hide (World.ownsRow_made (base := W7.heap.size) (e := 3) (size := 1) W7 #[] 0 (Nat.le_refl _) (by unfold maxLen; omega) (by simp))
    have hNX : NumsIn X W7 Q m.lst := ((unhide HCS).lm X (Or.inl rfl)).2
    have HSrc := hide (show 0 < m.lst.length → ∃ g off, Q = some ⟨g, off, none⟩ ∧ ∀ j u, (m.lst.map (Value.int .i64))[j]? = some u → (W7.alloc (.cells #[] 3)).cell? ⟨g, off + j, none⟩ = some u from fun h0 => by
      obtain ⟨g, off, hQ, -, hc⟩ := hNX h0
      refine ⟨g, off, hQ, fun j u hu => ?_⟩
      rw [List.getElem?_map] at hu
      have hj : j < m.lst.length := by
        rcases Nat.lt_or_ge j m.lst.length with h | h
        · exact h
        · rw [List.getElem?_eq_none h] at hu; cases hu
      rw [List.getElem?_eq_getElem hj] at hu
      have := kept b1 (hc j hj)
      rw [at_k hj] at this
      rw [this]
      exact hu)
    have HZ1 := hide b1.size
    have HB1 := hide b1
    have HLim := hide hLim
    clear hNX b1 hLim
    go_wp2_with (at_builtin; refine wpList_copyI (H := W7.heap.size) (xs := m.lst) rfl _ _ rfl rfl rfl rfl rfl (unhide HLim) (unhide HZ1) (unhide HOM) (unhide HSrc) ?_)
    intro A1 c1 wq hown hgrow
    have bq : Below W7.heap.size W7 wq := (unhide HB1).grown hgrow (unhide HZ1) (fun k e => by injection e with e; omega)
    have hCq := (unhide HCS).below bq
    have hOq := (bq.block O hOl).trans (unhide HO7)
    have o29 : wq.cell? ⟨O, 29, none⟩ = some (.slice Q m.lst.length qc) := by rw [Lib.cell_of_heap hOq]; rfl
    have f29 := Lib.frozen_of_heap hOq 29
    obtain ⟨Wr, hWr⟩ : ∃ Wr : World, wq.setCell ⟨O, 29, none⟩ (.slice A1 m.lst.length c1) = Wr := ⟨_, rfl⟩
    have hgr : wq.grownBy Wr (some O) := by rw [← hWr]; exact Lib.grownBy_setB (World.grownBy.refl wq (some O)) 29 _
    have hOr : Wr.heap[O]? = some (.cells (msgL (numd m N) P pc A1 c1) 32 (0, 0)) := by rw [← hWr, heap_setM _ hOq]; rfl
    have hCr := hCq.turnO hgr
    have hnum : ∀ b, In3 X M O b → NumsIn b Wr A1 m.lst := fun b hb => (nums_own hown ((unhide HCS).ltb b hb)).turnN (nums_own hown hOl) hgr
    have r29 : Wr.cell? ⟨O, 29, none⟩ = some (.slice A1 m.lst.length c1) := by rw [Lib.cell_of_heap hOr]; rfl
    have g29 := Lib.frozen_of_heap hOr 29
    have hOth := other_lst hv h5 (n := N) (by omega) (by omega)
    have HCM := hide (cfM_mk hv N2 N8 hOth hpt)
    have HOWN := hide hown
    have HOR := hide hOr
    have HCR := hide hCr
    have HNUM := hide hnum
    have HLT := hide hCr.lt
    clear hown hgrow bq hCq hOq hgr hOr hCr hnum hOth m29 HOM HSrc HZ1 HB1 HCS HO7 hOl HM7 m0
    rcases Nat.eq_zero_or_pos m.lst.length with hz | hz
    · have h0 : ((m.lst.length : Int) == 0) = true := by rw [hz]; rfl
      have hnil : m.lst = [] := List.eq_nil_of_length_eq_zero hz
      obtain ⟨Ws, hWs⟩ : ∃ Ws : World, Wr.alloc (.cells #[.int .i64 7] 3) = Ws := ⟨_, rfl⟩
      have bs : Below Wr.heap.size Wr Ws := by rw [← hWs]; exact (Below.refl _ _).alloc (Nat.le_refl _) _
      have hE : Ws.heap[Wr.heap.size]? = some (.cells #[.int .i64 7] 3 (0, 0)) := by rw [← hWs]; exact heap_alloc_new Wr _
      have hCs := (unhide HCR).below bs
      have hOs := (bs.block O (unhide HLT)).trans (unhide HOR)
      have s29 : Ws.cell? ⟨O, 29, none⟩ = some (.slice A1 m.lst.length c1) := by rw [Lib.cell_of_heap hOs]; rfl
      have t29 := Lib.frozen_of_heap hOs 29
      obtain ⟨W8, hW8⟩ : ∃ W8 : World, Ws.setCell ⟨O, 29, none⟩ (.slice (some ⟨Wr.heap.size, 0, none⟩) 1 1) = W8 := ⟨_, rfl⟩
      have hg8 : Ws.grownBy W8 (some O) := by rw [← hW8]; exact Lib.grownBy_setB (World.grownBy.refl Ws (some O)) 29 _
      have hO8 : W8.heap[O]? = some (.cells (msgL (lstd (numd m N) (tlL m.lst)) P pc (some ⟨Wr.heap.size, 0, none⟩) 1) 32 (0, 0)) := by rw [← hW8, heap_setM _ hOs, hnil]; rfl
      have hy : ∀ b, In3 X M O b → (⟨lstd (numd m N) (tlL m.lst), P, pc, some ⟨Wr.heap.size, 0, none⟩, 1⟩ : MsS).Lies b W8 := fun b hb => by
        refine ⟨((hCs.lm b hb).1).turnL ((hCs.lm O (Or.inr (Or.inr rfl))).1) hg8, ?_⟩
        show NumsIn b W8 (some ⟨Wr.heap.size, 0, none⟩) (tlL m.lst)
        rw [hnil]
        have hbl := (unhide HCR).ltb b hb
        refine fun _ => ⟨Wr.heap.size, 0, rfl, by omega, fun i hi => ?_⟩
        have hi0 : i = 0 := by have : i < 1 := hi; omega
        subst hi0
        have hOl := unhide HLT
        have := hg8.cell (a := ⟨Wr.heap.size, 0 + 0, none⟩) (show Ws.cell? ⟨Wr.heap.size, 0 + 0, none⟩ = some (.int .i64 7) by rw [Lib.cell_of_heap hE]; rfl) (by simp; omega)
        exact this
      have HCF := hide (hCs.make hg8 hO8 hy)
      clear hy hO8 hg8 hOs hCs hE bs HNUM HOR HCR HLT HOWN hnil hz
      as_aux_lemma =>
        have hC := unhide HCF
        have HX8 := hide hC.bx
        have HM8 := hide (show W8.heap[M]? = some (msgO (numd m N) P pc Q qc) from hC.bm)
        have HR1 := hide (cf_1 hC (unhide HCM) ((unhide HK).keep hC.bel))
        clear hC
        go_wp2_with (first
          | (rw [hW8]; refine wpList_loadI (unhide HX8) rfl _ rfl rfl ?_)
          | (refine wpList_loadI (unhide HX8) rfl _ rfl rfl ?_)
          | (refine wpList_loadM (unhide HM8) rfl _ rfl rfl ?_))
        clear hW8
        refine (unhide HR1).mono ?_
        rintro e w9 ⟨B, n9, us, Ao, co, rfl, em, hin, hb9⟩
        have hC9 := (unhide HCF).below hb9
        have hCa := hC9.put (n := n9) (fun b hb => hin b ((unhide HCF).lt b hb))
        have HX9 := hide hC9.bx
        obtain ⟨Wa, hWa⟩ : ∃ Wa : World, w9.setRow X #[.int .i64 8, .slice B us.length n9] = Wa := ⟨_, rfl⟩
        rw [hWa] at hCa
        have HCA := hide hCa
        have HXA := hide hCa.bx
        have HOA := hide (show Wa.heap[O]? = some (msgO (lstd (numd m N) (tlL m.lst)) P pc (some ⟨Wr.heap.size, 0, none⟩) 1) from hCa.bo)
        have HEM := hide em
        have HR2 := hide (cf_2 hCa em (unhide HCM) ((unhide HK).keep hCa.bel))
        clear hC9 hCa em hin hb9 HR1 HX8 HM8 HCF
        go_wp2_with (first
          | (refine wpList_storeI (unhide HX9) 8 B us.length n9 rfl _ _ rfl rfl rfl rfl ?_)
          | (rw [hWa]; refine wpList_loadI (unhide HXA) rfl _ rfl rfl ?_)
          | (refine wpList_loadI (unhide HXA) rfl _ rfl rfl ?_)
          | (refine wpList_loadM (unhide HOA) rfl _ rfl rfl ?_))
        clear hWa
        refine (unhide HR2).mono ?_
        rintro e wb ⟨B2, n2, us2, Ao2, co2, rfl, em2, hin2, hbb⟩
        obtain ⟨Wc, hWc⟩ : ∃ Wc : World, wb.alloc (ibO 8 B2 us2.length n2) = Wc := ⟨_, rfl⟩
        have bc : Below wb.heap.size wb Wc := by rw [← hWc]; exact (Below.refl _ _).alloc (Nat.le_refl _) _
        have hCc := (unhide HCA).below (onward hbb bc)
        have hYc : Wc.heap[wb.heap.size]? = some (ibO 8 B2 us2.length n2) := by rw [← hWc]; exact heap_alloc_new wb _
        have hIc : SndsIn X Wc B2 us2 := (hin2 X ((unhide HCA).lt X (Or.inl rfl))).keep bc
        have HCC := hide hCc
        have HYC := hide hYc
        have HIC := hide hIc
        have HMC := hide (show Wc.heap[M]? = some (msgO (numd m N) P pc Q qc) from hCc.bm)
        have HEM2 := hide em2
        have HR3 := hide (cf_3 (n := n2) hCc hIc em2 (unhide HCM) ((unhide HK).keep hCc.bel))
        clear hCc hYc hIc bc hbb hin2 em2 HR2 HX9 HXA HOA HCA
        go_wp2_with (first
          | (refine wpList_storeI_new (g := wb.heap.size) rfl 8 B2 us2.length n2 rfl _ _ rfl rfl rfl rfl ?_)
          | (rw [hWc]; refine wpList_loadI (unhide HYC) rfl _ rfl rfl ?_)
          | (refine wpList_loadI (unhide HYC) rfl _ rfl rfl ?_)
          | (refine wpList_loadM (unhide HMC) rfl _ rfl rfl ?_))
        clear hWc
        refine (unhide HR3).mono ?_
        rintro e wd ⟨B3, n3, us3, Ao3, co3, rfl, em3, hin3, hbd⟩
        obtain ⟨We, hWe⟩ : ∃ We : World, wd.alloc (ibO 8 B3 us3.length n3) = We := ⟨_, rfl⟩
        have be : Below wd.heap.size wd We := by rw [← hWe]; exact (Below.refl _ _).alloc (Nat.le_refl _) _
        have hCe := (unhide HCC).below (onward hbd be)
        have hYe := ((onward hbd be).block _ (Array.getElem?_eq_some_iff.1 (unhide HYC)).1).trans (unhide HYC)
        have hZe : We.heap[wd.heap.size]? = some (ibO 8 B3 us3.length n3) := by rw [← hWe]; exact heap_alloc_new wd _
        have hIe2 : SndsIn X We B2 us2 := (unhide HIC).keep (onward hbd be)
        have hIe3 : SndsIn X We B3 us3 := (hin3 X ((unhide HCC).lt X (Or.inl rfl))).keep be
        have x0 : We.cell? ⟨X, 0, none⟩ = some (.int .i64 8) := by rw [Lib.cell_of_heap hCe.bx]; rfl
        have x1 : We.cell? ⟨X, 1, none⟩ = some (.slice B us.length n9) := by rw [Lib.cell_of_heap hCe.bx]; rfl
        have y0 : We.cell? ⟨wb.heap.size, 0, none⟩ = some (.int .i64 8) := by rw [Lib.cell_of_heap hYe]; rfl
        have y1 : We.cell? ⟨wb.heap.size, 1, none⟩ = some (.slice B2 us2.length n2) := by rw [Lib.cell_of_heap hYe]; rfl
        have z0 : We.cell? ⟨wd.heap.size, 0, none⟩ = some (.int .i64 8) := by rw [Lib.cell_of_heap hZe]; rfl
        have z1 : We.cell? ⟨wd.heap.size, 1, none⟩ = some (.slice B3 us3.length n3) := by rw [Lib.cell_of_heap hZe]; rfl
        have HF := hide (cf_few (unhide HEM) (unhide HCM))
        have HS1 := hide (rsame5_any X 8 B B2 n9 n2 us us2 We (hCe.ins X (Or.inl rfl)) hIe2 ((unhide HEM).trans (unhide HEM2).symm) (cf_len (unhide HEM)) (unhide HF))
        have HS2 := hide (fun (wf : World) (hb : Below We.heap.size We wf) => rsame5_any X 8 B B3 n9 n3 us us3 wf ((hCe.ins X (Or.inl rfl)).keep hb) (hIe3.keep hb) ((unhide HEM).trans em3.symm) (cf_len (unhide HEM)) (unhide HF))
        have HBE := hide hCe.bel
        clear hCe hYe hZe hIe2 hIe3 be hbd hin3 em3 HR3 HYC HMC HCC HIC
        go_wp2_with (first
          | (refine wpList_storeI_new (g := wd.heap.size) rfl 8 B3 us3.length n3 rfl _ _ rfl rfl rfl rfl ?_)
          | (go_at_call 26; ((with_reducible refine (unhide HS1).mono ?_); rintro e wf ⟨rfl, hbf⟩; have x0f := kept hbf x0; have x1f := kept hbf x1; have z0f := kept hbf z0; have z1f := kept hbf z1; have HBF := hide hbf; clear hbf))
          | (go_at_call 26; (refine (unhide HS2 _ (unhide HBF)).mono ?_; rintro e wg ⟨rfl, hbg⟩; have HBG := hide (onward (unhide HBE) (onward (unhide HBF) hbg)); clear hbg))
          | (go_at_call 22; refine (awake_inb _ ((unhide HK).keep (unhide HBG))).mono ?_; rintro e wz ⟨rfl, hbz⟩; have HBZ := hide (onward (unhide HBG) hbz); clear hbz))
        go_ret
        exact ⟨rfl, unhide HBZ⟩
    · have h0 : ((m.lst.length : Int) == 0) = false := by rw [beq_eq_false_iff_ne]; omega
      obtain ⟨g, rfl, hcl⟩ := own_addr (unhide HOWN) hz
      have hc1 : (m.lst.length : Int) ≤ (c1 : Int) := by omega
      have hl1 : (1 : Int) ≤ (m.lst.length : Int) := by omega
      by_cases hc : c1 = 1
      · subst hc
        have hOr := unhide HOR
        have hCr := unhide HCR
        have htl : (tlL m.lst).length = 0 := by have := tlL_len hz; omega
        obtain ⟨W8, hW8⟩ : ∃ W8 : World, Wr.setCell ⟨O, 29, none⟩ (.slice (some ⟨g, 0, none⟩) 0 0) = W8 := ⟨_, rfl⟩
        have hg8 : Wr.grownBy W8 (some O) := by rw [← hW8]; exact Lib.grownBy_setB (World.grownBy.refl Wr (some O)) 29 _
        have hO8 : W8.heap[O]? = some (.cells (msgL (lstd (numd m N) (tlL m.lst)) P pc (some ⟨g, 0, none⟩) (0)) 32 (0, 0)) := by rw [← hW8, heap_setM _ hOr, show Value.slice (some ⟨g, 0, none⟩) 0 0 = Value.slice (some ⟨g, 0, none⟩) (tlL m.lst).length 0 by rw [htl]]; rfl
        have hy : ∀ b, In3 X M O b → (⟨lstd (numd m N) (tlL m.lst), P, pc, some ⟨g, 0, none⟩, 0⟩ : MsS).Lies b W8 := fun b hb => by
          refine ⟨((hCr.lm b hb).1).turnL ((hCr.lm O (Or.inr (Or.inr rfl))).1) hg8, ?_⟩
          show NumsIn b W8 (some ⟨g, 0, none⟩) (tlL m.lst)
          rw [List.eq_nil_of_length_eq_zero htl]; exact NumsIn.nil _ _ _
        have HCF := hide (hCr.make hg8 hO8 hy)
        clear hy hO8 hg8 hOr hCr htl HNUM HOR HCR HLT HOWN
        as_aux_lemma =>
          have hC := unhide HCF
          have HX8 := hide hC.bx
          have HM8 := hide (show W8.heap[M]? = some (msgO (numd m N) P pc Q qc) from hC.bm)
          have HR1 := hide (cf_1 hC (unhide HCM) ((unhide HK).keep hC.bel))
          clear hC
          go_wp2_with (first
            | (rw [hW8]; refine wpList_loadI (unhide HX8) rfl _ rfl rfl ?_)
            | (refine wpList_loadI (unhide HX8) rfl _ rfl rfl ?_)
            | (refine wpList_loadM (unhide HM8) rfl _ rfl rfl ?_))
          clear hW8
          refine (unhide HR1).mono ?_
          rintro e w9 ⟨B, n9, us, Ao, co, rfl, em, hin, hb9⟩
          have hC9 := (unhide HCF).below hb9
          have hCa := hC9.put (n := n9) (fun b hb => hin b ((unhide HCF).lt b hb))
          have HX9 := hide hC9.bx
          obtain ⟨Wa, hWa⟩ : ∃ Wa : World, w9.setRow X #[.int .i64 8, .slice B us.length n9] = Wa := ⟨_, rfl⟩
          rw [hWa] at hCa
          have HCA := hide hCa
          have HXA := hide hCa.bx
          have HOA := hide (show Wa.heap[O]? = some (msgO (lstd (numd m N) (tlL m.lst)) P pc (some ⟨g, 0, none⟩) (0)) from hCa.bo)
          have HEM := hide em
          have HR2 := hide (cf_2 hCa em (unhide HCM) ((unhide HK).keep hCa.bel))
          clear hC9 hCa em hin hb9 HR1 HX8 HM8 HCF
          go_wp2_with (first
            | (refine wpList_storeI (unhide HX9) 8 B us.length n9 rfl _ _ rfl rfl rfl rfl ?_)
            | (rw [hWa]; refine wpList_loadI (unhide HXA) rfl _ rfl rfl ?_)
            | (refine wpList_loadI (unhide HXA) rfl _ rfl rfl ?_)
            | (refine wpList_loadM (unhide HOA) rfl _ rfl rfl ?_))
          clear hWa
          refine (unhide HR2).mono ?_
          rintro e wb ⟨B2, n2, us2, Ao2, co2, rfl, em2, hin2, hbb⟩
          obtain ⟨Wc, hWc⟩ : ∃ Wc : World, wb.alloc (ibO 8 B2 us2.length n2) = Wc := ⟨_, rfl⟩
          have bc : Below wb.heap.size wb Wc := by rw [← hWc]; exact (Below.refl _ _).alloc (Nat.le_refl _) _
          have hCc := (unhide HCA).below (onward hbb bc)
          have hYc : Wc.heap[wb.heap.size]? = some (ibO 8 B2 us2.length n2) := by rw [← hWc]; exact heap_alloc_new wb _
          have hIc : SndsIn X Wc B2 us2 := (hin2 X ((unhide HCA).lt X (Or.inl rfl))).keep bc
          have HCC := hide hCc
          have HYC := hide hYc
          have HIC := hide hIc
          have HMC := hide (show Wc.heap[M]? = some (msgO (numd m N) P pc Q qc) from hCc.bm)
          have HEM2 := hide em2
          have HR3 := hide (cf_3 (n := n2) hCc hIc em2 (unhide HCM) ((unhide HK).keep hCc.bel))
          clear hCc hYc hIc bc hbb hin2 em2 HR2 HX9 HXA HOA HCA
          go_wp2_with (first
            | (refine wpList_storeI_new (g := wb.heap.size) rfl 8 B2 us2.length n2 rfl _ _ rfl rfl rfl rfl ?_)
            | (rw [hWc]; refine wpList_loadI (unhide HYC) rfl _ rfl rfl ?_)
            | (refine wpList_loadI (unhide HYC) rfl _ rfl rfl ?_)
            | (refine wpList_loadM (unhide HMC) rfl _ rfl rfl ?_))
          clear hWc
          refine (unhide HR3).mono ?_
          rintro e wd ⟨B3, n3, us3, Ao3, co3, rfl, em3, hin3, hbd⟩
          obtain ⟨We, hWe⟩ : ∃ We : World, wd.alloc (ibO 8 B3 us3.length n3) = We := ⟨_, rfl⟩
          have be : Below wd.heap.size wd We := by rw [← hWe]; exact (Below.refl _ _).alloc (Nat.le_refl _) _
          have hCe := (unhide HCC).below (onward hbd be)
          have hYe := ((onward hbd be).block _ (Array.getElem?_eq_some_iff.1 (unhide HYC)).1).trans (unhide HYC)
          have hZe : We.heap[wd.heap.size]? = some (ibO 8 B3 us3.length n3) := by rw [← hWe]; exact heap_alloc_new wd _
          have hIe2 : SndsIn X We B2 us2 := (unhide HIC).keep (onward hbd be)
          have hIe3 : SndsIn X We B3 us3 := (hin3 X ((unhide HCC).lt X (Or.inl rfl))).keep be
          have x0 : We.cell? ⟨X, 0, none⟩ = some (.int .i64 8) := by rw [Lib.cell_of_heap hCe.bx]; rfl
          have x1 : We.cell? ⟨X, 1, none⟩ = some (.slice B us.length n9) := by rw [Lib.cell_of_heap hCe.bx]; rfl
          have y0 : We.cell? ⟨wb.heap.size, 0, none⟩ = some (.int .i64 8) := by rw [Lib.cell_of_heap hYe]; rfl
          have y1 : We.cell? ⟨wb.heap.size, 1, none⟩ = some (.slice B2 us2.length n2) := by rw [Lib.cell_of_heap hYe]; rfl
          have z0 : We.cell? ⟨wd.heap.size, 0, none⟩ = some (.int .i64 8) := by rw [Lib.cell_of_heap hZe]; rfl
          have z1 : We.cell? ⟨wd.heap.size, 1, none⟩ = some (.slice B3 us3.length n3) := by rw [Lib.cell_of_heap hZe]; rfl
          have HF := hide (cf_few (unhide HEM) (unhide HCM))
          have HS1 := hide (rsame5_any X 8 B B2 n9 n2 us us2 We (hCe.ins X (Or.inl rfl)) hIe2 ((unhide HEM).trans (unhide HEM2).symm) (cf_len (unhide HEM)) (unhide HF))
          have HS2 := hide (fun (wf : World) (hb : Below We.heap.size We wf) => rsame5_any X 8 B B3 n9 n3 us us3 wf ((hCe.ins X (Or.inl rfl)).keep hb) (hIe3.keep hb) ((unhide HEM).trans em3.symm) (cf_len (unhide HEM)) (unhide HF))
          have HBE := hide hCe.bel
          clear hCe hYe hZe hIe2 hIe3 be hbd hin3 em3 HR3 HYC HMC HCC HIC
          go_wp2_with (first
            | (refine wpList_storeI_new (g := wd.heap.size) rfl 8 B3 us3.length n3 rfl _ _ rfl rfl rfl rfl ?_)
            | (go_at_call 26; ((with_reducible refine (unhide HS1).mono ?_); rintro e wf ⟨rfl, hbf⟩; have x0f := kept hbf x0; have x1f := kept hbf x1; have z0f := kept hbf z0; have z1f := kept hbf z1; have HBF := hide hbf; clear hbf))
            | (go_at_call 26; (refine (unhide HS2 _ (unhide HBF)).mono ?_; rintro e wg ⟨rfl, hbg⟩; have HBG := hide (onward (unhide HBE) (onward (unhide HBF) hbg)); clear hbg))
            | (go_at_call 22; refine (awake_inb _ ((unhide HK).keep (unhide HBG))).mono ?_; rintro e wz ⟨rfl, hbz⟩; have HBZ := hide (onward (unhide HBG) hbz); clear hbz))
          go_ret
          exact ⟨rfl, unhide HBZ⟩
      · skip
        have hOr := unhide HOR
        have hCr := unhide HCR
        have htl := tlL_len hz
        obtain ⟨W8, hW8⟩ : ∃ W8 : World, Wr.setCell ⟨O, 29, none⟩ (.slice (some ⟨g, 1, none⟩) (m.lst.length - 1) (c1 - 1)) = W8 := ⟨_, rfl⟩
        have hg8 : Wr.grownBy W8 (some O) := by rw [← hW8]; exact Lib.grownBy_setB (World.grownBy.refl Wr (some O)) 29 _
        have hO8 : W8.heap[O]? = some (.cells (msgL (lstd (numd m N) (tlL m.lst)) P pc (some ⟨g, 1, none⟩) ((c1 - 1))) 32 (0, 0)) := by rw [← hW8, heap_setM _ hOr, ← htl]; rfl
        have hy : ∀ b, In3 X M O b → (⟨lstd (numd m N) (tlL m.lst), P, pc, some ⟨g, 1, none⟩, (c1 - 1)⟩ : MsS).Lies b W8 := fun b hb => by
          refine ⟨((hCr.lm b hb).1).turnL ((hCr.lm O (Or.inr (Or.inr rfl))).1) hg8, ?_⟩
          show NumsIn b W8 (some ⟨g, 1, none⟩) (tlL m.lst)
          exact (nums_tl (unhide HNUM b hb) hz).turnN (nums_tl (unhide HNUM O (Or.inr (Or.inr rfl))) hz) hg8
        have HCF := hide (hCr.make hg8 hO8 hy)
        clear hy hO8 hg8 hOr hCr htl HNUM HOR HCR HLT HOWN
        as_aux_lemma =>
          have hC := unhide HCF
          have HX8 := hide hC.bx
          have HM8 := hide (show W8.heap[M]? = some (msgO (numd m N) P pc Q qc) from hC.bm)
          have HR1 := hide (cf_1 hC (unhide HCM) ((unhide HK).keep hC.bel))
          clear hC
          go_wp2_with (first
            | (rw [hW8]; refine wpList_loadI (unhide HX8) rfl _ rfl rfl ?_)
            | (refine wpList_loadI (unhide HX8) rfl _ rfl rfl ?_)
            | (refine wpList_loadM (unhide HM8) rfl _ rfl rfl ?_))
          clear hW8
          refine (unhide HR1).mono ?_
          rintro e w9 ⟨B, n9, us, Ao, co, rfl, em, hin, hb9⟩
          have hC9 := (unhide HCF).below hb9
          have hCa := hC9.put (n := n9) (fun b hb => hin b ((unhide HCF).lt b hb))
          have HX9 := hide hC9.bx
          obtain ⟨Wa, hWa⟩ : ∃ Wa : World, w9.setRow X #[.int .i64 8, .slice B us.length n9] = Wa := ⟨_, rfl⟩
          rw [hWa] at hCa
          have HCA := hide hCa
          have HXA := hide hCa.bx
          have HOA := hide (show Wa.heap[O]? = some (msgO (lstd (numd m N) (tlL m.lst)) P pc (some ⟨g, 1, none⟩) ((c1 - 1))) from hCa.bo)
          have HEM := hide em
          have HR2 := hide (cf_2 hCa em (unhide HCM) ((unhide HK).keep hCa.bel))
          clear hC9 hCa em hin hb9 HR1 HX8 HM8 HCF
          go_wp2_with (first
            | (refine wpList_storeI (unhide HX9) 8 B us.length n9 rfl _ _ rfl rfl rfl rfl ?_)
            | (rw [hWa]; refine wpList_loadI (unhide HXA) rfl _ rfl rfl ?_)
            | (refine wpList_loadI (unhide HXA) rfl _ rfl rfl ?_)
            | (refine wpList_loadM (unhide HOA) rfl _ rfl rfl ?_))
          clear hWa
          refine (unhide HR2).mono ?_
          rintro e wb ⟨B2, n2, us2, Ao2, co2, rfl, em2, hin2, hbb⟩
          obtain ⟨Wc, hWc⟩ : ∃ Wc : World, wb.alloc (ibO 8 B2 us2.length n2) = Wc := ⟨_, rfl⟩
          have bc : Below wb.heap.size wb Wc := by rw [← hWc]; exact (Below.refl _ _).alloc (Nat.le_refl _) _
          have hCc := (unhide HCA).below (onward hbb bc)
          have hYc : Wc.heap[wb.heap.size]? = some (ibO 8 B2 us2.length n2) := by rw [← hWc]; exact heap_alloc_new wb _
          have hIc : SndsIn X Wc B2 us2 := (hin2 X ((unhide HCA).lt X (Or.inl rfl))).keep bc
          have HCC := hide hCc
          have HYC := hide hYc
          have HIC := hide hIc
          have HMC := hide (show Wc.heap[M]? = some (msgO (numd m N) P pc Q qc) from hCc.bm)
          have HEM2 := hide em2
          have HR3 := hide (cf_3 (n := n2) hCc hIc em2 (unhide HCM) ((unhide HK).keep hCc.bel))
          clear hCc hYc hIc bc hbb hin2 em2 HR2 HX9 HXA HOA HCA
          go_wp2_with (first
            | (refine wpList_storeI_new (g := wb.heap.size) rfl 8 B2 us2.length n2 rfl _ _ rfl rfl rfl rfl ?_)
            | (rw [hWc]; refine wpList_loadI (unhide HYC) rfl _ rfl rfl ?_)
            | (refine wpList_loadI (unhide HYC) rfl _ rfl rfl ?_)
            | (refine wpList_loadM (unhide HMC) rfl _ rfl rfl ?_))
          clear hWc
          refine (unhide HR3).mono ?_
          rintro e wd ⟨B3, n3, us3, Ao3, co3, rfl, em3, hin3, hbd⟩
          obtain ⟨We, hWe⟩ : ∃ We : World, wd.alloc (ibO 8 B3 us3.length n3) = We := ⟨_, rfl⟩
          have be : Below wd.heap.size wd We := by rw [← hWe]; exact (Below.refl _ _).alloc (Nat.le_refl _) _
          have hCe := (unhide HCC).below (onward hbd be)
          have hYe := ((onward hbd be).block _ (Array.getElem?_eq_some_iff.1 (unhide HYC)).1).trans (unhide HYC)
          have hZe : We.heap[wd.heap.size]? = some (ibO 8 B3 us3.length n3) := by rw [← hWe]; exact heap_alloc_new wd _
          have hIe2 : SndsIn X We B2 us2 := (unhide HIC).keep (onward hbd be)
          have hIe3 : SndsIn X We B3 us3 := (hin3 X ((unhide HCC).lt X (Or.inl rfl))).keep be
          have x0 : We.cell? ⟨X, 0, none⟩ = some (.int .i64 8) := by rw [Lib.cell_of_heap hCe.bx]; rfl
          have x1 : We.cell? ⟨X, 1, none⟩ = some (.slice B us.length n9) := by rw [Lib.cell_of_heap hCe.bx]; rfl
          have y0 : We.cell? ⟨wb.heap.size, 0, none⟩ = some (.int .i64 8) := by rw [Lib.cell_of_heap hYe]; rfl
          have y1 : We.cell? ⟨wb.heap.size, 1, none⟩ = some (.slice B2 us2.length n2) := by rw [Lib.cell_of_heap hYe]; rfl
          have z0 : We.cell? ⟨wd.heap.size, 0, none⟩ = some (.int .i64 8) := by rw [Lib.cell_of_heap hZe]; rfl
          have z1 : We.cell? ⟨wd.heap.size, 1, none⟩ = some (.slice B3 us3.length n3) := by rw [Lib.cell_of_heap hZe]; rfl
          have HF := hide (cf_few (unhide HEM) (unhide HCM))
          have HS1 := hide (rsame5_any X 8 B B2 n9 n2 us us2 We (hCe.ins X (Or.inl rfl)) hIe2 ((unhide HEM).trans (unhide HEM2).symm) (cf_len (unhide HEM)) (unhide HF))
          have HS2 := hide (fun (wf : World) (hb : Below We.heap.size We wf) => rsame5_any X 8 B B3 n9 n3 us us3 wf ((hCe.ins X (Or.inl rfl)).keep hb) (hIe3.keep hb) ((unhide HEM).trans em3.symm) (cf_len (unhide HEM)) (unhide HF))
          have HBE := hide hCe.bel
          clear hCe hYe hZe hIe2 hIe3 be hbd hin3 em3 HR3 HYC HMC HCC HIC
          go_wp2_with (first
            | (refine wpList_storeI_new (g := wd.heap.size) rfl 8 B3 us3.length n3 rfl _ _ rfl rfl rfl rfl ?_)
            | (go_at_call 26; ((with_reducible refine (unhide HS1).mono ?_); rintro e wf ⟨rfl, hbf⟩; have x0f := kept hbf x0; have x1f := kept hbf x1; have z0f := kept hbf z0; have z1f := kept hbf z1; have HBF := hide hbf; clear hbf))
            | (go_at_call 26; (refine (unhide HS2 _ (unhide HBF)).mono ?_; rintro e wg ⟨rfl, hbg⟩; have HBG := hide (onward (unhide HBE) (onward (unhide HBF) hbg)); clear hbg))
            | (go_at_call 22; refine (awake_inb _ ((unhide HK).keep (unhide HBG))).mono ?_; rintro e wz ⟨rfl, hbz⟩; have HBZ := hide (onward (unhide HBG) hbz); clear hbz))
          go_ret
          exact ⟨rfl, unhide HBZ⟩
  · skip
    have k5 : (m.kind == 5) = false := by rw [beq_eq_false_iff_ne]; exact h5
    have hcr := cnt_range hv h5
    have c0 : 0 ≤ m.cnt := by omega
    have c9 : m.cnt ≤ 99 := by omega
    have m20 : W7.cell? ⟨M, 20, none⟩ = some (.int .i64 m.cnt) := by rw [Lib.cell_of_heap (unhide HM7)]; rfl
    have o20 : W7.cell? ⟨O, 20, none⟩ = some (.int .i64 m.cnt) := by rw [Lib.cell_of_heap (unhide HO7)]; rfl
    have f20 := Lib.frozen_of_heap (unhide HO7) 20
    have hOth := other_cnt hv h5 (n := N) (by omega) (by omega)
    obtain ⟨W8, hW8⟩ : ∃ W8 : World, W7.setCell ⟨O, 20, none⟩ (.int .i64 (m.cnt % 3 + 1)) = W8 := ⟨_, rfl⟩
    have hO8 : W8.heap[O]? = some (.cells (msgL (cntd (numd m N) (m.cnt % 3 + 1)) P pc Q qc) 32 (0, 0)) := by rw [← hW8, heap_setM _ (unhide HO7)]; rfl
    have hg8 : W7.grownBy W8 (some O) := by rw [← hW8]; exact Lib.grownBy_setB (World.grownBy.refl W7 (some O)) 20 _
    have HCF := hide (show Cf w X M O ⟨numd m N, P, pc, Q, qc⟩ ⟨cntd (numd m N) (m.cnt % 3 + 1), P, pc, Q, qc⟩ none 0 [] W8 from
      (unhide HCS).make hg8 hO8 (fun b hb => ⟨(((unhide HCS).lm b hb).1).turnL ((unhide HCS).lm O (Or.inr (Or.inr rfl))).1 hg8, (((unhide HCS).lm b hb).2).turnN ((unhide HCS).lm O (Or.inr (Or.inr rfl))).2 hg8⟩))
    have HCM := hide (cfM_mk hv N2 N8 hOth hpt)
    clear hO8 hg8 hOth hcr
    as_aux_lemma =>
      have hC := unhide HCF
      have HX8 := hide hC.bx
      have HM8 := hide (show W8.heap[M]? = some (msgO (numd m N) P pc Q qc) from hC.bm)
      have HR1 := hide (cf_1 hC (unhide HCM) ((unhide HK).keep hC.bel))
      clear hC
      go_wp2_with (first
        | (rw [hW8]; refine wpList_loadI (unhide HX8) rfl _ rfl rfl ?_)
        | (refine wpList_loadI (unhide HX8) rfl _ rfl rfl ?_)
        | (refine wpList_loadM (unhide HM8) rfl _ rfl rfl ?_))
      clear hW8
      refine (unhide HR1).mono ?_
      rintro e w9 ⟨B, n9, us, Ao, co, rfl, em, hin, hb9⟩
      have hC9 := (unhide HCF).below hb9
      have hCa := hC9.put (n := n9) (fun b hb => hin b ((unhide HCF).lt b hb))
      have HX9 := hide hC9.bx
      obtain ⟨Wa, hWa⟩ : ∃ Wa : World, w9.setRow X #[.int .i64 8, .slice B us.length n9] = Wa := ⟨_, rfl⟩
      rw [hWa] at hCa
      have HCA := hide hCa
      have HXA := hide hCa.bx
      have HOA := hide (show Wa.heap[O]? = some (msgO (cntd (numd m N) (m.cnt % 3 + 1)) P pc Q qc) from hCa.bo)
      have HEM := hide em
      have HR2 := hide (cf_2 hCa em (unhide HCM) ((unhide HK).keep hCa.bel))
      clear hC9 hCa em hin hb9 HR1 HX8 HM8 HCF
      go_wp2_with (first
        | (refine wpList_storeI (unhide HX9) 8 B us.length n9 rfl _ _ rfl rfl rfl rfl ?_)
        | (rw [hWa]; refine wpList_loadI (unhide HXA) rfl _ rfl rfl ?_)
        | (refine wpList_loadI (unhide HXA) rfl _ rfl rfl ?_)
        | (refine wpList_loadM (unhide HOA) rfl _ rfl rfl ?_))
      clear hWa
      refine (unhide HR2).mono ?_
      rintro e wb ⟨B2, n2, us2, Ao2, co2, rfl, em2, hin2, hbb⟩
      obtain ⟨Wc, hWc⟩ : ∃ Wc : World, wb.alloc (ibO 8 B2 us2.length n2) = Wc := ⟨_, rfl⟩
      have bc : Below wb.heap.size wb Wc := by rw [← hWc]; exact (Below.refl _ _).alloc (Nat.le_refl _) _
      have hCc := (unhide HCA).below (onward hbb bc)
      have hYc : Wc.heap[wb.heap.size]? = some (ibO 8 B2 us2.length n2) := by rw [← hWc]; exact heap_alloc_new wb _
      have hIc : SndsIn X Wc B2 us2 := (hin2 X ((unhide HCA).lt X (Or.inl rfl))).keep bc
      have HCC := hide hCc
      have HYC := hide hYc
      have HIC := hide hIc
      have HMC := hide (show Wc.heap[M]? = some (msgO (numd m N) P pc Q qc) from hCc.bm)
      have HEM2 := hide em2
      have HR3 := hide (cf_3 (n := n2) hCc hIc em2 (unhide HCM) ((unhide HK).keep hCc.bel))
      clear hCc hYc hIc bc hbb hin2 em2 HR2 HX9 HXA HOA HCA
      go_wp2_with (first
        | (refine wpList_storeI_new (g := wb.heap.size) rfl 8 B2 us2.length n2 rfl _ _ rfl rfl rfl rfl ?_)
        | (rw [hWc]; refine wpList_loadI (unhide HYC) rfl _ rfl rfl ?_)
        | (refine wpList_loadI (unhide HYC) rfl _ rfl rfl ?_)
        | (refine wpList_loadM (unhide HMC) rfl _ rfl rfl ?_))
      clear hWc
      refine (unhide HR3).mono ?_
      rintro e wd ⟨B3, n3, us3, Ao3, co3, rfl, em3, hin3, hbd⟩
      obtain ⟨We, hWe⟩ : ∃ We : World, wd.alloc (ibO 8 B3 us3.length n3) = We := ⟨_, rfl⟩
      have be : Below wd.heap.size wd We := by rw [← hWe]; exact (Below.refl _ _).alloc (Nat.le_refl _) _
      have hCe := (unhide HCC).below (onward hbd be)
      have hYe := ((onward hbd be).block _ (Array.getElem?_eq_some_iff.1 (unhide HYC)).1).trans (unhide HYC)
      have hZe : We.heap[wd.heap.size]? = some (ibO 8 B3 us3.length n3) := by rw [← hWe]; exact heap_alloc_new wd _
      have hIe2 : SndsIn X We B2 us2 := (unhide HIC).keep (onward hbd be)
      have hIe3 : SndsIn X We B3 us3 := (hin3 X ((unhide HCC).lt X (Or.inl rfl))).keep be
      have x0 : We.cell? ⟨X, 0, none⟩ = some (.int .i64 8) := by rw [Lib.cell_of_heap hCe.bx]; rfl
      have x1 : We.cell? ⟨X, 1, none⟩ = some (.slice B us.length n9) := by rw [Lib.cell_of_heap hCe.bx]; rfl
      have y0 : We.cell? ⟨wb.heap.size, 0, none⟩ = some (.int .i64 8) := by rw [Lib.cell_of_heap hYe]; rfl
      have y1 : We.cell? ⟨wb.heap.size, 1, none⟩ = some (.slice B2 us2.length n2) := by rw [Lib.cell_of_heap hYe]; rfl
      have z0 : We.cell? ⟨wd.heap.size, 0, none⟩ = some (.int .i64 8) := by rw [Lib.cell_of_heap hZe]; rfl
      have z1 : We.cell? ⟨wd.heap.size, 1, none⟩ = some (.slice B3 us3.length n3) := by rw [Lib.cell_of_heap hZe]; rfl
      have HF := hide (cf_few (unhide HEM) (unhide HCM))
      have HS1 := hide (rsame5_any X 8 B B2 n9 n2 us us2 We (hCe.ins X (Or.inl rfl)) hIe2 ((unhide HEM).trans (unhide HEM2).symm) (cf_len (unhide HEM)) (unhide HF))
      have HS2 := hide (fun (wf : World) (hb : Below We.heap.size We wf) => rsame5_any X 8 B B3 n9 n3 us us3 wf ((hCe.ins X (Or.inl rfl)).keep hb) (hIe3.keep hb) ((unhide HEM).trans em3.symm) (cf_len (unhide HEM)) (unhide HF))
      have HBE := hide hCe.bel
      clear hCe hYe hZe hIe2 hIe3 be hbd hin3 em3 HR3 HYC HMC HCC HIC
      go_wp2_with (first
        | (refine wpList_storeI_new (g := wd.heap.size) rfl 8 B3 us3.length n3 rfl _ _ rfl rfl rfl rfl ?_)
        | (go_at_call 26; ((with_reducible refine (unhide HS1).mono ?_); rintro e wf ⟨rfl, hbf⟩; have x0f := kept hbf x0; have x1f := kept hbf x1; have z0f := kept hbf z0; have z1f := kept hbf z1; have HBF := hide hbf; clear hbf))
        | (go_at_call 26; (refine (unhide HS2 _ (unhide HBF)).mono ?_; rintro e wg ⟨rfl, hbg⟩; have HBG := hide (onward (unhide HBE) (onward (unhide HBF) hbg)); clear hbg))
        | (go_at_call 22; refine (awake_inb _ ((unhide HK).keep (unhide HBG))).mono ?_; rintro e wz ⟨rfl, hbz⟩; have HBZ := hide (onward (unhide HBG) hbz); clear hbz))
      go_ret
      exact ⟨rfl, unhide HBZ⟩
theorem conf_law (A0 : Option Addr) (len cap : Nat) (hcap : len ≤ cap) {w : World} (hA : IntsIn w.heap.size w A0 len) (k : Int) (_wk : (Lit.int .i64 k).wf = true) (hK : Keys w) :
    Calls Tryd.prog 7 #[.slice A0 len cap, .int .i64 k] w fun e w' => e = .returned (.bool true) ∧ Below w.heap.size w w' := conf_any A0 len cap k w hcap hA hK
end Go.Proofs.YtcjdjdganaokfaaDoor
