/-
  Contract of the document's own Bent: some layout stands there.
-/
import Derived.Test.YtfddpdognelhmaaGreatDoorLayBe
import Derived.Deep.CutRange
import Derived.Deep.CutBlock
namespace Go.Proofs.YtfddpdognelhmaaGreatDoor
open Go.RowKit

/-- What Bent comes to. -/
def BentTo (B b : Nat) (x : Lay) (w : World) (e : Ending) (w' : World) : Prop :=
  ∃ (y : Lay) (A : Option Addr) (c : Nat) (D : Option Addr) (d : Nat), e = .returned (lV y A c D d) ∧ y.nodes.length = x.nodes.length ∧ (∀ i, i < y.nodes.length → (y.nodes.getD i nd0).exits.length ≤ (x.nodes.getD i nd0).exits.length + 1) ∧ y.devs.length ≤ x.devs.length + 1 ∧
    NdsIn b w' A y.nodes ∧ DvsIn b w' D y.devs ∧ Src B b w' ∧ w.grownBy w' (some b)
theorem bent_end {B b q : Nat} {x : Lay} {w W2 V : World} {A D : Option Addr} {c d : Nat} {us : List NdS} {ds : List Dv} (hb2 : Below w.heap.size w W2) (hbl : b < w.heap.size) (hr : V.heap[w.heap.size + 1]? = some (.cells zL 25 (0, 0)))
    (h : BnS B b W2 q A c us D d ds V) (hl : us.length = x.nodes.length) (hx : ∀ j, j < us.length → (us.getD j nds0).x.exits.length ≤ (x.nodes.getD j nd0).exits.length + 1) (hd : ds.length ≤ x.devs.length + 1) :
    BentTo B b x w (.returned (.agg #[.slice A us.length c, .slice D ds.length d])) (V.setRow (w.heap.size + 1) #[.slice A us.length c, .slice D ds.length d]) := by
  obtain ⟨l, hll, hle, hN, hD⟩ := h.fin
  have hsr := SlB.row hr #[.slice A us.length c, .slice D ds.length d]
  have hR : Rd w B b (V.setRow (w.heap.size + 1) #[.slice A us.length c, .slice D ds.length d]) := (show Rd w B b V from ⟨h.rd.src, Lib.grownBy_trans (grown_below hb2 _) h.rd.gr⟩).new (grown_setRow V (w.heap.size + 1) _) (by omega) hbl
  exact ⟨⟨l, ds⟩, A, c, D, d, by show _ = Ending.returned (.agg #[.slice A l.length c, .slice D ds.length d]); rw [hll], hll.trans hl, fun i hi => by
    have hi' : i < l.length := hi
    rw [show (Lay.mk l ds).nodes = l from rfl, hle i hi']; exact hx i (by omega), hd, hsr.nds hN, hsr.dvs hD, hR.src, hR.gr⟩
set_option maxHeartbeats 8000000 in
set_option maxRecDepth 100000 in
theorem bent_any (B b : Nat) (x : Lay) (A D : Option Addr) (c d : Nat) (n : Int) (nm : ByteArray) (w : World) (hS : Src B b w) (hz : x.nodes.length ≤ 1000) (hd : x.devs.length ≤ 1000) (he : ∀ i, i < x.nodes.length → (x.nodes.getD i nd0).exits.length ≤ 1000)
    (hN : NdsIn b w A x.nodes) (hD : DvsIn b w D x.devs) :
    Calls Tryz.prog 8 #[.pointer (some ⟨b, 0, none⟩), lV x A c D d, .int .i64 n, .string nm] w (BentTo B b x w) := by
  obtain ⟨i0, hi1, hz0, hz1, hz2⟩ := info_parts linfo_int
  have Hi := hide hi1
  have Hz0 := hide hz0
  have Hz1 := hide hz1
  have Hz2 := hide hz2
  obtain ⟨j0, hj1, hy0, hy1, hy2⟩ := info_parts linfo_node
  have Hj := hide hj1
  have Hy0 := hide hy0
  have Hy1 := hide hy1
  have Hy2 := hide hy2
  obtain ⟨k0, hk1, hx0, hx1, hx2⟩ := info_parts linfo_dev
  have Hk := hide hk1
  have Hx0 := hide hx0
  have Hx1 := hide hx1
  have Hx2 := hide hx2
  have hbl := hS.lt
  have b1 := (Below.refl w.heap.size w).alloc (Nat.le_refl _) (lO x A c D d)
  have b2 := b1.alloc (by rw [World.size_alloc]; omega) (.cells zL 25)
  obtain ⟨W2, hW2⟩ : ∃ W2 : World, (w.alloc (lO x A c D d)).alloc (.cells zL 25) = W2 := ⟨_, rfl⟩
  have hs2 : W2.heap.size = w.heap.size + 2 := by rw [← hW2, World.size_alloc, World.size_alloc]
  have hlb : W2.heap[w.heap.size]? = some (lO x A c D d) := by rw [← hW2]; exact heap_below (heap_alloc_new w _) (below_new (Below.refl _ _) _)
  have hrs : W2.heap[w.heap.size + 1]? = some (.cells zL 25 (0, 0)) := by
    rw [← hW2]
    have := heap_alloc_new (w.alloc (lO x A c D d)) (.cells zL 25)
    rwa [World.size_alloc] at this
  rw [hW2] at b2
  have HW2 := hide hW2
  have HB2 := hide b2
  have HLb := hide hlb
  have HRs := hide hrs
  have HN := hide (hN.keep b2)
  have HD := hide (hD.keep b2)
  have HE := hide he
  have HS2 := hide (hS.keep b2)
  have bL := (Below.refl W2.heap.size W2).alloc (Nat.le_refl _) (.cells #[] 57)
  have HOw0 := hide (show (W2.alloc (.cells #[] 57)).ownsRow W2.heap.size 57 3 (.slice (some ⟨w.heap.size + 2, 0, none⟩) 0 0) 0 [] from
    ⟨rfl, .inr ⟨w.heap.size + 2, 0, #[], rfl, by omega, by rw [← hs2]; exact heap_alloc_new W2 _, Nat.le_refl _, Nat.zero_le _, rfl, rfl⟩⟩)
  have HDc := hide (show 0 < x.devs.length → ∃ g off, D = some ⟨g, off, none⟩ ∧ ∀ j u, (dvsV x.devs)[j]? = some u → (W2.alloc (.cells #[] 57)).cell? ⟨g, off + j, none⟩ = some u from fun h => by
    obtain ⟨g, off, hA, _, hc⟩ := ((hD.keep b2).keep bL) h
    refine ⟨g, off, hA, fun j u hj => ?_⟩
    have hjl : j < x.devs.length * 3 := by
      have := (List.getElem?_eq_some_iff.1 hj).1
      rwa [dvsV_len] at this
    have hm := Nat.div_add_mod j 3
    have hi : j / 3 < x.devs.length := by omega
    have h3 : j % 3 < 3 := Nat.mod_lt _ (by omega)
    obtain ⟨c0, c1, c2⟩ := hc (j / 3) hi
    have e : j = j / 3 * 3 + j % 3 := by omega
    rw [e] at hj
    rw [dvsV_at x.devs _ hi _ h3] at hj
    rw [e]
    generalize j / 3 = k at *
    generalize j % 3 = m at *
    rcases (show m = 0 ∨ m = 1 ∨ m = 2 by omega) with rfl | rfl | rfl
    · rw [show off + (k * 3 + 0) = off + k * 3 by omega, c0]; exact hj
    · rw [show off + (k * 3 + 1) = off + k * 3 + 1 by omega, c1]; exact hj
    · rw [show off + (k * 3 + 2) = off + k * 3 + 2 by omega, c2]; exact hj)
  have l1 : (W2.alloc (.cells #[] 57)).cell? ⟨w.heap.size, 1, none⟩ = some (.slice D x.devs.length d) := by rw [Lib.cell_of_heap (heap_below hlb bL)]; rfl
  clear hi1 hz0 hz1 hz2 hj1 hy0 hy1 hy2 hk1 hx0 hx1 hx2 hS hN hD he b1 b2 hlb hrs
  go_enter Tryz.func8, Tryz.ntmps8
  go_wp2_with (first
    | (at_builtin; refine wpList_copyG (H := W2.heap.size) (e := w.heap.size + 2) (xs := dvsV x.devs) (n := x.devs.length) (c := d) (A := D) (ts := 23) (te := 57) (size := 3) (bytes := 24) rfl _ _ rfl rfl rfl rfl Tryz.underlying23 (unhide Hk) (unhide Hx0) (unhide Hx1) (unhide Hx2) rfl (by decide) ?d1 ?d2 ?d3 ?d4 ?d5 (unhide HOw0) (unhide HDc) ?_))
  case d1 => exact dvsV_len _
  case d2 => unfold maxLen; omega
  case d3 => omega
  case d4 =>
    intro u hu
    obtain ⟨y, _, hy⟩ := List.mem_flatMap.1 hu
    unfold dvC at hy
    simp at hy
    rcases hy with rfl | rfl | rfl <;> rfl
  case d5 => rw [World.size_alloc]; omega
  intro D1 d1 w3 hown3 hgrow3
  have hw3 : W2.heap.size < w3.heap.size := by have := hgrow3.size; rw [World.size_alloc] at this; omega
  have HS3 := hide (show BnS B b W2 w3.heap.size none 0 [] D1 d1 x.devs (w3.alloc (.cells #[.slice none 0 0, .slice D1 x.devs.length d1] 25)) from
    ⟨(((Rd.start (unhide HS2)).alloc _).row (by omega) (fun k e => by have : w.heap.size + 2 = k := Option.some.inj e; omega) hgrow3).alloc _, heap_alloc_new w3 _, ⟨rfl, .inl ⟨rfl, rfl⟩⟩, by rw [hs2]; exact hown3.alloc _, fun u hu => (nomatch hu), by omega, by omega⟩)
  generalize hq : w3.heap.size = q at *
  have Hs2 := hide hs2
  clear hown3 hgrow3 l1 hs2
  go_wp2
  generalize hW4 : w3.alloc (.cells #[.slice none 0 0, .slice D1 x.devs.length d1] 25) = W4 at *
  clear hW4
  go_loopw [10] (fun i wr => ∃ (us : List NdS) (A' : Option Addr) (c' : Nat), us.length ≤ x.nodes.length ∧ i = .int .i64 us.length ∧ BnS B b W2 q A' c' us D1 d1 x.devs wr ∧ Hid (∀ j, j < us.length → (us.getD j nds0).x.exits.length = (x.nodes.getD j nd0).exits.length)) (fun i _ => x.nodes.length - (intOf i).toNat)
  case atStart => exact ⟨[], none, 0, Nat.zero_le _, rfl, unhide HS3, Lib.hid fun j hj => absurd hj (Nat.not_lt_zero _)⟩
  case round =>
    obtain ⟨us, A1, c1, hul, rfl, hS, hG⟩ := hrel
    obtain ⟨wo, rfl⟩ : ∃ wo : World, wo = wr := ⟨_, rfl⟩
    have HS := hide hS
    have hlt0 := hS.lt
    have HLo := hide ((hS.rd.gr.block w.heap.size (by have := unhide Hs2; omega) (by simp; omega)).trans (unhide HLb))
    have l0 : wo.cell? ⟨w.heap.size, 0, none⟩ = some (.slice A x.nodes.length c) := by rw [Lib.cell_of_heap (unhide HLo)]; rfl
    by_cases hlt : us.length < x.nodes.length
    · have il : (us.length : Int) < (x.nodes.length : Int) := by omega
      have i0 : (0 : Int) ≤ (us.length : Int) := by omega
      obtain ⟨g, off, rfl, hgb, hcl⟩ := ((unhide HN).grown hS.rd.gr) (by omega)
      obtain ⟨q0, q1, q2, q3, P, cp, q4, hlp, hnm⟩ := hcl us.length hlt
      have hex := unhide HE us.length hlt
      have HGs := hide (show ∀ u : NdS, u.x.exits.length = (x.nodes.getD us.length nd0).exits.length → ∀ j, j < (us ++ [u]).length → ((us ++ [u]).getD j nds0).x.exits.length = (x.nodes.getD j nd0).exits.length from fun u hu j hj => by
        rw [List.length_append, List.length_singleton] at hj
        by_cases e : j = us.length
        · subst e
          rw [List.getD_eq_getElem?_getD, List.getElem?_append_right (Nat.le_refl _), Nat.sub_self]
          exact hu
        · have := hG.out j (by omega)
          rw [List.getD_eq_getElem?_getD, List.getElem?_append_left (by omega), ← List.getD_eq_getElem?_getD]
          exact this)
      clear hcl hG
      generalize x.nodes.getD us.length nd0 = nd at *
      have HNm := hide hnm
      have bA := (Below.refl wo.heap.size wo).alloc (Nat.le_refl _) (ndO nd P cp)
      have bB := bA.alloc (by rw [World.size_alloc]; omega) (.cells #[] 3)
      have HOw := hide (show ((wo.alloc (ndO nd P cp)).alloc (.cells #[] 3)).ownsRow W2.heap.size 3 1 (.slice (some ⟨wo.heap.size + 1, 0, none⟩) 0 0) 0 [] from
        ⟨rfl, .inr ⟨wo.heap.size + 1, 0, #[], rfl, by omega, by
          have := heap_alloc_new (wo.alloc (ndO nd P cp)) (.cells #[] 3)
          rwa [World.size_alloc] at this, Nat.le_refl _, Nat.zero_le _, rfl, rfl⟩⟩)
      have HXb := hide (show ((wo.alloc (ndO nd P cp)).alloc (.cells #[] 3)).heap[wo.heap.size]? = some (ndO nd P cp) from heap_below (heap_alloc_new wo _) (below_new (Below.refl _ _) _))
      have HSr := hide (show 0 < nd.exits.length → ∃ g off, P = some ⟨g, off, none⟩ ∧ ∀ j u, (nd.exits.map (Value.int .i64))[j]? = some u → ((wo.alloc (ndO nd P cp)).alloc (.cells #[] 3)).cell? ⟨g, off + j, none⟩ = some u from fun h => by
        obtain ⟨g', off', hA, _, hc⟩ := (hnm.keep bB) h
        refine ⟨g', off', hA, fun j u hj => ?_⟩
        have hjl : j < nd.exits.length := by simpa using (List.getElem?_eq_some_iff.1 hj).1
        rw [List.getElem?_map, List.getElem?_eq_getElem hjl] at hj
        rw [hc j hjl, at_k hjl]
        exact hj)
      have a4 : ((wo.alloc (ndO nd P cp)).alloc (.cells #[] 3)).cell? ⟨wo.heap.size, 4, none⟩ = some (.slice P nd.exits.length cp) := by rw [Lib.cell_of_heap (unhide HXb)]; rfl
      have BB := hide bB
      clear hnm bA bB hS
      go_wp2_with (first
        | (at_builtin; refine wpList_copyG (H := W2.heap.size) (e := wo.heap.size + 1) (xs := nd.exits.map (Value.int .i64)) (n := nd.exits.length) (c := cp) (A := P) (ts := 26) (te := 3) (size := 1) (bytes := 8) rfl _ _ rfl rfl rfl rfl Tryz.underlying26 (unhide Hi) (unhide Hz0) (unhide Hz1) (unhide Hz2) rfl (by decide) ?e1 ?e2 ?e3 ?e4 ?e5 (unhide HOw) (unhide HSr) ?_))
      case e1 => simp
      case e2 => unfold maxLen; omega
      case e3 => omega
      case e4 =>
        intro u hu
        obtain ⟨y, _, rfl⟩ := List.mem_map.1 hu
        rfl
      case e5 => rw [World.size_alloc, World.size_alloc]; omega
      intro P7 c7 w7 hown7 hgrow7
      have b7 : Below wo.heap.size wo w7 := (unhide BB).grown hgrow7 (by rw [World.size_alloc, World.size_alloc]; omega) (fun g hg => by have : wo.heap.size + 1 = g := Option.some.inj hg; omega)
      have hx7 : w7.heap[wo.heap.size]? = some (ndO nd P cp) := (hgrow7.block _ (by rw [World.size_alloc, World.size_alloc]; omega) (by simp)).trans (unhide HXb)
      have f7 := Lib.frozen_of_heap hx7 4
      have a7 : w7.cell? ⟨wo.heap.size, 4, none⟩ = some (.slice P nd.exits.length cp) := by rw [Lib.cell_of_heap hx7]; rfl
      obtain ⟨W8, hW8⟩ : ∃ W8 : World, w7.setCell ⟨wo.heap.size, 4, none⟩ (.slice P7 nd.exits.length c7) = W8 := ⟨_, rfl⟩
      have hx8 : W8.heap[wo.heap.size]? = some (.cells #[.string nd.name, .int .i64 nd.kind, .int .i64 nd.len, .int .i64 nd.zone, .slice P7 nd.exits.length c7] 45 (0, 0)) := by rw [← hW8]; exact heap_set hx7 _
      have b8 : Below wo.heap.size wo W8 := by rw [← hW8]; exact b7.setCell (p := ⟨wo.heap.size, 4, none⟩) (Nat.le_refl _) _
      have hS8 := (unhide HS).below b8
      have HEx8 := hide (show ExR W2.heap.size W8 P7 nd.exits.length c7 from by rw [← hW8]; exact (ExR.own hown7).step (KpI.of (keepTy_set hx7 (by decide) _)))
      obtain ⟨y0, y1, y2, y3, y4⟩ := nd_cells hx8
      have r8 := hS8.c0
      have bC := (Below.refl W8.heap.size W8).alloc (Nat.le_refl _) (.cells #[.string nd.name, .int .i64 nd.kind, .int .i64 nd.len, .int .i64 nd.zone, .slice P7 nd.exits.length c7] 45)
      have HS9 := hide (hS8.below bC)
      have HEx9 := hide ((unhide HEx8).step (KpI.of (KeepTy.below bC)))
      have hlt8 := hS8.lt
      clear hown7 hgrow7 b7 hx7 hx8 b8 hS8 bC a4
      go_wp2_with (first
        | (at_builtin; refine wpList_append_own _ rfl _ _ 22 rfl W2.heap.size 45 j0 (.agg #[.string ⟨#[]⟩, .int .i64 0, .int .i64 0, .int .i64 0, .slice none 0 0]) 5 64 Tryz.underlying22 (unhide Hj) (unhide Hy0) (unhide Hy1) (unhide Hy2) rfl (by decide) _ _ _ rfl (unhide HS9).nrow ⟨W8.heap.size, 0, none⟩ 1 1 [.string nd.name, .int .i64 nd.kind, .int .i64 nd.len, .int .i64 nd.zone, .slice P7 nd.exits.length c7] rfl rfl ?g1 ?g2 ?g3 ?g4 ?g5 ?_))
      case g1 => exact World.news_of_block (heap_alloc_new W8 _)
      case g2 => simp [Value.oneCell']
      case g3 => unfold maxLen; omega
      case g4 => omega
      case g5 => rw [World.size_alloc]; omega
      intro v' w6 hown6 hgrow _
      obtain ⟨A6, c6, rfl⟩ := own_form hown6
      have hbox6 := (hgrow.block _ (unhide HS9).lt (own_ne (unhide HS9).nrow (unhide HS9).box (by decide))).trans (unhide HS9).box
      have f6 : w6.frozen? ⟨q, 0, none⟩ = false := Lib.frozen_of_heap hbox6 0
      have l6 : w6.cell? ⟨q, 0, none⟩ = some (.slice A1 us.length c1) := by rw [Lib.cell_of_heap hbox6]; rfl
      have HS6 := hide ((unhide HS9).pushN (u := ⟨nd, P7, c7⟩) (unhide HEx9) hgrow hown6)
      clear hown6 hgrow hbox6 y0 y1 y2 y3 y4 r8
      go_wp2
      go_roundw
      case rel => exact ⟨us ++ [⟨nd, P7, c7⟩], A6, c6, by rw [List.length_append, List.length_singleton]; omega, by rw [List.length_append, List.length_singleton]; go_num, unhide HS6, Lib.hid (unhide HGs _ rfl)⟩
      case measure => simp [intOf]; omega
    · have hul2 : us.length = x.nodes.length := by omega
      have HUl := hide hul2
      have HG := hide hG.out
      have m0 := hS.c0
      clear hG
      by_cases h0 : us.length = 0
      · have h0' : ((us.length : Int) == 0) = true := by rw [beq_iff_eq]; omega
        have il : ¬ (us.length : Int) < (x.nodes.length : Int) := by omega
        have hSx := hS
        have hlx := hul2
        have hxx := (show ∀ j, j < us.length → (us.getD j nds0).x.exits.length ≤ (x.nodes.getD j nd0).exits.length + 1 from fun j hj => by rw [unhide HG j hj]; omega)
        have hdx := Nat.le_succ x.devs.length
        clear hS hul2 h0 m0
        have HRx := hide ((hSx.rd.gr.block (w.heap.size + 1) (by have := unhide Hs2; omega) (by simp; omega)).trans (unhide HRs))
        have m0 := hSx.c0
        have m1 := hSx.c1
        have HSx := hide hSx
        have HXx := hide hxx
        have HLx := hide hlx
        have HDx := hide hdx
        clear hSx hxx hlx hdx
        go_wp2_with (first
          | (refine wpList_store_row rfl _ _ _ rfl (w.heap.size + 1) #[.slice A1 us.length c1, .slice D1 x.devs.length d1] rfl rfl 25 _ (unhide HRx) linfo_lay rfl (by simp [Value.oneCell']) ?_))
        have hR := setRow_heap wo (w.heap.size + 1) _ #[.slice A1 us.length c1, .slice D1 x.devs.length d1] _ _ (unhide HRx)
        have z0 : (wo.setRow (w.heap.size + 1) #[.slice A1 us.length c1, .slice D1 x.devs.length d1]).cell? ⟨w.heap.size + 1, 0, none⟩ = some (.slice A1 us.length c1) := by rw [Lib.cell_of_heap hR]; rfl
        have z1 : (wo.setRow (w.heap.size + 1) #[.slice A1 us.length c1, .slice D1 x.devs.length d1]).cell? ⟨w.heap.size + 1, 1, none⟩ = some (.slice D1 x.devs.length d1) := by rw [Lib.cell_of_heap hR]; rfl
        exact bodyPost_ret (v := .agg #[.slice A1 us.length c1, .slice D1 x.devs.length d1]) (by simp [results, go_sem, z0, z1]) rfl (bent_end (unhide HB2) hbl (unhide HRx) (unhide HSx) (unhide HLx) (unhide HXx) (unhide HDx))
      · have h0' : ((us.length : Int) == 0) = false := by rw [beq_eq_false_iff_ne]; omega
        have il : ¬ (us.length : Int) < (x.nodes.length : Int) := by omega
        obtain ⟨g, rfl, -, -⟩ := own_cell hS.nrow (by omega)
        have hL1 : (1 : Int) ≤ (us.length : Int) := by omega
        have hL2 : (us.length : Int) ≤ 1000000000 := by omega
        have hS0 := hS.below (Below.refl wo.heap.size wo).drew
        have hh : wo.drew.cell? ⟨q, 0, none⟩ = some (.slice (some ⟨g, 0, none⟩) us.length c1) ∧ wo.drew.cell? ⟨q, 1, none⟩ = some (.slice D1 x.devs.length d1) := ⟨hS0.c0, hS0.c1⟩
        have HS0 := hide hS0
        clear hS hul2 h0 hS0
        go_wp2_with fail
        refine wp_region_anyZ 8 (fun Z => Z.cell? ⟨q, 0, none⟩ = some (.slice (some ⟨g, 0, none⟩) us.length c1) ∧ Z.cell? ⟨q, 1, none⟩ = some (.slice D1 x.devs.length d1)) (by kernel_rfl) ?_
        refine anyZ_take (i := 0) (v := .pointer (some ⟨q, 0, none⟩)) rfl (by kernel_rfl) (by kernel_rfl) (by kernel_rfl) (by kernel_rfl) (fun _ _ _ h => h) (Or.inl ⟨by rfl, by intro w hs; go_simp⟩) hh ?_
        refine anyZ_take (i := 1) (v := .slice (some ⟨g, 0, none⟩) us.length c1) rfl (by kernel_rfl) (by kernel_rfl) (by kernel_rfl) (by kernel_rfl) (fun _ _ _ h => h) (Or.inl ⟨by rfl, by intro w hs; have h9 := hs.1; go_simp⟩) hh ?_
        refine anyZ_take (i := 2) (v := .pointer (some ⟨b, 0, none⟩)) rfl (by kernel_rfl) (by kernel_rfl) (by kernel_rfl) (by kernel_rfl) (fun _ _ _ h => h) (Or.inl ⟨by rfl, by intro w hs; go_simp⟩) hh ?_
        refine anyZ_take (i := 3) (v := .pointer (some ⟨q, 0, none⟩)) rfl (by kernel_rfl) (by kernel_rfl) (by kernel_rfl) (by kernel_rfl) (fun _ _ _ h => h) (Or.inl ⟨by rfl, by intro w hs; go_simp⟩) hh ?_
        refine anyZ_take (i := 4) (v := .slice (some ⟨g, 0, none⟩) us.length c1) rfl (by kernel_rfl) (by kernel_rfl) (by kernel_rfl) (by kernel_rfl) (fun _ _ _ h => h) (Or.inl ⟨by rfl, by intro w hs; have h9 := hs.1; go_simp⟩) hh ?_
        refine anyZ_take (i := 5) (v := .int .i64 (us.length : Int)) rfl (by kernel_rfl) (by kernel_rfl) (by kernel_rfl) (by kernel_rfl) (fun _ _ _ h => h) (Or.inl ⟨by rfl, by intro w hs; go_simp⟩) hh ?_
        refine anyZ_one (i := 6) (by kernel_rfl) rfl (fun K hK => ?_)
        go_simp
        go_at_call 24
        refine (n_any B b (us.length : Int) _ (unhide HS0).rd.src hL1 hL2).mono ?_
        rintro e w5 ⟨y5, rfl, hy1, hy2, hsr5, hgr5⟩
        try go_simp
        obtain ⟨j, rfl⟩ := Int.eq_ofNat_of_zero_le hy1
        have hS5 := (unhide HS0).read hsr5 hgr5
        have hh5 : w5.cell? ⟨q, 0, none⟩ = some (.slice (some ⟨g, 0, none⟩) us.length c1) ∧ w5.cell? ⟨q, 1, none⟩ = some (.slice D1 x.devs.length d1) := ⟨hS5.c0, hS5.c1⟩
        have hj1 : (j : Int) < (us.length : Int) := by omega
        have hj0 : (0 : Int) ≤ (j : Int) := by omega
        have HS5 := hide hS5
        clear hsr5 hgr5 hS5 hy1 hy2
        refine hK _ _ ⟨fun _ => hh5, ?_⟩
        clear hK K
        refine anyZ_take (i := 7) (v := .pointer (some ⟨g, j * 5, none⟩)) rfl (by kernel_rfl) (by kernel_rfl) (by kernel_rfl) (by kernel_rfl) (fun _ _ _ h => h) (Or.inl ⟨by rfl, by intro w hs; go_simp⟩) hh5 ?_
        refine anyZ_one (i := 8) (by kernel_rfl) rfl (fun K hK => ?_)
        go_simp
        refine hK _ _ ⟨fun h => absurd rfl h, ?_⟩
        clear hK K
        refine anyZ_done (by kernel_rfl) ?_ _
        go_simp
        clear hh hh5 l0 m0
        go_wp2_with fail
        refine (n_any B b 12 _ (unhide HS5).rd.src (by omega) (by omega)).mono ?_
        rintro e V ⟨z, rfl, hz1, hz2, hsr, hgr⟩
        have hSv := (unhide HS5).read hsr hgr
        have hj : j < us.length := by omega
        clear hsr hgr
        have hzz : z = 0 ∨ z = 1 ∨ z = 2 ∨ z = 3 ∨ z = 4 ∨ z = 5 ∨ z = 6 ∨ z = 7 ∨ z = 8 ∨ z = 9 ∨ z = 10 ∨ z = 11 := by omega
        clear hz1 hz2
        rcases hzz with rfl | rfl | rfl | rfl | rfl | rfl | rfl | rfl | rfl | rfl | rfl | rfl
        · -- way 0
          have hc := hSv.node (f := 0) hj (by omega) (show _ = some (.string (us.getD j nds0).x.name) from rfl)
          have hf := hSv.nfz (j := j * 5)
          obtain ⟨VF, hVF⟩ : ∃ VF : World, V.setCell ⟨g, j * 5, none⟩ (.string nm) = VF := ⟨_, rfl⟩
          have HF := hide (show BnE B b x W2 q VF from by
            rw [← hVF]
            exact ⟨_, _, _, _, _, _, hSv.upd (f := 0) (v := .string nm) ⟨{ (us.getD j nds0).x with name := nm }, (us.getD j nds0).P, (us.getD j nds0).c⟩ hj (by omega) rfl (hSv.ex hj), by rw [List.length_set]; exact unhide HUl, exs_set (unhide HG) (Nat.le_succ _), Nat.le_succ _⟩)
          clear hSv
          try simp only [Nat.add_zero] at hc
          obtain ⟨Ax, cx, ux, Dx, dx, ex, hSx, hlx, hxx, hdx⟩ := (unhide HF)
          clear HF
          have HRx := hide ((hSx.rd.gr.block (w.heap.size + 1) (by have := unhide Hs2; omega) (by simp; omega)).trans (unhide HRs))
          have m0 := hSx.c0
          have m1 := hSx.c1
          have HSx := hide hSx
          have HXx := hide hxx
          have HLx := hide hlx
          have HDx := hide hdx
          clear hSx hxx hlx hdx
          go_wp2_with (first
            | (refine wpList_store_row rfl _ _ _ rfl (w.heap.size + 1) #[.slice Ax ux.length cx, .slice Dx ex.length dx] rfl rfl 25 _ (unhide HRx) linfo_lay rfl (by simp [Value.oneCell']) ?_))
          have hR := setRow_heap VF (w.heap.size + 1) _ #[.slice Ax ux.length cx, .slice Dx ex.length dx] _ _ (unhide HRx)
          have z0 : (VF.setRow (w.heap.size + 1) #[.slice Ax ux.length cx, .slice Dx ex.length dx]).cell? ⟨w.heap.size + 1, 0, none⟩ = some (.slice Ax ux.length cx) := by rw [Lib.cell_of_heap hR]; rfl
          have z1 : (VF.setRow (w.heap.size + 1) #[.slice Ax ux.length cx, .slice Dx ex.length dx]).cell? ⟨w.heap.size + 1, 1, none⟩ = some (.slice Dx ex.length dx) := by rw [Lib.cell_of_heap hR]; rfl
          exact bodyPost_ret (v := .agg #[.slice Ax ux.length cx, .slice Dx ex.length dx]) (by simp [results, go_sem, z0, z1]) rfl (bent_end (unhide HB2) hbl (unhide HRx) (unhide HSx) (unhide HLx) (unhide HXx) (unhide HDx))
        · -- way 1
          have hc := hSv.node (f := 1) hj (by omega) (show _ = some (.int .i64 (us.getD j nds0).x.kind) from rfl)
          have hf := hSv.nfz (j := j * 5 + 1)
          obtain ⟨VF, hVF⟩ : ∃ VF : World, V.setCell ⟨g, j * 5 + 1, none⟩ (.int .i64 n) = VF := ⟨_, rfl⟩
          have HF := hide (show BnE B b x W2 q VF from by
            rw [← hVF]
            exact ⟨_, _, _, _, _, _, hSv.upd (f := 1) (v := .int .i64 n) ⟨{ (us.getD j nds0).x with kind := n }, (us.getD j nds0).P, (us.getD j nds0).c⟩ hj (by omega) rfl (hSv.ex hj), by rw [List.length_set]; exact unhide HUl, exs_set (unhide HG) (Nat.le_succ _), Nat.le_succ _⟩)
          clear hSv
          try simp only [Nat.add_zero] at hc
          obtain ⟨Ax, cx, ux, Dx, dx, ex, hSx, hlx, hxx, hdx⟩ := (unhide HF)
          clear HF
          have HRx := hide ((hSx.rd.gr.block (w.heap.size + 1) (by have := unhide Hs2; omega) (by simp; omega)).trans (unhide HRs))
          have m0 := hSx.c0
          have m1 := hSx.c1
          have HSx := hide hSx
          have HXx := hide hxx
          have HLx := hide hlx
          have HDx := hide hdx
          clear hSx hxx hlx hdx
          go_wp2_with (first
            | (refine wpList_store_row rfl _ _ _ rfl (w.heap.size + 1) #[.slice Ax ux.length cx, .slice Dx ex.length dx] rfl rfl 25 _ (unhide HRx) linfo_lay rfl (by simp [Value.oneCell']) ?_))
          have hR := setRow_heap VF (w.heap.size + 1) _ #[.slice Ax ux.length cx, .slice Dx ex.length dx] _ _ (unhide HRx)
          have z0 : (VF.setRow (w.heap.size + 1) #[.slice Ax ux.length cx, .slice Dx ex.length dx]).cell? ⟨w.heap.size + 1, 0, none⟩ = some (.slice Ax ux.length cx) := by rw [Lib.cell_of_heap hR]; rfl
          have z1 : (VF.setRow (w.heap.size + 1) #[.slice Ax ux.length cx, .slice Dx ex.length dx]).cell? ⟨w.heap.size + 1, 1, none⟩ = some (.slice Dx ex.length dx) := by rw [Lib.cell_of_heap hR]; rfl
          exact bodyPost_ret (v := .agg #[.slice Ax ux.length cx, .slice Dx ex.length dx]) (by simp [results, go_sem, z0, z1]) rfl (bent_end (unhide HB2) hbl (unhide HRx) (unhide HSx) (unhide HLx) (unhide HXx) (unhide HDx))
        · -- way 2
          have hc := hSv.node (f := 2) hj (by omega) (show _ = some (.int .i64 (us.getD j nds0).x.len) from rfl)
          have hf := hSv.nfz (j := j * 5 + 2)
          obtain ⟨VF, hVF⟩ : ∃ VF : World, V.setCell ⟨g, j * 5 + 2, none⟩ (.int .i64 n) = VF := ⟨_, rfl⟩
          have HF := hide (show BnE B b x W2 q VF from by
            rw [← hVF]
            exact ⟨_, _, _, _, _, _, hSv.upd (f := 2) (v := .int .i64 n) ⟨{ (us.getD j nds0).x with len := n }, (us.getD j nds0).P, (us.getD j nds0).c⟩ hj (by omega) rfl (hSv.ex hj), by rw [List.length_set]; exact unhide HUl, exs_set (unhide HG) (Nat.le_succ _), Nat.le_succ _⟩)
          clear hSv
          try simp only [Nat.add_zero] at hc
          obtain ⟨Ax, cx, ux, Dx, dx, ex, hSx, hlx, hxx, hdx⟩ := (unhide HF)
          clear HF
          have HRx := hide ((hSx.rd.gr.block (w.heap.size + 1) (by have := unhide Hs2; omega) (by simp; omega)).trans (unhide HRs))
          have m0 := hSx.c0
          have m1 := hSx.c1
          have HSx := hide hSx
          have HXx := hide hxx
          have HLx := hide hlx
          have HDx := hide hdx
          clear hSx hxx hlx hdx
          go_wp2_with (first
            | (refine wpList_store_row rfl _ _ _ rfl (w.heap.size + 1) #[.slice Ax ux.length cx, .slice Dx ex.length dx] rfl rfl 25 _ (unhide HRx) linfo_lay rfl (by simp [Value.oneCell']) ?_))
          have hR := setRow_heap VF (w.heap.size + 1) _ #[.slice Ax ux.length cx, .slice Dx ex.length dx] _ _ (unhide HRx)
          have z0 : (VF.setRow (w.heap.size + 1) #[.slice Ax ux.length cx, .slice Dx ex.length dx]).cell? ⟨w.heap.size + 1, 0, none⟩ = some (.slice Ax ux.length cx) := by rw [Lib.cell_of_heap hR]; rfl
          have z1 : (VF.setRow (w.heap.size + 1) #[.slice Ax ux.length cx, .slice Dx ex.length dx]).cell? ⟨w.heap.size + 1, 1, none⟩ = some (.slice Dx ex.length dx) := by rw [Lib.cell_of_heap hR]; rfl
          exact bodyPost_ret (v := .agg #[.slice Ax ux.length cx, .slice Dx ex.length dx]) (by simp [results, go_sem, z0, z1]) rfl (bent_end (unhide HB2) hbl (unhide HRx) (unhide HSx) (unhide HLx) (unhide HXx) (unhide HDx))
        · -- way 3
          have hc := hSv.node (f := 3) hj (by omega) (show _ = some (.int .i64 (us.getD j nds0).x.zone) from rfl)
          have hf := hSv.nfz (j := j * 5 + 3)
          obtain ⟨VF, hVF⟩ : ∃ VF : World, V.setCell ⟨g, j * 5 + 3, none⟩ (.int .i64 n) = VF := ⟨_, rfl⟩
          have HF := hide (show BnE B b x W2 q VF from by
            rw [← hVF]
            exact ⟨_, _, _, _, _, _, hSv.upd (f := 3) (v := .int .i64 n) ⟨{ (us.getD j nds0).x with zone := n }, (us.getD j nds0).P, (us.getD j nds0).c⟩ hj (by omega) rfl (hSv.ex hj), by rw [List.length_set]; exact unhide HUl, exs_set (unhide HG) (Nat.le_succ _), Nat.le_succ _⟩)
          clear hSv
          try simp only [Nat.add_zero] at hc
          obtain ⟨Ax, cx, ux, Dx, dx, ex, hSx, hlx, hxx, hdx⟩ := (unhide HF)
          clear HF
          have HRx := hide ((hSx.rd.gr.block (w.heap.size + 1) (by have := unhide Hs2; omega) (by simp; omega)).trans (unhide HRs))
          have m0 := hSx.c0
          have m1 := hSx.c1
          have HSx := hide hSx
          have HXx := hide hxx
          have HLx := hide hlx
          have HDx := hide hdx
          clear hSx hxx hlx hdx
          go_wp2_with (first
            | (refine wpList_store_row rfl _ _ _ rfl (w.heap.size + 1) #[.slice Ax ux.length cx, .slice Dx ex.length dx] rfl rfl 25 _ (unhide HRx) linfo_lay rfl (by simp [Value.oneCell']) ?_))
          have hR := setRow_heap VF (w.heap.size + 1) _ #[.slice Ax ux.length cx, .slice Dx ex.length dx] _ _ (unhide HRx)
          have z0 : (VF.setRow (w.heap.size + 1) #[.slice Ax ux.length cx, .slice Dx ex.length dx]).cell? ⟨w.heap.size + 1, 0, none⟩ = some (.slice Ax ux.length cx) := by rw [Lib.cell_of_heap hR]; rfl
          have z1 : (VF.setRow (w.heap.size + 1) #[.slice Ax ux.length cx, .slice Dx ex.length dx]).cell? ⟨w.heap.size + 1, 1, none⟩ = some (.slice Dx ex.length dx) := by rw [Lib.cell_of_heap hR]; rfl
          exact bodyPost_ret (v := .agg #[.slice Ax ux.length cx, .slice Dx ex.length dx]) (by simp [results, go_sem, z0, z1]) rfl (bent_end (unhide HB2) hbl (unhide HRx) (unhide HSx) (unhide HLx) (unhide HXx) (unhide HDx))
        · -- way 4
          obtain ⟨u, hu⟩ : ∃ u : NdS, us.getD j nds0 = u := ⟨_, rfl⟩
          have hE := hSv.ex hj
          have hl := unhide HG j hj
          have hle := unhide HE j (by have := unhide HUl; omega)
          rw [hu] at hE hl
          have hel : u.x.exits.length ≤ 1000 := by omega
          have HU := hide hu
          have hc := hSv.node (f := 4) hj (by omega) (show _ = some (.slice u.P u.x.exits.length u.c) from by rw [hu]; rfl)
          clear hu hl hle

          have hqv : W2.heap.size ≤ V.heap.size := by have := hSv.lt; have := hSv.qlt; omega
          have bA := (Below.refl V.heap.size V).alloc (Nat.le_refl _) (.cells #[.int .i64 n] 3)
          have HSA := hide (hSv.below bA)
          have HEA := hide (hE.step (KpI.of (KeepTy.below bA)))
          have hm : (V.alloc (.cells #[.int .i64 n] 3)).cell? ⟨V.heap.size, 0, none⟩ = some (.int .i64 n) := by rw [Lib.cell_of_heap (heap_alloc_new V _)]; rfl
          have HM := hide hm
          clear hSv hE bA hm
          go_wp2_with (first
            | (at_builtin; refine wpList_app1 (H := W2.heap.size) (z := n) (m := V.heap.size) rfl _ _ rfl rfl rfl (unhide HEA) (unhide HM) ?f1 ?f2 ?_))
          case f1 => rw [World.size_alloc]; omega
          case f2 => omega
          intro P6 c6 w6 row hE6 hg6 hrow6 hk6
          have hS6 := (unhide HSA).ints hg6 (fun k e => by obtain ⟨⟨cs, h1⟩, h2⟩ := hrow6 k e; exact ⟨cs, h1, h2⟩) hk6
          have hc6 := hS6.node (f := 4) hj (by omega) (show _ = some (.slice u.P u.x.exits.length u.c) from by rw [unhide HU]; rfl)
          have hf6 := hS6.nfz (j := j * 5 + 4)
          obtain ⟨VF, hVF⟩ : ∃ VF : World, w6.setCell ⟨g, j * 5 + 4, none⟩ (.slice P6 (u.x.exits.length + 1) c6) = VF := ⟨_, rfl⟩
          have HF := hide (show BnE B b x W2 q VF from by
            rw [← hVF]
            have hle2 : (u.x.exits ++ [n]).length = u.x.exits.length + 1 := by rw [List.length_append]; rfl
            exact ⟨_, _, _, _, _, _, hS6.upd (f := 4) (v := .slice P6 (u.x.exits.length + 1) c6) ⟨{ u.x with exits := u.x.exits ++ [n] }, P6, c6⟩ hj (by omega) (by rw [unhide HU, ← hle2]; rfl) (by rw [show (⟨{ u.x with exits := u.x.exits ++ [n] }, P6, c6⟩ : NdS).x.exits.length = u.x.exits.length + 1 from hle2]; exact hE6), by rw [List.length_set]; exact unhide HUl, exs_set (unhide HG) (by rw [unhide HU]; exact Nat.le_of_eq hle2), Nat.le_succ _⟩)
          clear hS6 hE6 hg6 hrow6 hk6
          obtain ⟨Ax, cx, ux, Dx, dx, ex, hSx, hlx, hxx, hdx⟩ := (unhide HF)
          clear HF
          have HRx := hide ((hSx.rd.gr.block (w.heap.size + 1) (by have := unhide Hs2; omega) (by simp; omega)).trans (unhide HRs))
          have m0 := hSx.c0
          have m1 := hSx.c1
          have HSx := hide hSx
          have HXx := hide hxx
          have HLx := hide hlx
          have HDx := hide hdx
          clear hSx hxx hlx hdx
          go_wp2_with (first
            | (refine wpList_store_row rfl _ _ _ rfl (w.heap.size + 1) #[.slice Ax ux.length cx, .slice Dx ex.length dx] rfl rfl 25 _ (unhide HRx) linfo_lay rfl (by simp [Value.oneCell']) ?_))
          have hR := setRow_heap VF (w.heap.size + 1) _ #[.slice Ax ux.length cx, .slice Dx ex.length dx] _ _ (unhide HRx)
          have z0 : (VF.setRow (w.heap.size + 1) #[.slice Ax ux.length cx, .slice Dx ex.length dx]).cell? ⟨w.heap.size + 1, 0, none⟩ = some (.slice Ax ux.length cx) := by rw [Lib.cell_of_heap hR]; rfl
          have z1 : (VF.setRow (w.heap.size + 1) #[.slice Ax ux.length cx, .slice Dx ex.length dx]).cell? ⟨w.heap.size + 1, 1, none⟩ = some (.slice Dx ex.length dx) := by rw [Lib.cell_of_heap hR]; rfl
          exact bodyPost_ret (v := .agg #[.slice Ax ux.length cx, .slice Dx ex.length dx]) (by simp [results, go_sem, z0, z1]) rfl (bent_end (unhide HB2) hbl (unhide HRx) (unhide HSx) (unhide HLx) (unhide HXx) (unhide HDx))
        · -- way 5
          obtain ⟨u, hu⟩ : ∃ u : NdS, us.getD j nds0 = u := ⟨_, rfl⟩
          have hE := hSv.ex hj
          have hl := unhide HG j hj
          have hle := unhide HE j (by have := unhide HUl; omega)
          rw [hu] at hE hl
          have hel : u.x.exits.length ≤ 1000 := by omega
          have HU := hide hu
          have hc := hSv.node (f := 4) hj (by omega) (show _ = some (.slice u.P u.x.exits.length u.c) from by rw [hu]; rfl)
          clear hu hl hle

          by_cases h0e : u.x.exits.length = 0
          · have hgt : ¬ (0 : Int) < (u.x.exits.length : Int) := by omega
            clear h0e hE

            obtain ⟨VF, hVF⟩ : ∃ VF : World, V = VF := ⟨_, rfl⟩
            subst hVF
            have HF := hide (show BnE B b x W2 q V from ⟨_, _, _, _, _, _, hSv, unhide HUl, fun k hk => by rw [unhide HG k hk]; omega, Nat.le_succ _⟩)
            clear hSv
            obtain ⟨Ax, cx, ux, Dx, dx, ex, hSx, hlx, hxx, hdx⟩ := (unhide HF)
            clear HF
            have HRx := hide ((hSx.rd.gr.block (w.heap.size + 1) (by have := unhide Hs2; omega) (by simp; omega)).trans (unhide HRs))
            have m0 := hSx.c0
            have m1 := hSx.c1
            have HSx := hide hSx
            have HXx := hide hxx
            have HLx := hide hlx
            have HDx := hide hdx
            clear hSx hxx hlx hdx
            go_wp2_with (first
              | (refine wpList_store_row rfl _ _ _ rfl (w.heap.size + 1) #[.slice Ax ux.length cx, .slice Dx ex.length dx] rfl rfl 25 _ (unhide HRx) linfo_lay rfl (by simp [Value.oneCell']) ?_))
            have hR := setRow_heap V (w.heap.size + 1) _ #[.slice Ax ux.length cx, .slice Dx ex.length dx] _ _ (unhide HRx)
            have z0 : (V.setRow (w.heap.size + 1) #[.slice Ax ux.length cx, .slice Dx ex.length dx]).cell? ⟨w.heap.size + 1, 0, none⟩ = some (.slice Ax ux.length cx) := by rw [Lib.cell_of_heap hR]; rfl
            have z1 : (V.setRow (w.heap.size + 1) #[.slice Ax ux.length cx, .slice Dx ex.length dx]).cell? ⟨w.heap.size + 1, 1, none⟩ = some (.slice Dx ex.length dx) := by rw [Lib.cell_of_heap hR]; rfl
            exact bodyPost_ret (v := .agg #[.slice Ax ux.length cx, .slice Dx ex.length dx]) (by simp [results, go_sem, z0, z1]) rfl (bent_end (unhide HB2) hbl (unhide HRx) (unhide HSx) (unhide HLx) (unhide HXx) (unhide HDx))
          · have hgt : (0 : Int) < (u.x.exits.length : Int) := by omega
            have he1 : (1 : Int) ≤ (u.x.exits.length : Int) := by omega
            have he2 : (u.x.exits.length : Int) ≤ 1000000000 := by omega
            have hcp : 0 < u.c := by have := hE.1; omega
            obtain ⟨gp, cs0, hP, -, -, -, -⟩ := hE.2.2 hcp
            clear h0e hE

            have hS0 := hSv.below (Below.refl V.heap.size V).drew
            have hh : V.drew.cell? ⟨q, 0, none⟩ = some (.slice (some ⟨g, 0, none⟩) us.length c1) ∧ V.drew.cell? ⟨q, 1, none⟩ = some (.slice D1 x.devs.length d1) ∧ V.drew.cell? ⟨g, j * 5 + 4, none⟩ = some (.slice u.P u.x.exits.length u.c) := ⟨hS0.c0, hS0.c1, hS0.node hj (by omega) (by rw [unhide HU]; rfl)⟩
            have HS0 := hide hS0
            clear hS0 hSv
            go_wp2_with fail
            refine wp_region_anyZ 13 (fun Z => Z.cell? ⟨q, 0, none⟩ = some (.slice (some ⟨g, 0, none⟩) us.length c1) ∧ Z.cell? ⟨q, 1, none⟩ = some (.slice D1 x.devs.length d1) ∧ Z.cell? ⟨g, j * 5 + 4, none⟩ = some (.slice u.P u.x.exits.length u.c)) (by kernel_rfl) ?_
            refine anyZ_take (i := 0) (v := .pointer (some ⟨g, j * 5, none⟩)) rfl (by kernel_rfl) (by kernel_rfl) (by kernel_rfl) (by kernel_rfl) (fun _ _ _ h => h) (Or.inl ⟨by rfl, by intro w hs; go_simp⟩) hh ?_
            refine anyZ_take (i := 1) (v := .pointer (some ⟨g, j * 5, none⟩)) rfl (by kernel_rfl) (by kernel_rfl) (by kernel_rfl) (by kernel_rfl) (fun _ _ _ h => h) (Or.inl ⟨by rfl, by intro w hs; go_simp⟩) hh ?_
            refine anyZ_take (i := 2) (v := .pointer (some ⟨g, j * 5 + 4, none⟩)) rfl (by kernel_rfl) (by kernel_rfl) (by kernel_rfl) (by kernel_rfl) (fun _ _ _ h => h) (Or.inl ⟨by rfl, by intro w hs; go_simp⟩) hh ?_
            refine anyZ_take (i := 3) (v := .slice u.P u.x.exits.length u.c) rfl (by kernel_rfl) (by kernel_rfl) (by kernel_rfl) (by kernel_rfl) (fun _ _ _ h => h) (Or.inl ⟨by rfl, by intro w hs; have h9 := hs.2.2; go_simp⟩) hh ?_
            refine anyZ_take (i := 4) (v := .pointer (some ⟨b, 0, none⟩)) rfl (by kernel_rfl) (by kernel_rfl) (by kernel_rfl) (by kernel_rfl) (fun _ _ _ h => h) (Or.inl ⟨by rfl, by intro w hs; go_simp⟩) hh ?_
            refine anyZ_take (i := 5) (v := .pointer (some ⟨g, j * 5, none⟩)) rfl (by kernel_rfl) (by kernel_rfl) (by kernel_rfl) (by kernel_rfl) (fun _ _ _ h => h) (Or.inl ⟨by rfl, by intro w hs; go_simp⟩) hh ?_
            refine anyZ_take (i := 6) (v := .pointer (some ⟨g, j * 5, none⟩)) rfl (by kernel_rfl) (by kernel_rfl) (by kernel_rfl) (by kernel_rfl) (fun _ _ _ h => h) (Or.inl ⟨by rfl, by intro w hs; go_simp⟩) hh ?_
            refine anyZ_take (i := 7) (v := .pointer (some ⟨g, j * 5 + 4, none⟩)) rfl (by kernel_rfl) (by kernel_rfl) (by kernel_rfl) (by kernel_rfl) (fun _ _ _ h => h) (Or.inl ⟨by rfl, by intro w hs; go_simp⟩) hh ?_
            refine anyZ_take (i := 8) (v := .slice u.P u.x.exits.length u.c) rfl (by kernel_rfl) (by kernel_rfl) (by kernel_rfl) (by kernel_rfl) (fun _ _ _ h => h) (Or.inl ⟨by rfl, by intro w hs; have h9 := hs.2.2; go_simp⟩) hh ?_
            refine anyZ_take (i := 9) (v := .int .i64 (u.x.exits.length : Int)) rfl (by kernel_rfl) (by kernel_rfl) (by kernel_rfl) (by kernel_rfl) (fun _ _ _ h => h) (Or.inl ⟨by rfl, by intro w hs; go_simp⟩) hh ?_
            refine anyZ_take (i := 11) (v := .int .i64 n) rfl (by kernel_rfl) (by kernel_rfl) (by kernel_rfl) (by kernel_rfl) (fun _ _ _ h => h) (Or.inl ⟨by rfl, by intro w hs; go_simp⟩) hh ?_

            refine anyZ_one (i := 10) (by kernel_rfl) rfl (fun K hK => ?_)
            go_simp
            go_at_call 24
            refine (n_any B b (u.x.exits.length : Int) _ (unhide HS0).rd.src he1 he2).mono ?_
            rintro e w5 ⟨y_w5, rfl, hy1_w5, hy2_w5, hsr, hgr⟩
            try go_simp
            have hS_w5 := (unhide HS0).read hsr hgr
            have hh_w5 : w5.cell? ⟨q, 0, none⟩ = some (.slice (some ⟨g, 0, none⟩) us.length c1) ∧ w5.cell? ⟨q, 1, none⟩ = some (.slice D1 x.devs.length d1) ∧ w5.cell? ⟨g, j * 5 + 4, none⟩ = some (.slice u.P u.x.exits.length u.c) := ⟨hS_w5.c0, hS_w5.c1, hS_w5.node hj (by omega) (by rw [unhide HU]; rfl)⟩
            clear hsr hgr
            obtain ⟨i, rfl⟩ := Int.eq_ofNat_of_zero_le hy1_w5
            have hi1 : (i : Int) < (u.x.exits.length : Int) := by omega
            have hi0 : (0 : Int) ≤ (i : Int) := by omega
            have HS_w5 := hide hS_w5
            clear hS_w5 hy1_w5 hy2_w5
            refine hK _ _ ⟨fun _ => hh_w5, ?_⟩
            clear hK K

            have hE5 := (unhide HS_w5).ex hj
            rw [unhide HU] at hE5
            obtain ⟨gp5, cs5, e5, hH5, hgg5, hs5, hv5⟩ := hE5.2.2 hcp
            rw [hP] at e5
            injection e5 with e5; injection e5 with e5
            subst e5
            obtain ⟨v5, hv5⟩ := hv5 i (by omega)
            have hci : w5.cell? ⟨gp, i, none⟩ = some (.int .i64 v5) := by rw [Lib.cell_of_heap hgg5]; exact hv5
            have hfi := Lib.frozen_of_heap hgg5 i
            have HG5 := hide hgg5
            clear hE5 hgg5 hs5 hv5
            have hP' : (Value.slice u.P u.x.exits.length u.c) = .slice (some ⟨gp, 0, none⟩) u.x.exits.length u.c := by rw [hP]
            refine anyZ_take (i := 12) (v := .pointer (some ⟨gp, i, none⟩)) rfl (by kernel_rfl) (by kernel_rfl) (by kernel_rfl) (by kernel_rfl) (fun _ _ _ h => h) (Or.inl ⟨by rfl, by intro w hs; go_simp⟩) hh_w5 ?_

            refine anyZ_one (i := 13) (by kernel_rfl) rfl (fun K hK => ?_)
            go_simp
            refine hK _ _ ⟨fun h => absurd rfl h, ?_⟩
            clear hK K
            refine anyZ_done (by kernel_rfl) ?_ _
            go_simp

            obtain ⟨VF, hVF⟩ : ∃ VF : World, w5.setCell ⟨gp, i, none⟩ (.int .i64 n) = VF := ⟨_, rfl⟩
            have HF := hide (show BnE B b x W2 q VF from by
              rw [← hVF]
              exact ⟨_, _, _, _, _, _, (unhide HS_w5).ints (grown_set w5 gp i _) (fun k e => by cases e; exact ⟨cs5, unhide HG5, hH5⟩) (KpI.set (unhide HG5) n), unhide HUl, fun k hk => by rw [unhide HG k hk]; omega, Nat.le_succ _⟩)
            try simp only [hVF]
            clear hci hfi hh hh_w5 hc
            obtain ⟨Ax, cx, ux, Dx, dx, ex, hSx, hlx, hxx, hdx⟩ := (unhide HF)
            clear HF
            have HRx := hide ((hSx.rd.gr.block (w.heap.size + 1) (by have := unhide Hs2; omega) (by simp; omega)).trans (unhide HRs))
            have m0 := hSx.c0
            have m1 := hSx.c1
            have HSx := hide hSx
            have HXx := hide hxx
            have HLx := hide hlx
            have HDx := hide hdx
            clear hSx hxx hlx hdx
            go_wp2_with (first
              | (refine wpList_store_row rfl _ _ _ rfl (w.heap.size + 1) #[.slice Ax ux.length cx, .slice Dx ex.length dx] rfl rfl 25 _ (unhide HRx) linfo_lay rfl (by simp [Value.oneCell']) ?_))
            have hR := setRow_heap VF (w.heap.size + 1) _ #[.slice Ax ux.length cx, .slice Dx ex.length dx] _ _ (unhide HRx)
            have z0 : (VF.setRow (w.heap.size + 1) #[.slice Ax ux.length cx, .slice Dx ex.length dx]).cell? ⟨w.heap.size + 1, 0, none⟩ = some (.slice Ax ux.length cx) := by rw [Lib.cell_of_heap hR]; rfl
            have z1 : (VF.setRow (w.heap.size + 1) #[.slice Ax ux.length cx, .slice Dx ex.length dx]).cell? ⟨w.heap.size + 1, 1, none⟩ = some (.slice Dx ex.length dx) := by rw [Lib.cell_of_heap hR]; rfl
            exact bodyPost_ret (v := .agg #[.slice Ax ux.length cx, .slice Dx ex.length dx]) (by simp [results, go_sem, z0, z1]) rfl (bent_end (unhide HB2) hbl (unhide HRx) (unhide HSx) (unhide HLx) (unhide HXx) (unhide HDx))
        · -- way 6
          obtain ⟨u, hu⟩ : ∃ u : NdS, us.getD j nds0 = u := ⟨_, rfl⟩
          have hE := hSv.ex hj
          have hl := unhide HG j hj
          have hle := unhide HE j (by have := unhide HUl; omega)
          rw [hu] at hE hl
          have hel : u.x.exits.length ≤ 1000 := by omega
          have HU := hide hu
          have hc := hSv.node (f := 4) hj (by omega) (show _ = some (.slice u.P u.x.exits.length u.c) from by rw [hu]; rfl)
          clear hu hl hle

          by_cases h0e : u.x.exits.length = 0
          · have hgt : ¬ (0 : Int) < (u.x.exits.length : Int) := by omega
            clear h0e hE

            obtain ⟨VF, hVF⟩ : ∃ VF : World, V = VF := ⟨_, rfl⟩
            subst hVF
            have HF := hide (show BnE B b x W2 q V from ⟨_, _, _, _, _, _, hSv, unhide HUl, fun k hk => by rw [unhide HG k hk]; omega, Nat.le_succ _⟩)
            clear hSv
            obtain ⟨Ax, cx, ux, Dx, dx, ex, hSx, hlx, hxx, hdx⟩ := (unhide HF)
            clear HF
            have HRx := hide ((hSx.rd.gr.block (w.heap.size + 1) (by have := unhide Hs2; omega) (by simp; omega)).trans (unhide HRs))
            have m0 := hSx.c0
            have m1 := hSx.c1
            have HSx := hide hSx
            have HXx := hide hxx
            have HLx := hide hlx
            have HDx := hide hdx
            clear hSx hxx hlx hdx
            go_wp2_with (first
              | (refine wpList_store_row rfl _ _ _ rfl (w.heap.size + 1) #[.slice Ax ux.length cx, .slice Dx ex.length dx] rfl rfl 25 _ (unhide HRx) linfo_lay rfl (by simp [Value.oneCell']) ?_))
            have hR := setRow_heap V (w.heap.size + 1) _ #[.slice Ax ux.length cx, .slice Dx ex.length dx] _ _ (unhide HRx)
            have z0 : (V.setRow (w.heap.size + 1) #[.slice Ax ux.length cx, .slice Dx ex.length dx]).cell? ⟨w.heap.size + 1, 0, none⟩ = some (.slice Ax ux.length cx) := by rw [Lib.cell_of_heap hR]; rfl
            have z1 : (V.setRow (w.heap.size + 1) #[.slice Ax ux.length cx, .slice Dx ex.length dx]).cell? ⟨w.heap.size + 1, 1, none⟩ = some (.slice Dx ex.length dx) := by rw [Lib.cell_of_heap hR]; rfl
            exact bodyPost_ret (v := .agg #[.slice Ax ux.length cx, .slice Dx ex.length dx]) (by simp [results, go_sem, z0, z1]) rfl (bent_end (unhide HB2) hbl (unhide HRx) (unhide HSx) (unhide HLx) (unhide HXx) (unhide HDx))
          · have hgt : (0 : Int) < (u.x.exits.length : Int) := by omega
            have he1 : (1 : Int) ≤ (u.x.exits.length : Int) := by omega
            have he2 : (u.x.exits.length : Int) ≤ 1000000000 := by omega
            have hcp : 0 < u.c := by have := hE.1; omega
            obtain ⟨gp, cs0, hP, -, -, -, -⟩ := hE.2.2 hcp
            clear h0e hE

            have hS0 := hSv.below (Below.refl V.heap.size V).drew
            have hh : V.drew.cell? ⟨q, 0, none⟩ = some (.slice (some ⟨g, 0, none⟩) us.length c1) ∧ V.drew.cell? ⟨q, 1, none⟩ = some (.slice D1 x.devs.length d1) ∧ V.drew.cell? ⟨g, j * 5 + 4, none⟩ = some (.slice u.P u.x.exits.length u.c) := ⟨hS0.c0, hS0.c1, hS0.node hj (by omega) (by rw [unhide HU]; rfl)⟩
            have HS0 := hide hS0
            clear hS0 hSv
            go_wp2_with fail
            refine wp_region_anyZ 17 (fun Z => Z.cell? ⟨q, 0, none⟩ = some (.slice (some ⟨g, 0, none⟩) us.length c1) ∧ Z.cell? ⟨q, 1, none⟩ = some (.slice D1 x.devs.length d1) ∧ Z.cell? ⟨g, j * 5 + 4, none⟩ = some (.slice u.P u.x.exits.length u.c)) (by kernel_rfl) ?_
            refine anyZ_take (i := 0) (v := .pointer (some ⟨g, j * 5, none⟩)) rfl (by kernel_rfl) (by kernel_rfl) (by kernel_rfl) (by kernel_rfl) (fun _ _ _ h => h) (Or.inl ⟨by rfl, by intro w hs; go_simp⟩) hh ?_
            refine anyZ_take (i := 1) (v := .pointer (some ⟨g, j * 5, none⟩)) rfl (by kernel_rfl) (by kernel_rfl) (by kernel_rfl) (by kernel_rfl) (fun _ _ _ h => h) (Or.inl ⟨by rfl, by intro w hs; go_simp⟩) hh ?_
            refine anyZ_take (i := 2) (v := .pointer (some ⟨g, j * 5 + 4, none⟩)) rfl (by kernel_rfl) (by kernel_rfl) (by kernel_rfl) (by kernel_rfl) (fun _ _ _ h => h) (Or.inl ⟨by rfl, by intro w hs; go_simp⟩) hh ?_
            refine anyZ_take (i := 3) (v := .slice u.P u.x.exits.length u.c) rfl (by kernel_rfl) (by kernel_rfl) (by kernel_rfl) (by kernel_rfl) (fun _ _ _ h => h) (Or.inl ⟨by rfl, by intro w hs; have h9 := hs.2.2; go_simp⟩) hh ?_
            refine anyZ_take (i := 4) (v := .pointer (some ⟨b, 0, none⟩)) rfl (by kernel_rfl) (by kernel_rfl) (by kernel_rfl) (by kernel_rfl) (fun _ _ _ h => h) (Or.inl ⟨by rfl, by intro w hs; go_simp⟩) hh ?_
            refine anyZ_take (i := 5) (v := .pointer (some ⟨g, j * 5, none⟩)) rfl (by kernel_rfl) (by kernel_rfl) (by kernel_rfl) (by kernel_rfl) (fun _ _ _ h => h) (Or.inl ⟨by rfl, by intro w hs; go_simp⟩) hh ?_
            refine anyZ_take (i := 6) (v := .pointer (some ⟨g, j * 5, none⟩)) rfl (by kernel_rfl) (by kernel_rfl) (by kernel_rfl) (by kernel_rfl) (fun _ _ _ h => h) (Or.inl ⟨by rfl, by intro w hs; go_simp⟩) hh ?_
            refine anyZ_take (i := 7) (v := .pointer (some ⟨g, j * 5 + 4, none⟩)) rfl (by kernel_rfl) (by kernel_rfl) (by kernel_rfl) (by kernel_rfl) (fun _ _ _ h => h) (Or.inl ⟨by rfl, by intro w hs; go_simp⟩) hh ?_
            refine anyZ_take (i := 8) (v := .slice u.P u.x.exits.length u.c) rfl (by kernel_rfl) (by kernel_rfl) (by kernel_rfl) (by kernel_rfl) (fun _ _ _ h => h) (Or.inl ⟨by rfl, by intro w hs; have h9 := hs.2.2; go_simp⟩) hh ?_
            refine anyZ_take (i := 9) (v := .int .i64 (u.x.exits.length : Int)) rfl (by kernel_rfl) (by kernel_rfl) (by kernel_rfl) (by kernel_rfl) (fun _ _ _ h => h) (Or.inl ⟨by rfl, by intro w hs; go_simp⟩) hh ?_
            refine anyZ_take (i := 11) (v := .pointer (some ⟨b, 0, none⟩)) rfl (by kernel_rfl) (by kernel_rfl) (by kernel_rfl) (by kernel_rfl) (fun _ _ _ h => h) (Or.inl ⟨by rfl, by intro w hs; go_simp⟩) hh ?_
            refine anyZ_take (i := 12) (v := .pointer (some ⟨q, 0, none⟩)) rfl (by kernel_rfl) (by kernel_rfl) (by kernel_rfl) (by kernel_rfl) (fun _ _ _ h => h) (Or.inl ⟨by rfl, by intro w hs; go_simp⟩) hh ?_
            refine anyZ_take (i := 13) (v := .slice (some ⟨g, 0, none⟩) us.length c1) rfl (by kernel_rfl) (by kernel_rfl) (by kernel_rfl) (by kernel_rfl) (fun _ _ _ h => h) (Or.inl ⟨by rfl, by intro w hs; have h9 := hs.1; go_simp⟩) hh ?_
            refine anyZ_take (i := 14) (v := .int .i64 (us.length : Int)) rfl (by kernel_rfl) (by kernel_rfl) (by kernel_rfl) (by kernel_rfl) (fun _ _ _ h => h) (Or.inl ⟨by rfl, by intro w hs; go_simp⟩) hh ?_

            refine anyZ_one (i := 10) (by kernel_rfl) rfl (fun K hK => ?_)
            go_simp
            go_at_call 24
            refine (n_any B b (u.x.exits.length : Int) _ (unhide HS0).rd.src he1 he2).mono ?_
            rintro e w4 ⟨y_w4, rfl, hy1_w4, hy2_w4, hsr, hgr⟩
            try go_simp
            have hS_w4 := (unhide HS0).read hsr hgr
            have hh_w4 : w4.cell? ⟨q, 0, none⟩ = some (.slice (some ⟨g, 0, none⟩) us.length c1) ∧ w4.cell? ⟨q, 1, none⟩ = some (.slice D1 x.devs.length d1) ∧ w4.cell? ⟨g, j * 5 + 4, none⟩ = some (.slice u.P u.x.exits.length u.c) := ⟨hS_w4.c0, hS_w4.c1, hS_w4.node hj (by omega) (by rw [unhide HU]; rfl)⟩
            clear hsr hgr
            obtain ⟨i, rfl⟩ := Int.eq_ofNat_of_zero_le hy1_w4
            have hi1 : (i : Int) < (u.x.exits.length : Int) := by omega
            have hi0 : (0 : Int) ≤ (i : Int) := by omega
            have HS_w4 := hide hS_w4
            clear hS_w4 hy1_w4 hy2_w4
            refine hK _ _ ⟨fun _ => hh_w4, ?_⟩
            clear hK K

            refine anyZ_one (i := 15) (by kernel_rfl) rfl (fun K hK => ?_)
            go_simp
            go_at_call 24
            refine (n_any B b (us.length : Int) _ (unhide HS_w4).rd.src hL1 hL2).mono ?_
            rintro e w5 ⟨y_w5, rfl, hy1_w5, hy2_w5, hsr, hgr⟩
            try go_simp
            have hS_w5 := (unhide HS_w4).read hsr hgr
            have hh_w5 : w5.cell? ⟨q, 0, none⟩ = some (.slice (some ⟨g, 0, none⟩) us.length c1) ∧ w5.cell? ⟨q, 1, none⟩ = some (.slice D1 x.devs.length d1) ∧ w5.cell? ⟨g, j * 5 + 4, none⟩ = some (.slice u.P u.x.exits.length u.c) := ⟨hS_w5.c0, hS_w5.c1, hS_w5.node hj (by omega) (by rw [unhide HU]; rfl)⟩
            clear hsr hgr
            have HS_w5 := hide hS_w5
            clear hS_w5 hy1_w5 hy2_w5
            refine hK _ _ ⟨fun _ => hh_w5, ?_⟩
            clear hK K

            have hE5 := (unhide HS_w5).ex hj
            rw [unhide HU] at hE5
            obtain ⟨gp5, cs5, e5, hH5, hgg5, hs5, hv5⟩ := hE5.2.2 hcp
            rw [hP] at e5
            injection e5 with e5; injection e5 with e5
            subst e5
            obtain ⟨v5, hv5⟩ := hv5 i (by omega)
            have hci : w5.cell? ⟨gp, i, none⟩ = some (.int .i64 v5) := by rw [Lib.cell_of_heap hgg5]; exact hv5
            have hfi := Lib.frozen_of_heap hgg5 i
            have HG5 := hide hgg5
            clear hE5 hgg5 hs5 hv5
            have hP' : (Value.slice u.P u.x.exits.length u.c) = .slice (some ⟨gp, 0, none⟩) u.x.exits.length u.c := by rw [hP]
            refine anyZ_take (i := 16) (v := .pointer (some ⟨gp, i, none⟩)) rfl (by kernel_rfl) (by kernel_rfl) (by kernel_rfl) (by kernel_rfl) (fun _ _ _ h => h) (Or.inl ⟨by rfl, by intro w hs; go_simp⟩) hh_w5 ?_

            refine anyZ_one (i := 17) (by kernel_rfl) rfl (fun K hK => ?_)
            go_simp
            refine hK _ _ ⟨fun h => absurd rfl h, ?_⟩
            clear hK K
            refine anyZ_done (by kernel_rfl) ?_ _
            go_simp

            obtain ⟨VF, hVF⟩ : ∃ VF : World, w5.setCell ⟨gp, i, none⟩ (.int .i64 y_w5) = VF := ⟨_, rfl⟩
            have HF := hide (show BnE B b x W2 q VF from by
              rw [← hVF]
              exact ⟨_, _, _, _, _, _, (unhide HS_w5).ints (grown_set w5 gp i _) (fun k e => by cases e; exact ⟨cs5, unhide HG5, hH5⟩) (KpI.set (unhide HG5) y_w5), unhide HUl, fun k hk => by rw [unhide HG k hk]; omega, Nat.le_succ _⟩)
            try simp only [hVF]
            clear hci hfi hh hh_w5 hc
            obtain ⟨Ax, cx, ux, Dx, dx, ex, hSx, hlx, hxx, hdx⟩ := (unhide HF)
            clear HF
            have HRx := hide ((hSx.rd.gr.block (w.heap.size + 1) (by have := unhide Hs2; omega) (by simp; omega)).trans (unhide HRs))
            have m0 := hSx.c0
            have m1 := hSx.c1
            have HSx := hide hSx
            have HXx := hide hxx
            have HLx := hide hlx
            have HDx := hide hdx
            clear hSx hxx hlx hdx
            go_wp2_with (first
              | (refine wpList_store_row rfl _ _ _ rfl (w.heap.size + 1) #[.slice Ax ux.length cx, .slice Dx ex.length dx] rfl rfl 25 _ (unhide HRx) linfo_lay rfl (by simp [Value.oneCell']) ?_))
            have hR := setRow_heap VF (w.heap.size + 1) _ #[.slice Ax ux.length cx, .slice Dx ex.length dx] _ _ (unhide HRx)
            have z0 : (VF.setRow (w.heap.size + 1) #[.slice Ax ux.length cx, .slice Dx ex.length dx]).cell? ⟨w.heap.size + 1, 0, none⟩ = some (.slice Ax ux.length cx) := by rw [Lib.cell_of_heap hR]; rfl
            have z1 : (VF.setRow (w.heap.size + 1) #[.slice Ax ux.length cx, .slice Dx ex.length dx]).cell? ⟨w.heap.size + 1, 1, none⟩ = some (.slice Dx ex.length dx) := by rw [Lib.cell_of_heap hR]; rfl
            exact bodyPost_ret (v := .agg #[.slice Ax ux.length cx, .slice Dx ex.length dx]) (by simp [results, go_sem, z0, z1]) rfl (bent_end (unhide HB2) hbl (unhide HRx) (unhide HSx) (unhide HLx) (unhide HXx) (unhide HDx))
        · -- way 7
          go_wp2_with fail
          refine (range_any B b 1 9 _ hSv.rd.src (by omega) (by omega) (by omega)).mono ?_
          rintro e w7 ⟨y, rfl, hy1, hy2, hsr, hgr⟩
          have hS7 := hSv.read hsr hgr
          have hc := hS7.node (f := 1) hj (by omega) (show _ = some (.int .i64 (us.getD j nds0).x.kind) from rfl)
          have hf := hS7.nfz (j := j * 5 + 1)
          obtain ⟨VF, hVF⟩ : ∃ VF : World, w7.setCell ⟨g, j * 5 + 1, none⟩ (.int .i64 y) = VF := ⟨_, rfl⟩
          have HF := hide (show BnE B b x W2 q VF from by
            rw [← hVF]
            exact ⟨_, _, _, _, _, _, hS7.upd (f := 1) (v := .int .i64 y) ⟨{ (us.getD j nds0).x with kind := y }, (us.getD j nds0).P, (us.getD j nds0).c⟩ hj (by omega) rfl (hS7.ex hj), by rw [List.length_set]; exact unhide HUl, exs_set (unhide HG) (Nat.le_succ _), Nat.le_succ _⟩)
          clear hSv hS7 hsr hgr
          obtain ⟨Ax, cx, ux, Dx, dx, ex, hSx, hlx, hxx, hdx⟩ := (unhide HF)
          clear HF
          have HRx := hide ((hSx.rd.gr.block (w.heap.size + 1) (by have := unhide Hs2; omega) (by simp; omega)).trans (unhide HRs))
          have m0 := hSx.c0
          have m1 := hSx.c1
          have HSx := hide hSx
          have HXx := hide hxx
          have HLx := hide hlx
          have HDx := hide hdx
          clear hSx hxx hlx hdx
          go_wp2_with (first
            | (refine wpList_store_row rfl _ _ _ rfl (w.heap.size + 1) #[.slice Ax ux.length cx, .slice Dx ex.length dx] rfl rfl 25 _ (unhide HRx) linfo_lay rfl (by simp [Value.oneCell']) ?_))
          have hR := setRow_heap VF (w.heap.size + 1) _ #[.slice Ax ux.length cx, .slice Dx ex.length dx] _ _ (unhide HRx)
          have z0 : (VF.setRow (w.heap.size + 1) #[.slice Ax ux.length cx, .slice Dx ex.length dx]).cell? ⟨w.heap.size + 1, 0, none⟩ = some (.slice Ax ux.length cx) := by rw [Lib.cell_of_heap hR]; rfl
          have z1 : (VF.setRow (w.heap.size + 1) #[.slice Ax ux.length cx, .slice Dx ex.length dx]).cell? ⟨w.heap.size + 1, 1, none⟩ = some (.slice Dx ex.length dx) := by rw [Lib.cell_of_heap hR]; rfl
          exact bodyPost_ret (v := .agg #[.slice Ax ux.length cx, .slice Dx ex.length dx]) (by simp [results, go_sem, z0, z1]) rfl (bent_end (unhide HB2) hbl (unhide HRx) (unhide HSx) (unhide HLx) (unhide HXx) (unhide HDx))
        · -- way 8
          obtain ⟨zo, hzo⟩ : ∃ zo : Int, (us.getD j nds0).x.zone = zo := ⟨_, rfl⟩
          have hc := hSv.node (f := 3) hj (by omega) (show _ = some (.int .i64 zo) from by rw [← hzo]; rfl)
          have hf := hSv.nfz (j := j * 5 + 3)
          obtain ⟨VF, hVF⟩ : ∃ VF : World, V.setCell ⟨g, j * 5 + 3, none⟩ (.int .i64 (wrap64 (1 - zo))) = VF := ⟨_, rfl⟩
          have HF := hide (show BnE B b x W2 q VF from by
            rw [← hVF]
            exact ⟨_, _, _, _, _, _, hSv.upd (f := 3) (v := .int .i64 (wrap64 (1 - zo))) ⟨{ (us.getD j nds0).x with zone := wrap64 (1 - zo) }, (us.getD j nds0).P, (us.getD j nds0).c⟩ hj (by omega) rfl (hSv.ex hj), by rw [List.length_set]; exact unhide HUl, exs_set (unhide HG) (Nat.le_succ _), Nat.le_succ _⟩)
          clear hSv hzo
          obtain ⟨Ax, cx, ux, Dx, dx, ex, hSx, hlx, hxx, hdx⟩ := (unhide HF)
          clear HF
          have HRx := hide ((hSx.rd.gr.block (w.heap.size + 1) (by have := unhide Hs2; omega) (by simp; omega)).trans (unhide HRs))
          have m0 := hSx.c0
          have m1 := hSx.c1
          have HSx := hide hSx
          have HXx := hide hxx
          have HLx := hide hlx
          have HDx := hide hdx
          clear hSx hxx hlx hdx
          go_wp2_with (first
            | (refine wpList_store_row rfl _ _ _ rfl (w.heap.size + 1) #[.slice Ax ux.length cx, .slice Dx ex.length dx] rfl rfl 25 _ (unhide HRx) linfo_lay rfl (by simp [Value.oneCell']) ?_))
          have hR := setRow_heap VF (w.heap.size + 1) _ #[.slice Ax ux.length cx, .slice Dx ex.length dx] _ _ (unhide HRx)
          have z0 : (VF.setRow (w.heap.size + 1) #[.slice Ax ux.length cx, .slice Dx ex.length dx]).cell? ⟨w.heap.size + 1, 0, none⟩ = some (.slice Ax ux.length cx) := by rw [Lib.cell_of_heap hR]; rfl
          have z1 : (VF.setRow (w.heap.size + 1) #[.slice Ax ux.length cx, .slice Dx ex.length dx]).cell? ⟨w.heap.size + 1, 1, none⟩ = some (.slice Dx ex.length dx) := by rw [Lib.cell_of_heap hR]; rfl
          exact bodyPost_ret (v := .agg #[.slice Ax ux.length cx, .slice Dx ex.length dx]) (by simp [results, go_sem, z0, z1]) rfl (bent_end (unhide HB2) hbl (unhide HRx) (unhide HSx) (unhide HLx) (unhide HXx) (unhide HDx))
        · -- way 9
          have hS0 := hSv.below (Below.refl V.heap.size V).drew
          have hh : V.drew.cell? ⟨q, 0, none⟩ = some (.slice (some ⟨g, 0, none⟩) us.length c1) ∧ V.drew.cell? ⟨q, 1, none⟩ = some (.slice D1 x.devs.length d1) := ⟨hS0.c0, hS0.c1⟩
          have HS0 := hide hS0
          clear hS0 hSv
          go_wp2_with fail
          refine wp_region_anyZ 15 (fun Z => Z.cell? ⟨q, 0, none⟩ = some (.slice (some ⟨g, 0, none⟩) us.length c1) ∧ Z.cell? ⟨q, 1, none⟩ = some (.slice D1 x.devs.length d1)) (by kernel_rfl) ?_
          refine anyZ_take (i := 0) (v := .pointer (some ⟨q, 1, none⟩)) rfl (by kernel_rfl) (by kernel_rfl) (by kernel_rfl) (by kernel_rfl) (fun _ _ _ h => h) (Or.inl ⟨by rfl, by intro w hs; go_simp⟩) hh ?_
          refine anyZ_take (i := 1) (v := .slice D1 x.devs.length d1) rfl (by kernel_rfl) (by kernel_rfl) (by kernel_rfl) (by kernel_rfl) (fun _ _ _ h => h) (Or.inl ⟨by rfl, by intro w hs; have h9 := hs.2; go_simp⟩) hh ?_
          refine anyZ_take (i := 2) (v := .pointer (some ⟨b, 0, none⟩)) rfl (by kernel_rfl) (by kernel_rfl) (by kernel_rfl) (by kernel_rfl) (fun _ _ _ h => h) (Or.inl ⟨by rfl, by intro w hs; go_simp⟩) hh ?_
          refine anyZ_take (i := 4) (v := .pointer (some ⟨b, 0, none⟩)) rfl (by kernel_rfl) (by kernel_rfl) (by kernel_rfl) (by kernel_rfl) (fun _ _ _ h => h) (Or.inl ⟨by rfl, by intro w hs; go_simp⟩) hh ?_
          refine anyZ_take (i := 5) (v := .pointer (some ⟨q, 0, none⟩)) rfl (by kernel_rfl) (by kernel_rfl) (by kernel_rfl) (by kernel_rfl) (fun _ _ _ h => h) (Or.inl ⟨by rfl, by intro w hs; go_simp⟩) hh ?_
          refine anyZ_take (i := 6) (v := .slice (some ⟨g, 0, none⟩) us.length c1) rfl (by kernel_rfl) (by kernel_rfl) (by kernel_rfl) (by kernel_rfl) (fun _ _ _ h => h) (Or.inl ⟨by rfl, by intro w hs; have h9 := hs.1; go_simp⟩) hh ?_
          refine anyZ_take (i := 7) (v := .int .i64 (us.length : Int)) rfl (by kernel_rfl) (by kernel_rfl) (by kernel_rfl) (by kernel_rfl) (fun _ _ _ h => h) (Or.inl ⟨by rfl, by intro w hs; go_simp⟩) hh ?_
          refine anyZ_take (i := 9) (v := .pointer (some ⟨b, 0, none⟩)) rfl (by kernel_rfl) (by kernel_rfl) (by kernel_rfl) (by kernel_rfl) (fun _ _ _ h => h) (Or.inl ⟨by rfl, by intro w hs; go_simp⟩) hh ?_

          refine anyZ_one (i := 3) (by kernel_rfl) rfl (fun K hK => ?_)
          go_simp
          go_at_call 22
          refine (range_any B b 0 3 _ (unhide HS0).rd.src (by omega) (by omega) (by omega)).mono ?_
          rintro e w4 ⟨y_w4, rfl, hy1_w4, hy2_w4, hsr, hgr⟩
          try go_simp
          have hS_w4 := (unhide HS0).read hsr hgr
          have hh_w4 : w4.cell? ⟨q, 0, none⟩ = some (.slice (some ⟨g, 0, none⟩) us.length c1) ∧ w4.cell? ⟨q, 1, none⟩ = some (.slice D1 x.devs.length d1) := ⟨hS_w4.c0, hS_w4.c1⟩
          clear hsr hgr
          have HS_w4 := hide hS_w4
          clear hS_w4 hy1_w4 hy2_w4
          refine hK _ _ ⟨fun _ => hh_w4, ?_⟩
          clear hK K

          refine anyZ_one (i := 8) (by kernel_rfl) rfl (fun K hK => ?_)
          go_simp
          go_at_call 22
          refine (rangem_any B b (-1) (us.length : Int) _ (unhide HS_w4).rd.src (by omega) (by omega) (by omega)).mono ?_
          rintro e w5 ⟨y_w5, rfl, hy1_w5, hy2_w5, hsr, hgr⟩
          try go_simp
          have hS_w5 := (unhide HS_w4).read hsr hgr
          have hh_w5 : w5.cell? ⟨q, 0, none⟩ = some (.slice (some ⟨g, 0, none⟩) us.length c1) ∧ w5.cell? ⟨q, 1, none⟩ = some (.slice D1 x.devs.length d1) := ⟨hS_w5.c0, hS_w5.c1⟩
          clear hsr hgr
          have HS_w5 := hide hS_w5
          clear hS_w5 hy1_w5 hy2_w5
          refine hK _ _ ⟨fun _ => hh_w5, ?_⟩
          clear hK K

          refine anyZ_one (i := 10) (by kernel_rfl) rfl (fun K hK => ?_)
          go_simp
          go_at_call 22
          refine (rangem_any B b (-1) 3 _ (unhide HS_w5).rd.src (by omega) (by omega) (by omega)).mono ?_
          rintro e w6 ⟨y_w6, rfl, hy1_w6, hy2_w6, hsr, hgr⟩
          try go_simp
          have hS_w6 := (unhide HS_w5).read hsr hgr
          have hh_w6 : w6.cell? ⟨q, 0, none⟩ = some (.slice (some ⟨g, 0, none⟩) us.length c1) ∧ w6.cell? ⟨q, 1, none⟩ = some (.slice D1 x.devs.length d1) := ⟨hS_w6.c0, hS_w6.c1⟩
          clear hsr hgr
          have HS_w6 := hide hS_w6
          clear hS_w6 hy1_w6 hy2_w6
          refine hK _ _ ⟨fun _ => hh_w6, ?_⟩
          clear hK K
          refine anyZ_take (i := 11) (v := .agg #[.int .i64 y_w4, .int .i64 y_w5, .int .i64 y_w6]) rfl (by kernel_rfl) (by kernel_rfl) (by kernel_rfl) (by kernel_rfl) (fun _ _ _ h => h) (Or.inl ⟨by rfl, by intro w hs; go_simp⟩) hh_w6 ?_

          refine anyZ_one (i := 12) (by kernel_rfl) rfl (fun K hK => ?_)
          go_simp
          have bB := (Below.refl w6.heap.size w6).alloc (Nat.le_refl _) (.cells #[.int .i64 y_w4, .int .i64 y_w5, .int .i64 y_w6] 57)
          have hS8 := (unhide HS_w6).below bB
          have hh8 : (w6.alloc (.cells #[.int .i64 y_w4, .int .i64 y_w5, .int .i64 y_w6] 57)).cell? ⟨q, 0, none⟩ = some (.slice (some ⟨g, 0, none⟩) us.length c1) ∧ (w6.alloc (.cells #[.int .i64 y_w4, .int .i64 y_w5, .int .i64 y_w6] 57)).cell? ⟨q, 1, none⟩ = some (.slice D1 x.devs.length d1) := ⟨hS8.c0, hS8.c1⟩
          have hsz8 : W2.heap.size ≤ (w6.alloc (.cells #[.int .i64 y_w4, .int .i64 y_w5, .int .i64 y_w6] 57)).heap.size := by have := hS8.lt; have := hS8.qlt; omega
          have HS8 := hide hS8
          clear hS8 bB
          refine hK _ _ ⟨fun _ => hh8, ?_⟩
          clear hK K

          refine anyZ_one (i := 13) (by kernel_rfl) rfl (fun K hK => ?_)
          refine step_append_lies _ rfl _ _ 23 rfl W2.heap.size 57 k0 (.agg #[.int .i64 0, .int .i64 0, .int .i64 0]) 3 24 Tryz.underlying23 (unhide Hk) (unhide Hx0) (unhide Hx1) (unhide Hx2) rfl (by decide) _ _ _ rfl (unhide HS8).drow ⟨w6.heap.size, 0, none⟩ 1 1 [.int .i64 y_w4, .int .i64 y_w5, .int .i64 y_w6] rfl rfl (World.news_of_block (heap_alloc_new w6 _)) (by simp [Value.oneCell']) (by omega) (by unfold maxLen; omega) (by omega) hsz8 _ rfl ?_
          intro g9 cap9 w9 hown9 hgrow9 hat9 hlt9
          have hbx9 := (hgrow9.block _ (unhide HS8).lt (own_ne (unhide HS8).drow (unhide HS8).box (by decide))).trans (unhide HS8).box
          have hh9 : w9.cell? ⟨q, 0, none⟩ = some (.slice (some ⟨g, 0, none⟩) us.length c1) ∧ w9.cell? ⟨q, 1, none⟩ = some (.slice D1 x.devs.length d1) := ⟨by rw [Lib.cell_of_heap hbx9]; rfl, by rw [Lib.cell_of_heap hbx9]; rfl⟩
          have hf9 := Lib.frozen_of_heap hbx9 1
          have h91 := hh9.2
          have HS9 := hide ((unhide HS8).pushD (u := ⟨y_w4, y_w5, y_w6⟩) hgrow9 hown9)
          clear hown9 hgrow9 hat9 hlt9 hbx9
          refine hK _ _ ⟨fun _ => hh9, ?_⟩
          clear hK K
          refine anyZ_take (i := 14) (v := .pointer (some ⟨q, 1, none⟩)) rfl (by kernel_rfl) (by kernel_rfl) (by kernel_rfl) (by kernel_rfl) (fun _ _ _ h => h) (Or.inl ⟨by rfl, by intro w hs; go_simp⟩) hh9 ?_

          refine anyZ_one (i := 15) (by kernel_rfl) rfl (fun K hK => ?_)
          go_simp
          refine hK _ _ ⟨fun h => absurd rfl h, ?_⟩
          clear hK K
          refine anyZ_done (by kernel_rfl) ?_ _
          go_simp

          obtain ⟨VF, hVF⟩ : ∃ VF : World, w9.setCell ⟨q, 1, none⟩ (.slice (some ⟨g9, 0, none⟩) (x.devs.length + 1) cap9) = VF := ⟨_, rfl⟩
          have HF := hide (show BnE B b x W2 q VF from by
            rw [← hVF]
            exact ⟨_, _, _, _, _, _, unhide HS9, unhide HUl, fun k hk => by rw [unhide HG k hk]; omega, by rw [List.length_append]; exact Nat.le_refl _⟩)
          try simp only [hVF]
          clear hh hh9 h91 hf9
          obtain ⟨Ax, cx, ux, Dx, dx, ex, hSx, hlx, hxx, hdx⟩ := (unhide HF)
          clear HF
          have HRx := hide ((hSx.rd.gr.block (w.heap.size + 1) (by have := unhide Hs2; omega) (by simp; omega)).trans (unhide HRs))
          have m0 := hSx.c0
          have m1 := hSx.c1
          have HSx := hide hSx
          have HXx := hide hxx
          have HLx := hide hlx
          have HDx := hide hdx
          clear hSx hxx hlx hdx
          go_wp2_with (first
            | (refine wpList_store_row rfl _ _ _ rfl (w.heap.size + 1) #[.slice Ax ux.length cx, .slice Dx ex.length dx] rfl rfl 25 _ (unhide HRx) linfo_lay rfl (by simp [Value.oneCell']) ?_))
          have hR := setRow_heap VF (w.heap.size + 1) _ #[.slice Ax ux.length cx, .slice Dx ex.length dx] _ _ (unhide HRx)
          have z0 : (VF.setRow (w.heap.size + 1) #[.slice Ax ux.length cx, .slice Dx ex.length dx]).cell? ⟨w.heap.size + 1, 0, none⟩ = some (.slice Ax ux.length cx) := by rw [Lib.cell_of_heap hR]; rfl
          have z1 : (VF.setRow (w.heap.size + 1) #[.slice Ax ux.length cx, .slice Dx ex.length dx]).cell? ⟨w.heap.size + 1, 1, none⟩ = some (.slice Dx ex.length dx) := by rw [Lib.cell_of_heap hR]; rfl
          exact bodyPost_ret (v := .agg #[.slice Ax ux.length cx, .slice Dx ex.length dx]) (by simp [results, go_sem, z0, z1]) rfl (bent_end (unhide HB2) hbl (unhide HRx) (unhide HSx) (unhide HLx) (unhide HXx) (unhide HDx))
        · -- way 10
          by_cases h0e : x.devs.length = 0
          · have hgt : ¬ (0 : Int) < (x.devs.length : Int) := by omega
            have hSx := hSv
            have hlx := unhide HUl
            have hxx := (show ∀ j, j < us.length → (us.getD j nds0).x.exits.length ≤ (x.nodes.getD j nd0).exits.length + 1 from fun j hj => by rw [unhide HG j hj]; omega)
            have hdx := Nat.le_succ x.devs.length
            clear hSv h0e
            have HRx := hide ((hSx.rd.gr.block (w.heap.size + 1) (by have := unhide Hs2; omega) (by simp; omega)).trans (unhide HRs))
            have m0 := hSx.c0
            have m1 := hSx.c1
            have HSx := hide hSx
            have HXx := hide hxx
            have HLx := hide hlx
            have HDx := hide hdx
            clear hSx hxx hlx hdx
            go_wp2_with (first
              | (refine wpList_store_row rfl _ _ _ rfl (w.heap.size + 1) #[.slice (some ⟨g, 0, none⟩) us.length c1, .slice D1 x.devs.length d1] rfl rfl 25 _ (unhide HRx) linfo_lay rfl (by simp [Value.oneCell']) ?_))
            have hR := setRow_heap V (w.heap.size + 1) _ #[.slice (some ⟨g, 0, none⟩) us.length c1, .slice D1 x.devs.length d1] _ _ (unhide HRx)
            have z0 : (V.setRow (w.heap.size + 1) #[.slice (some ⟨g, 0, none⟩) us.length c1, .slice D1 x.devs.length d1]).cell? ⟨w.heap.size + 1, 0, none⟩ = some (.slice (some ⟨g, 0, none⟩) us.length c1) := by rw [Lib.cell_of_heap hR]; rfl
            have z1 : (V.setRow (w.heap.size + 1) #[.slice (some ⟨g, 0, none⟩) us.length c1, .slice D1 x.devs.length d1]).cell? ⟨w.heap.size + 1, 1, none⟩ = some (.slice D1 x.devs.length d1) := by rw [Lib.cell_of_heap hR]; rfl
            exact bodyPost_ret (v := .agg #[.slice (some ⟨g, 0, none⟩) us.length c1, .slice D1 x.devs.length d1]) (by simp [results, go_sem, z0, z1]) rfl (bent_end (unhide HB2) hbl (unhide HRx) (unhide HSx) (unhide HLx) (unhide HXx) (unhide HDx))
          · have hgt : (0 : Int) < (x.devs.length : Int) := by omega
            have he1 : (1 : Int) ≤ (x.devs.length : Int) := by omega
            have he2 : (x.devs.length : Int) ≤ 1000000000 := by omega
            obtain ⟨gD, rfl, -, -⟩ := own_cell hSv.drow (by omega)
            have hc1 := hSv.c1
            clear h0e

            have hS0 := hSv.below (Below.refl V.heap.size V).drew
            have hh : V.drew.cell? ⟨q, 0, none⟩ = some (.slice (some ⟨g, 0, none⟩) us.length c1) ∧ V.drew.cell? ⟨q, 1, none⟩ = some (.slice (some ⟨gD, 0, none⟩) x.devs.length d1) := ⟨hS0.c0, hS0.c1⟩
            have HS0 := hide hS0
            clear hS0 hSv
            go_wp2_with fail
            refine wp_region_anyZ 14 (fun Z => Z.cell? ⟨q, 0, none⟩ = some (.slice (some ⟨g, 0, none⟩) us.length c1) ∧ Z.cell? ⟨q, 1, none⟩ = some (.slice (some ⟨gD, 0, none⟩) x.devs.length d1)) (by kernel_rfl) ?_
            refine anyZ_take (i := 0) (v := .pointer (some ⟨q, 1, none⟩)) rfl (by kernel_rfl) (by kernel_rfl) (by kernel_rfl) (by kernel_rfl) (fun _ _ _ h => h) (Or.inl ⟨by rfl, by intro w hs; go_simp⟩) hh ?_
            refine anyZ_take (i := 1) (v := .slice (some ⟨gD, 0, none⟩) x.devs.length d1) rfl (by kernel_rfl) (by kernel_rfl) (by kernel_rfl) (by kernel_rfl) (fun _ _ _ h => h) (Or.inl ⟨by rfl, by intro w hs; have h9 := hs.2; go_simp⟩) hh ?_
            refine anyZ_take (i := 2) (v := .pointer (some ⟨q, 1, none⟩)) rfl (by kernel_rfl) (by kernel_rfl) (by kernel_rfl) (by kernel_rfl) (fun _ _ _ h => h) (Or.inl ⟨by rfl, by intro w hs; go_simp⟩) hh ?_
            refine anyZ_take (i := 3) (v := .slice (some ⟨gD, 0, none⟩) x.devs.length d1) rfl (by kernel_rfl) (by kernel_rfl) (by kernel_rfl) (by kernel_rfl) (fun _ _ _ h => h) (Or.inl ⟨by rfl, by intro w hs; have h9 := hs.2; go_simp⟩) hh ?_
            refine anyZ_take (i := 4) (v := .pointer (some ⟨b, 0, none⟩)) rfl (by kernel_rfl) (by kernel_rfl) (by kernel_rfl) (by kernel_rfl) (fun _ _ _ h => h) (Or.inl ⟨by rfl, by intro w hs; go_simp⟩) hh ?_
            refine anyZ_take (i := 5) (v := .pointer (some ⟨q, 1, none⟩)) rfl (by kernel_rfl) (by kernel_rfl) (by kernel_rfl) (by kernel_rfl) (fun _ _ _ h => h) (Or.inl ⟨by rfl, by intro w hs; go_simp⟩) hh ?_
            refine anyZ_take (i := 6) (v := .slice (some ⟨gD, 0, none⟩) x.devs.length d1) rfl (by kernel_rfl) (by kernel_rfl) (by kernel_rfl) (by kernel_rfl) (fun _ _ _ h => h) (Or.inl ⟨by rfl, by intro w hs; have h9 := hs.2; go_simp⟩) hh ?_
            refine anyZ_take (i := 7) (v := .int .i64 (x.devs.length : Int)) rfl (by kernel_rfl) (by kernel_rfl) (by kernel_rfl) (by kernel_rfl) (fun _ _ _ h => h) (Or.inl ⟨by rfl, by intro w hs; go_simp⟩) hh ?_

            refine anyZ_one (i := 8) (by kernel_rfl) rfl (fun K hK => ?_)
            go_simp
            go_at_call 24
            refine (n_any B b (x.devs.length : Int) _ (unhide HS0).rd.src he1 he2).mono ?_
            rintro e w5 ⟨y_w5, rfl, hy1_w5, hy2_w5, hsr, hgr⟩
            try go_simp
            have hS_w5 := (unhide HS0).read hsr hgr
            have hh_w5 : w5.cell? ⟨q, 0, none⟩ = some (.slice (some ⟨g, 0, none⟩) us.length c1) ∧ w5.cell? ⟨q, 1, none⟩ = some (.slice (some ⟨gD, 0, none⟩) x.devs.length d1) := ⟨hS_w5.c0, hS_w5.c1⟩
            clear hsr hgr
            obtain ⟨i, rfl⟩ := Int.eq_ofNat_of_zero_le hy1_w5
            have hi1 : (i : Int) < (x.devs.length : Int) := by omega
            have hi0 : (0 : Int) ≤ (i : Int) := by omega
            have HS_w5 := hide hS_w5
            clear hS_w5 hy1_w5 hy2_w5
            refine hK _ _ ⟨fun _ => hh_w5, ?_⟩
            clear hK K

            obtain ⟨gD5, e5, -, hcD⟩ := own_cell (unhide HS_w5).drow (by omega)
            injection e5 with e5; injection e5 with e5
            subst e5
            obtain ⟨dv, hdv⟩ : ∃ dv : Dv, x.devs.getD i dv0 = dv := ⟨_, rfl⟩
            have d0 := hcD _ _ (by rw [dvsV_at x.devs i (by omega) 0 (by omega), hdv]; rfl)
            have d1' := hcD _ _ (by rw [dvsV_at x.devs i (by omega) 1 (by omega), hdv]; rfl)
            have d2 := hcD _ _ (by rw [dvsV_at x.devs i (by omega) 2 (by omega), hdv]; rfl)
            simp only [Nat.add_zero] at d0
            clear hcD hdv
            refine anyZ_take (i := 9) (v := .pointer (some ⟨gD, i * 3, none⟩)) rfl (by kernel_rfl) (by kernel_rfl) (by kernel_rfl) (by kernel_rfl) (fun _ _ _ h => h) (Or.inl ⟨by rfl, by intro w hs; go_simp⟩) hh_w5 ?_

            refine anyZ_one (i := 10) (by kernel_rfl) rfl (fun K hK => ?_)
            go_simp
            refine hK _ _ ⟨fun _ => hh_w5, ?_⟩
            clear hK K

            refine anyZ_one (i := 11) (by kernel_rfl) rfl (fun K hK => ?_)
            go_simp
            have bB := (Below.refl w5.heap.size w5).alloc (Nat.le_refl _) (.cells #[.int .i64 dv.kind, .int .i64 dv.node, .int .i64 dv.win] 57)
            have hS8 := (unhide HS_w5).below bB
            have hh8 : (w5.alloc (.cells #[.int .i64 dv.kind, .int .i64 dv.node, .int .i64 dv.win] 57)).cell? ⟨q, 0, none⟩ = some (.slice (some ⟨g, 0, none⟩) us.length c1) ∧ (w5.alloc (.cells #[.int .i64 dv.kind, .int .i64 dv.node, .int .i64 dv.win] 57)).cell? ⟨q, 1, none⟩ = some (.slice (some ⟨gD, 0, none⟩) x.devs.length d1) := ⟨hS8.c0, hS8.c1⟩
            have hsz8 : W2.heap.size ≤ (w5.alloc (.cells #[.int .i64 dv.kind, .int .i64 dv.node, .int .i64 dv.win] 57)).heap.size := by have := hS8.lt; have := hS8.qlt; omega
            have HS8 := hide hS8
            clear hS8 bB
            refine hK _ _ ⟨fun _ => hh8, ?_⟩
            clear hK K

            refine anyZ_one (i := 12) (by kernel_rfl) rfl (fun K hK => ?_)
            refine step_append_lies _ rfl _ _ 23 rfl W2.heap.size 57 k0 (.agg #[.int .i64 0, .int .i64 0, .int .i64 0]) 3 24 Tryz.underlying23 (unhide Hk) (unhide Hx0) (unhide Hx1) (unhide Hx2) rfl (by decide) _ _ _ rfl (unhide HS8).drow ⟨w5.heap.size, 0, none⟩ 1 1 [.int .i64 dv.kind, .int .i64 dv.node, .int .i64 dv.win] rfl rfl (World.news_of_block (heap_alloc_new w5 _)) (by simp [Value.oneCell']) (by omega) (by unfold maxLen; omega) (by omega) hsz8 _ rfl ?_
            intro g9 cap9 w9 hown9 hgrow9 hat9 hlt9
            have hbx9 := (hgrow9.block _ (unhide HS8).lt (own_ne (unhide HS8).drow (unhide HS8).box (by decide))).trans (unhide HS8).box
            have hh9 : w9.cell? ⟨q, 0, none⟩ = some (.slice (some ⟨g, 0, none⟩) us.length c1) ∧ w9.cell? ⟨q, 1, none⟩ = some (.slice (some ⟨gD, 0, none⟩) x.devs.length d1) := ⟨by rw [Lib.cell_of_heap hbx9]; rfl, by rw [Lib.cell_of_heap hbx9]; rfl⟩
            have hf9 := Lib.frozen_of_heap hbx9 1
            have h91 := hh9.2
            have HS9 := hide ((unhide HS8).pushD (u := ⟨dv.kind, dv.node, dv.win⟩) hgrow9 hown9)
            clear hown9 hgrow9 hat9 hlt9 hbx9
            refine hK _ _ ⟨fun _ => hh9, ?_⟩
            clear hK K
            refine anyZ_take (i := 13) (v := .pointer (some ⟨q, 1, none⟩)) rfl (by kernel_rfl) (by kernel_rfl) (by kernel_rfl) (by kernel_rfl) (fun _ _ _ h => h) (Or.inl ⟨by rfl, by intro w hs; go_simp⟩) hh9 ?_

            refine anyZ_one (i := 14) (by kernel_rfl) rfl (fun K hK => ?_)
            go_simp
            refine hK _ _ ⟨fun h => absurd rfl h, ?_⟩
            clear hK K
            refine anyZ_done (by kernel_rfl) ?_ _
            go_simp

            obtain ⟨VF, hVF⟩ : ∃ VF : World, w9.setCell ⟨q, 1, none⟩ (.slice (some ⟨g9, 0, none⟩) (x.devs.length + 1) cap9) = VF := ⟨_, rfl⟩
            have HF := hide (show BnE B b x W2 q VF from by
              rw [← hVF]
              exact ⟨_, _, _, _, _, _, unhide HS9, unhide HUl, fun k hk => by rw [unhide HG k hk]; omega, by rw [List.length_append]; exact Nat.le_refl _⟩)
            try simp only [hVF]
            clear hh hh9 h91 hf9
            obtain ⟨Ax, cx, ux, Dx, dx, ex, hSx, hlx, hxx, hdx⟩ := (unhide HF)
            clear HF
            have HRx := hide ((hSx.rd.gr.block (w.heap.size + 1) (by have := unhide Hs2; omega) (by simp; omega)).trans (unhide HRs))
            have m0 := hSx.c0
            have m1 := hSx.c1
            have HSx := hide hSx
            have HXx := hide hxx
            have HLx := hide hlx
            have HDx := hide hdx
            clear hSx hxx hlx hdx
            go_wp2_with (first
              | (refine wpList_store_row rfl _ _ _ rfl (w.heap.size + 1) #[.slice Ax ux.length cx, .slice Dx ex.length dx] rfl rfl 25 _ (unhide HRx) linfo_lay rfl (by simp [Value.oneCell']) ?_))
            have hR := setRow_heap VF (w.heap.size + 1) _ #[.slice Ax ux.length cx, .slice Dx ex.length dx] _ _ (unhide HRx)
            have z0 : (VF.setRow (w.heap.size + 1) #[.slice Ax ux.length cx, .slice Dx ex.length dx]).cell? ⟨w.heap.size + 1, 0, none⟩ = some (.slice Ax ux.length cx) := by rw [Lib.cell_of_heap hR]; rfl
            have z1 : (VF.setRow (w.heap.size + 1) #[.slice Ax ux.length cx, .slice Dx ex.length dx]).cell? ⟨w.heap.size + 1, 1, none⟩ = some (.slice Dx ex.length dx) := by rw [Lib.cell_of_heap hR]; rfl
            exact bodyPost_ret (v := .agg #[.slice Ax ux.length cx, .slice Dx ex.length dx]) (by simp [results, go_sem, z0, z1]) rfl (bent_end (unhide HB2) hbl (unhide HRx) (unhide HSx) (unhide HLx) (unhide HXx) (unhide HDx))
        · -- way 11
          have hS0 := hSv.below (Below.refl V.heap.size V).drew
          have hh : V.drew.cell? ⟨q, 0, none⟩ = some (.slice (some ⟨g, 0, none⟩) us.length c1) ∧ V.drew.cell? ⟨q, 1, none⟩ = some (.slice D1 x.devs.length d1) := ⟨hS0.c0, hS0.c1⟩
          have HS0 := hide hS0
          clear hS0 hSv
          go_wp2_with fail
          refine wp_region_anyZ 13 (fun Z => Z.cell? ⟨q, 0, none⟩ = some (.slice (some ⟨g, 0, none⟩) us.length c1) ∧ Z.cell? ⟨q, 1, none⟩ = some (.slice D1 x.devs.length d1)) (by kernel_rfl) ?_
          refine anyZ_take (i := 0) (v := .pointer (some ⟨g, j * 5, none⟩)) rfl (by kernel_rfl) (by kernel_rfl) (by kernel_rfl) (by kernel_rfl) (fun _ _ _ h => h) (Or.inl ⟨by rfl, by intro w hs; go_simp⟩) hh ?_
          refine anyZ_take (i := 1) (v := .pointer (some ⟨q, 0, none⟩)) rfl (by kernel_rfl) (by kernel_rfl) (by kernel_rfl) (by kernel_rfl) (fun _ _ _ h => h) (Or.inl ⟨by rfl, by intro w hs; go_simp⟩) hh ?_
          refine anyZ_take (i := 2) (v := .slice (some ⟨g, 0, none⟩) us.length c1) rfl (by kernel_rfl) (by kernel_rfl) (by kernel_rfl) (by kernel_rfl) (fun _ _ _ h => h) (Or.inl ⟨by rfl, by intro w hs; have h9 := hs.1; go_simp⟩) hh ?_
          refine anyZ_take (i := 3) (v := .pointer (some ⟨b, 0, none⟩)) rfl (by kernel_rfl) (by kernel_rfl) (by kernel_rfl) (by kernel_rfl) (fun _ _ _ h => h) (Or.inl ⟨by rfl, by intro w hs; go_simp⟩) hh ?_
          refine anyZ_take (i := 4) (v := .pointer (some ⟨q, 0, none⟩)) rfl (by kernel_rfl) (by kernel_rfl) (by kernel_rfl) (by kernel_rfl) (fun _ _ _ h => h) (Or.inl ⟨by rfl, by intro w hs; go_simp⟩) hh ?_
          refine anyZ_take (i := 5) (v := .slice (some ⟨g, 0, none⟩) us.length c1) rfl (by kernel_rfl) (by kernel_rfl) (by kernel_rfl) (by kernel_rfl) (fun _ _ _ h => h) (Or.inl ⟨by rfl, by intro w hs; have h9 := hs.1; go_simp⟩) hh ?_
          refine anyZ_take (i := 6) (v := .int .i64 (us.length : Int)) rfl (by kernel_rfl) (by kernel_rfl) (by kernel_rfl) (by kernel_rfl) (fun _ _ _ h => h) (Or.inl ⟨by rfl, by intro w hs; go_simp⟩) hh ?_

          refine anyZ_one (i := 7) (by kernel_rfl) rfl (fun K hK => ?_)
          go_simp
          go_at_call 24
          refine (n_any B b (us.length : Int) _ (unhide HS0).rd.src hL1 hL2).mono ?_
          rintro e w5 ⟨y_w5, rfl, hy1_w5, hy2_w5, hsr, hgr⟩
          try go_simp
          have hS_w5 := (unhide HS0).read hsr hgr
          have hh_w5 : w5.cell? ⟨q, 0, none⟩ = some (.slice (some ⟨g, 0, none⟩) us.length c1) ∧ w5.cell? ⟨q, 1, none⟩ = some (.slice D1 x.devs.length d1) := ⟨hS_w5.c0, hS_w5.c1⟩
          clear hsr hgr
          obtain ⟨i, rfl⟩ := Int.eq_ofNat_of_zero_le hy1_w5
          have hi1 : (i : Int) < (us.length : Int) := by omega
          have hi0 : (0 : Int) ≤ (i : Int) := by omega
          have HS_w5 := hide hS_w5
          clear hS_w5 hy1_w5 hy2_w5
          refine hK _ _ ⟨fun _ => hh_w5, ?_⟩
          clear hK K

          obtain ⟨nm2, hnm2⟩ : ∃ nm2 : ByteArray, (us.getD i nds0).x.name = nm2 := ⟨_, rfl⟩
          have hci := (unhide HS_w5).node (f := 0) (j := i) (by omega) (by omega) (show _ = some (.string nm2) from by rw [← hnm2]; rfl)
          have hcj := (unhide HS_w5).node (f := 0) hj (by omega) (show _ = some (.string (us.getD j nds0).x.name) from rfl)
          have hfj := (unhide HS_w5).nfz (j := j * 5)
          simp only [Nat.add_zero] at hci hcj
          clear hnm2
          refine anyZ_take (i := 8) (v := .pointer (some ⟨g, i * 5, none⟩)) rfl (by kernel_rfl) (by kernel_rfl) (by kernel_rfl) (by kernel_rfl) (fun _ _ _ h => h) (Or.inl ⟨by rfl, by intro w hs; go_simp⟩) hh_w5 ?_
          refine anyZ_take (i := 9) (v := .pointer (some ⟨g, i * 5, none⟩)) rfl (by kernel_rfl) (by kernel_rfl) (by kernel_rfl) (by kernel_rfl) (fun _ _ _ h => h) (Or.inl ⟨by rfl, by intro w hs; go_simp⟩) hh_w5 ?_

          refine anyZ_one (i := 10) (by kernel_rfl) rfl (fun K hK => ?_)
          go_simp
          refine hK _ _ ⟨fun _ => hh_w5, ?_⟩
          clear hK K

          refine anyZ_one (i := 11) (by kernel_rfl) rfl (fun K hK => ?_)
          go_simp
          refine hK _ _ ⟨fun _ => hh_w5, ?_⟩
          clear hK K
          refine anyZ_take (i := 12) (v := .pointer (some ⟨g, j * 5, none⟩)) rfl (by kernel_rfl) (by kernel_rfl) (by kernel_rfl) (by kernel_rfl) (fun _ _ _ h => h) (Or.inl ⟨by rfl, by intro w hs; go_simp⟩) hh_w5 ?_

          refine anyZ_one (i := 13) (by kernel_rfl) rfl (fun K hK => ?_)
          go_simp
          refine hK _ _ ⟨fun h => absurd rfl h, ?_⟩
          clear hK K
          refine anyZ_done (by kernel_rfl) ?_ _
          go_simp

          obtain ⟨VF, hVF⟩ : ∃ VF : World, w5.setCell ⟨g, j * 5, none⟩ (.string nm2) = VF := ⟨_, rfl⟩
          have HF := hide (show BnE B b x W2 q VF from by
            rw [← hVF]
            exact ⟨_, _, _, _, _, _, (unhide HS_w5).upd (f := 0) (v := .string nm2) ⟨{ (us.getD j nds0).x with name := nm2 }, (us.getD j nds0).P, (us.getD j nds0).c⟩ hj (by omega) rfl ((unhide HS_w5).ex hj), by rw [List.length_set]; exact unhide HUl, exs_set (unhide HG) (Nat.le_succ _), Nat.le_succ _⟩)
          try simp only [hVF]
          clear hci hcj hfj hh hh_w5
          obtain ⟨Ax, cx, ux, Dx, dx, ex, hSx, hlx, hxx, hdx⟩ := (unhide HF)
          clear HF
          have HRx := hide ((hSx.rd.gr.block (w.heap.size + 1) (by have := unhide Hs2; omega) (by simp; omega)).trans (unhide HRs))
          have m0 := hSx.c0
          have m1 := hSx.c1
          have HSx := hide hSx
          have HXx := hide hxx
          have HLx := hide hlx
          have HDx := hide hdx
          clear hSx hxx hlx hdx
          go_wp2_with (first
            | (refine wpList_store_row rfl _ _ _ rfl (w.heap.size + 1) #[.slice Ax ux.length cx, .slice Dx ex.length dx] rfl rfl 25 _ (unhide HRx) linfo_lay rfl (by simp [Value.oneCell']) ?_))
          have hR := setRow_heap VF (w.heap.size + 1) _ #[.slice Ax ux.length cx, .slice Dx ex.length dx] _ _ (unhide HRx)
          have z0 : (VF.setRow (w.heap.size + 1) #[.slice Ax ux.length cx, .slice Dx ex.length dx]).cell? ⟨w.heap.size + 1, 0, none⟩ = some (.slice Ax ux.length cx) := by rw [Lib.cell_of_heap hR]; rfl
          have z1 : (VF.setRow (w.heap.size + 1) #[.slice Ax ux.length cx, .slice Dx ex.length dx]).cell? ⟨w.heap.size + 1, 1, none⟩ = some (.slice Dx ex.length dx) := by rw [Lib.cell_of_heap hR]; rfl
          exact bodyPost_ret (v := .agg #[.slice Ax ux.length cx, .slice Dx ex.length dx]) (by simp [results, go_sem, z0, z1]) rfl (bent_end (unhide HB2) hbl (unhide HRx) (unhide HSx) (unhide HLx) (unhide HXx) (unhide HDx))
end Go.Proofs.YtfddpdognelhmaaGreatDoor
