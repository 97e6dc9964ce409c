/-
  LayoutOrder: the walk.
-/
import Derived.Test.YtmonjjffbmccjaaGreatDoorLayZo
import Derived.Test.YtmonjjffbmccjaaGreatDoorLayOm
namespace Go.Proofs.YtmonjjffbmccjaaGreatDoor
open Go.RowKit

set_option maxHeartbeats 2000000 in
theorem rleads_any (b : Nat) (x : Lay) (i j : Nat) (A D : Option Addr) (c d : Nat) (w : World) (hi : i < x.nodes.length) (hx : FewX x.nodes) (h : NdsIn b w A x.nodes) :
    Calls Tryz.prog 32 #[lV x A c D d, .int .i64 (i : Int), .int .i64 (j : Int)] w fun e w' => e = .returned (.bool (leadB x.nodes i j)) ∧ Below w.heap.size w w' := by
  have b1 := (Below.refl w.heap.size w).alloc (Nat.le_refl _) (lO x A c D d)
  have B1 := hide b1
  obtain ⟨g, off, rfl, _, hc⟩ := h.keep b1 (by omega)
  obtain ⟨q0, q1, q2, q3, P, cp, q4, _, hn⟩ := hc i hi
  have hz := hx.at hi
  have HIn := hide (kin_any b (x.nodes.getD i nd0).exits (j : Int) P cp _ (by omega) hn)
  have HV := hide (show leadB x.nodes i j = (decide (i ≠ j) && (x.nodes.getD i nd0).exits.contains (j : Int)) from rfl)
  have il : (i : Int) < (x.nodes.length : Int) := by omega
  have i0 : (0 : Int) ≤ (i : Int) := by omega
  generalize x.nodes.getD i nd0 = nd at *
  clear hc hn h b1 hx
  by_cases e : i = j
  · have h0 : ((i : Int) != (j : Int)) = false := by rw [bne_eq_false_iff_eq]; omega
    have HE := hide ((unhide HV).trans (by rw [show decide (i ≠ j) = false by simp [e], Bool.false_and]))
    clear e
    go_enter Tryz.func32, Tryz.ntmps32
    go_wp2
    go_ret
    exact ⟨ret_bool (unhide HE).symm, unhide B1⟩
  · have h0 : ((i : Int) != (j : Int)) = true := by rw [bne_iff_ne]; omega
    have HE := hide (show leadB x.nodes i j = decide ((j : Int) ∈ nd.exits) by
      rw [unhide HV, show decide (i ≠ j) = true by simp [e], Bool.true_and, Bool.eq_iff_iff, List.contains_iff_mem, decide_eq_true_eq])
    clear e
    go_enter Tryz.func32, Tryz.ntmps32
    go_wp2_with fail
    refine (unhide HIn).mono ?_
    rintro e w1 ⟨rfl, rfl⟩
    go_wp2
    go_ret
    exact ⟨ret_bool (unhide HE).symm, unhide B1⟩

theorem nds_of0 {l : List Nd} (h : nodesE l = 0) : ndsE l = 0 := by
  unfold nodesE at h
  split at h
  · assumption
  · exact h
/-- The places, the first k of the order being known. -/
def plL (O : List Nat) : Nat → List Int
  | 0 => List.replicate 24 0
  | k + 1 => (plL O k).set (O.getD k 0) (k : Int)
theorem plL_succ (O : List Nat) (k : Nat) : plL O (k + 1) = (plL O k).set (O.getD k 0) (k : Int) := rfl
theorem plL_len (O : List Nat) : ∀ k, (plL O k).length = 24
  | 0 => by simp [plL]
  | k + 1 => by unfold plL; rw [List.length_set]; exact plL_len O k
theorem plL_at {O : List Nat} (hd : ∀ i j, i < j → j < O.length → O.getD i 0 ≠ O.getD j 0) (h24 : ∀ i, i < O.length → O.getD i 0 < 24) : ∀ k j, k ≤ O.length → j < k → (plL O k).getD (O.getD j 0) 0 = (j : Int)
  | 0, j, _, hj => absurd hj (Nat.not_lt_zero _)
  | k + 1, j, hk, hj => by
    unfold plL
    have hl := plL_len O k
    have h1 := h24 j (by omega)
    rw [List.getD_eq_getElem?_getD]
    by_cases e : j = k
    · subst e
      rw [List.getElem?_set_self (by omega)]; rfl
    · rw [List.getElem?_set_ne (fun h => hd j k (by omega) (by omega) h.symm), ← List.getD_eq_getElem?_getD]
      exact plL_at hd h24 k j (by omega) (by omega)
theorem ofn_at {O : List Nat} {i : Nat} (h : i < O.length) : (O.map Int.ofNat).getD i 0 = ((O.getD i 0 : Nat) : Int) := by
  rw [at_k (by rw [List.length_map]; exact h), List.getElem_map, at_k h]; rfl
theorem ofn_take {O : List Nat} {i : Nat} (hd : ∀ i j, i < j → j < O.length → O.getD i 0 ≠ O.getD j 0) (h : i < O.length) : decide (((O.getD i 0 : Nat) : Int) ∈ (O.map Int.ofNat).take i) = false := by
  refine decide_eq_false fun hm => ?_
  obtain ⟨j, hj, e⟩ := List.getElem_of_mem hm
  rw [List.length_take] at hj
  rw [List.getElem_take, List.getElem_map] at e
  refine hd j i (by omega) h ?_
  rw [at_k (by omega : j < O.length)]
  exact Int.ofNat.inj e
theorem ord_all {l : List Nd} {O : List Nat} (h : OrdS l O) {v : Nat} (hv : v < l.length) : ∃ j, j < O.length ∧ O.getD j 0 = v := by
  by_cases hm : v ∈ O
  · obtain ⟨j, hj, e⟩ := List.getElem_of_mem hm
    exact ⟨j, hj, by rw [at_k hj]; exact e⟩
  · exfalso
    have hn : (v :: O).Nodup := List.nodup_cons.2 ⟨hm, List.pairwise_iff_getElem.2 fun i j hi hj hij => by
      have := h.dif i j hij hj
      rw [at_k hi, at_k hj] at this
      exact this⟩
    have h1 : (v :: O).length ≤ (List.range l.length).length := hn.length_le_of_subset fun i hi => by
      rcases List.mem_cons.1 hi with rfl | hi
      · simpa using hv
      · obtain ⟨j, hj, rfl⟩ := List.getElem_of_mem hi
        have := h.lt j hj
        rw [at_k hj] at this
        simpa using this
    rw [List.length_cons, List.length_range, h.len] at h1
    omega
theorem pos_of {l : List Nd} {O : List Nat} (h : OrdS l O) (h24 : l.length ≤ 24) {a b : Nat} (ha : a < l.length) (hb : b < l.length) (hl : leadB l a b = true) :
    ∃ ja jb : Nat, (plL O l.length).getD a 0 = (ja : Int) ∧ (plL O l.length).getD b 0 = (jb : Int) ∧ ja < jb := by
  obtain ⟨ja, h1, e1⟩ := ord_all h ha
  obtain ⟨jb, h2, e2⟩ := ord_all h hb
  have hlt : ∀ i, i < O.length → O.getD i 0 < 24 := fun i hi => by have := h.lt i hi; omega
  refine ⟨ja, jb, ?_, ?_, h.pos ja jb h1 h2 (by rw [e1, e2]; exact hl)⟩
  · rw [← e1]; exact plL_at h.dif hlt _ _ (by rw [h.len]; exact Nat.le_refl _) (by rw [← h.len]; exact h1)
  · rw [← e2]; exact plL_at h.dif hlt _ _ (by rw [h.len]; exact Nat.le_refl _) (by rw [← h.len]; exact h2)
/-- Some node of the order from the place i on and before the place j leads to that at the place k. -/
def wB (l : List Nd) (O : List Nat) (i k j : Nat) : Bool := (List.range j).any fun m => decide (i ≤ m) && leadB l (O.getD m 0) (O.getD k 0)
theorem wB_start (l : List Nd) (O : List Nat) (i k : Nat) : wB l O i k i = false := by
  unfold wB
  rw [List.any_eq_false]
  intro m hm
  have : m < i := by simpa using hm
  rw [decide_eq_false (by omega)]; simp
theorem wB_step {l : List Nd} {O : List Nat} {i k j : Nat} (h : i ≤ j) : wB l O i k (j + 1) = (wB l O i k j || leadB l (O.getD j 0) (O.getD k 0)) := by
  unfold wB
  rw [List.range_succ, List.any_append, List.any_cons, List.any_nil, decide_eq_true h, Bool.true_and, Bool.or_false]
theorem wB_end {l : List Nd} {O : List Nat} (hS : OrdS l O) {i k : Nat} (h : i < k) (hk : k < O.length) (hlt : O.getD k 0 < O.getD i 0) : wB l O i k k = true := by
  obtain ⟨j, h1, h2, h3⟩ := hS.wait i k h hk hlt
  unfold wB
  rw [List.any_eq_true]
  exact ⟨j, by simpa using h2, by rw [decide_eq_true h1, h3]; rfl⟩
/-- What the walk keeps. -/
structure OrW (w : World) (q P : Nat) (x : Lay) (A : Option Addr) (c : Nat) (D : Option Addr) (d : Nat) (ao : Option Addr) (O : List Nat) (k : Nat) (wr : World) : Prop where
  bel : Below w.heap.size w wr
  box : wr.heap[q]? = some (lO x A c D d)
  nds : NdsIn P wr A x.nodes
  nums : NumsIn P wr ao (O.map Int.ofNat)
  pl : wr.heap[P]? = some (.cells ((plL O k).map (Value.int .i64)).toArray 52 (0, 0))
  qP : q < P
  wq : w.heap.size ≤ q
theorem OrW.below {w : World} {q P : Nat} {x : Lay} {A : Option Addr} {c : Nat} {D : Option Addr} {d : Nat} {ao : Option Addr} {O : List Nat} {k : Nat} {wr w1 : World} (h : OrW w q P x A c D d ao O k wr) (hb : Below wr.heap.size wr w1) : OrW w q P x A c D d ao O k w1 :=
  ⟨onward h.bel hb, heap_below h.box hb, h.nds.keep hb, h.nums.keep hb, heap_below h.pl hb, h.qP, h.wq⟩
theorem OrW.put {w : World} {q P : Nat} {x : Lay} {A : Option Addr} {c : Nat} {D : Option Addr} {d : Nat} {ao : Option Addr} {O : List Nat} {k : Nat} {wr : World} (h : OrW w q P x A c D d ao O k wr) : OrW w q P x A c D d ao O (k + 1) (wr.setCell ⟨P, O.getD k 0, none⟩ (.int .i64 (k : Int))) := by
  have hg : wr.grownBy (wr.setCell ⟨P, O.getD k 0, none⟩ (.int .i64 (k : Int))) (some P) := Lib.grownBy_setB (World.grownBy.refl wr (some P)) _ _
  refine ⟨h.bel.setCell (p := ⟨P, O.getD k 0, none⟩) (by show w.heap.size ≤ P; have := h.qP; have := h.wq; omega) _, (hg.block q (Array.getElem?_eq_some_iff.1 h.box).1 (by have := h.qP; simp; omega)).trans h.box, h.nds.grown hg, h.nums.grown hg, ?_, h.qP, h.wq⟩
  rw [heap_set h.pl, plL_succ]
  simp [List.map_set]
theorem OrW.place {w : World} {q P : Nat} {x : Lay} {A : Option Addr} {c : Nat} {D : Option Addr} {d : Nat} {ao : Option Addr} {O : List Nat} {k : Nat} {wr : World} (h : OrW w q P x A c D d ao O k wr) {v : Nat} (hv : v < 24) : wr.cell? ⟨P, v, none⟩ = some (.int .i64 ((plL O k).getD v 0)) := by
  rw [Lib.cell_of_heap h.pl]
  show ((plL O k).map (Value.int .i64)).toArray[v]? = _
  rw [List.getElem?_toArray, List.getElem?_map, List.getElem?_eq_getElem (by rw [plL_len]; exact hv), at_k (by rw [plL_len]; exact hv)]
  rfl

set_option maxHeartbeats 8000000 in
set_option maxRecDepth 100000 in
theorem lorderw_any (A1 : Option Addr) (n1 c1 : Nat) (w : World) (hT : LTab w) (hc1 : n1 ≤ c1) (hI1 : IntsIn w.heap.size w A1 n1) :
    Calls Tryz.prog 6 #[.slice A1 n1 c1] w fun e w' => e = .returned (.bool true) ∧ Below w.heap.size w w' := by
  have HT := hide hT
  clear hT
  go_enter Tryz.func6, Tryz.ntmps6
  go_wp2_with fail
  refine (new_any A1 n1 c1 w hc1 hI1).mono ?_
  rintro e w1 ⟨rfl, hs1, hb1⟩
  go_wp2_with fail
  refine (klayout_any _ _ _ hs1).mono ?_
  rintro e w2 ⟨z, x, A, c, D, d, rfl, hG, hN, hD, hs2, hg2⟩
  have B2 := below_reads hb1 hg2 (Nat.le_refl _) hb1.size
  have b3 := (Below.refl w2.heap.size w2).alloc (Nat.le_refl _) (lO x A c D d)
  have HB3 := hide (onward B2 b3)
  have HBx3 := hide (heap_alloc_new w2 (lO x A c D d))
  have hw2 : w.heap.size < w2.heap.size := hs2.lt
  have hI3 := hG.lay (hN.keep b3) (hD.keep b3)
  have HI3 := hide hI3
  have HFew := hide hI3.few
  have HO := hide (lord_any _ x A D c d _ hI3)
  have hz := hG.zero
  obtain ⟨O, hO⟩ : ∃ O, ordN x.nodes = O := ⟨_, rfl⟩
  have hlen : O.length = x.nodes.length := by
    have h1 := (layE_zero hz).2.2.1
    unfold nodesE at h1
    rw [if_pos (nds_of0 (layE_zero hz).2.2.1)] at h1
    split at h1
    · split at h1
      · split at h1
        · split at h1
          · omega
          · rename_i h2
            rw [ordF_len, hO] at h2
            have := (ordN_ord x.nodes).len
            rw [hO] at this
            omega
        · omega
      · omega
    · omega
  have hS : OrdS x.nodes O := by rw [← hO]; exact ord_s (by rw [hO]; exact hlen)
  have hX : ordX x = O.map Int.ofNat := by unfold ordX ordF; rw [if_pos hz, hO]
  rw [hX] at HO
  have hn11 := hG.n11
  have hn1 : x.nodes.length ≤ 11 := by rw [hG.len]; exact hn11
  have HSs := hide hS
  have HEx := hide (exg_of (nds_of0 (layE_zero hz).2.2.1))
  have l0 : (w2.alloc (lO x A c D d)).cell? ⟨w2.heap.size, 0, none⟩ = some (.slice A x.nodes.length c) := by rw [Lib.cell_of_heap (unhide HBx3)]; rfl
  have l1 : (w2.alloc (lO x A c D d)).cell? ⟨w2.heap.size, 1, none⟩ = some (.slice D x.devs.length d) := by rw [Lib.cell_of_heap (unhide HBx3)]; rfl
  generalize hq : w2.heap.size = q at *
  clear hb1 hs1 hg2 hN hD hs2 B2 b3 hG hI3 hO hS hX hz hn11
  go_wp2_with fail
  refine (unhide HO).mono ?_
  rintro e w4 ⟨v, rfl, hown, hb4⟩
  have hw3 : w.heap.size < (w2.alloc (lO x A c D d)).heap.size := by rw [World.size_alloc]; omega
  have hown2 := hown
  rw [List.length_map, hlen] at hown2
  obtain ⟨ao, cp, hv⟩ := own_form hown2
  subst hv
  have hir : NumsIn w.heap.size w4 ao (O.map Int.ofNat) := (IntRow.own (cap := cp) (by rw [List.length_map, hlen]; rw [List.length_map, hlen] at hown; exact hown) hw3).nums
  have hcp : x.nodes.length ≤ cp := own_cap hown2
  have HB4 := hide (onward (unhide HB3) hb4)
  have HBx4 := hide (heap_below (unhide HBx3) hb4)
  have hq4 := (Array.getElem?_eq_some_iff.1 (unhide HBx4)).1
  have b5 := (Below.refl w4.heap.size w4).alloc (Nat.le_refl _) (.cells ((plL O 0).map (Value.int .i64)).toArray 52)
  have hW : OrW w q w4.heap.size x A c D d ao O 0 (w4.alloc (.cells ((plL O 0).map (Value.int .i64)).toArray 52)) :=
    ⟨onward (unhide HB4) b5, heap_below (unhide HBx4) b5, (((unhide HI3).nds.keep hb4).other (Nat.le_refl _)).keep b5, (hir.other (Nat.le_refl _)).keep b5, heap_alloc_new w4 _, hq4, by omega⟩
  have HW := hide hW
  have l0 : w4.cell? ⟨q, 0, none⟩ = some (.slice A x.nodes.length c) := by rw [Lib.cell_of_heap (unhide HBx4)]; rfl
  have l1 : w4.cell? ⟨q, 1, none⟩ = some (.slice D x.devs.length d) := by rw [Lib.cell_of_heap (unhide HBx4)]; rfl
  have HL := hide hlen
  have hN1 : (x.nodes.length : Int) ≤ 11 := by omega
  have hcp1 : (x.nodes.length : Int) ≤ (cp : Int) := by omega
  generalize hP : w4.heap.size = P at *
  have hwP : w.heap.size < P := by omega
  clear hb4 hown hown2 hir b5 hW hlen HO
  go_wp2
  go_loopw [6] (fun iv wr => ∃ i : Nat, i ≤ x.nodes.length ∧ iv = .int .i64 i ∧ Hid (OrW w q P x A c D d ao O i wr)) (fun i _ => x.nodes.length - (intOf i).toNat)
  case atStart => exact ⟨0, Nat.zero_le _, rfl, HW⟩
  case round =>
    obtain ⟨i, hi, rfl, hW⟩ := hrel
    obtain ⟨wo, rfl⟩ : ∃ wo : World, wo = wr := ⟨_, rfl⟩
    clear HW
    by_cases hlt : i < x.nodes.length
    · have hiO : i < O.length := by rw [unhide HL]; exact hlt
      obtain ⟨g, off, hA, hgs, hcl⟩ := hW.out.nums (by rw [List.length_map]; omega)
      subst hA
      have y0 := hcl i (by rw [List.length_map]; exact hiO)
      rw [ofn_at hiO] at y0
      have hv := (unhide HSs).lt i hiO
      have HT1 := hide (ofn_take (unhide HSs).dif hiO)
      have HPut := hide fun W (h : OrW w q P x A c D d (some ⟨g, off, none⟩) O i W) => h.put
      have HIn := hide fun W (hb : Below wo.heap.size wo W) => kin_any P ((O.map Int.ofNat).take i) ((O.getD i 0 : Nat) : Int) (some ⟨g, off, none⟩) cp W (by rw [List.length_take, List.length_map]; omega) ((hW.out.nums.keep hb).take i)
      have hli : ((O.map Int.ofNat).take i).length = i := by rw [List.length_take, List.length_map]; omega
      rw [hli, unhide HT1] at HIn
      have HPl := hide hW.out.pl
      generalize O.getD i 0 = v at *
      have vl : (v : Int) < (x.nodes.length : Int) := by omega
      have v0 : decide ((v : Int) < 0) = false := decide_eq_false (by omega)
      have v1 : decide (x.nodes.length ≤ v) = false := decide_eq_false (by omega)
      have il : (i : Int) < (x.nodes.length : Int) := by omega
      have i0 : (0 : Int) ≤ (i : Int) := by omega
      have icp : (i : Int) ≤ (cp : Int) := by omega
      have HW1 := hide hW.out
      clear hcl hli hW
      have HK := hide (fun (tt : After wo) => unhide HIn tt.to tt.is)
      have ac := After.cell y0
      go_wp2_with fail
      refine wp_region_after (by kernel_rfl) (by kernel_rfl) ?_
      repeat (go_big_quiet_step ((first | (go_at_call 31; exact After.same (unhide HK _)))))
      refine wpQuiet_nil ?_
      rintro _ ⟨tt, rfl⟩
      obtain ⟨wt, hbt⟩ := tt
      have y1 := kept hbt y0
      have hWt := (unhide HW1).below hbt
      have p0 := hWt.place (v := v) (by omega)
      have pf := Lib.frozen_of_heap hWt.pl v
      have HPut1 := hide (unhide HPut wt)
      clear y0 HK ac HIn
      go_wp2
      go_roundw
      case rel => exact ⟨i + 1, by omega, by go_num, Lib.hid (unhide HPut1 hWt)⟩
      case measure => simp [intOf]; omega
    · obtain rfl : i = x.nodes.length := by omega
      have kl : ¬ ((x.nodes.length : Int) < (x.nodes.length : Int)) := by omega
      have HPos := hide fun a b ha hb hl => pos_of (unhide HSs) (show x.nodes.length ≤ 24 by omega) (a := a) (b := b) ha hb hl
      have HW := hide hW.out
      clear hW hlt hi
      go_wp2
      obtain ⟨W6, rfl⟩ : ∃ W : World, W = wo := ⟨_, rfl⟩
      go_loopw [7] (fun iv wr => ∃ i : Nat, i ≤ x.nodes.length ∧ iv = .int .i64 i ∧ Hid (OrW w q P x A c D d ao O x.nodes.length wr)) (fun i _ => x.nodes.length - (intOf i).toNat)
      case atStart => exact ⟨0, Nat.zero_le _, rfl, HW⟩
      case round =>
        obtain ⟨i, hi, rfl, hW⟩ := hrel
        obtain ⟨wo, rfl⟩ : ∃ wo : World, wo = wr := ⟨_, rfl⟩
        have HW := hide hW.out
        clear hW
        have l0 : wo.cell? ⟨q, 0, none⟩ = some (.slice A x.nodes.length c) := by rw [Lib.cell_of_heap (unhide HW).box]; rfl
        by_cases hlt : i < x.nodes.length
        · have il : (i : Int) < (x.nodes.length : Int) := by omega
          have i0 : (0 : Int) ≤ (i : Int) := by omega
          have HRng := hide ((unhide HEx).rng i hlt)
          have HLd := hide (fun t : Nat => show t ≠ i → (t : Int) ∈ (x.nodes.getD i nd0).exits → leadB x.nodes i t = true from fun h1 h2 => by
            unfold leadB
            rw [show decide (i ≠ t) = true by simpa using fun e => h1 (Eq.symm e), Bool.true_and]
            exact List.contains_iff_mem.2 h2)
          have hfl := (unhide HEx).len i hlt
          go_wp2
          go_loopw [8] (fun kv wr => ∃ k : Nat, k ≤ (x.nodes.getD i nd0).exits.length ∧ kv = .int .i64 k ∧ Hid (OrW w q P x A c D d ao O x.nodes.length wr)) (fun k _ => (x.nodes.getD i nd0).exits.length - (intOf k).toNat)
          case atStart => exact ⟨0, Nat.zero_le _, rfl, HW⟩
          case round =>
            obtain ⟨k, hk, rfl, hWk⟩ := hrel
            obtain ⟨wk, rfl⟩ : ∃ wo : World, wo = wr := ⟨_, rfl⟩
            have HWk := hide hWk.out
            clear hWk
            have m0 : wk.cell? ⟨q, 0, none⟩ = some (.slice A x.nodes.length c) := by rw [Lib.cell_of_heap (unhide HWk).box]; rfl
            obtain ⟨g, off, hA, hgP, hcl⟩ := (unhide HWk).nds (by omega)
            subst hA
            obtain ⟨q0, q1, q2, q3, E, cE', q4, _, hnm⟩ := hcl i hlt
            clear hcl q0 q1 q2 q3
            generalize (x.nodes.getD i nd0).exits = es at *
            by_cases hke : k < es.length
            · have kel : (k : Int) < (es.length : Int) := by omega
              have k0 : (0 : Int) ≤ (k : Int) := by omega
              obtain ⟨g2, off2, rfl, _, hce⟩ := hnm (by omega)
              have y0 := hce k hke
              have hmem : es.getD k 0 ∈ es := by rw [at_k hke]; exact List.getElem_mem _
              obtain ⟨r1, r2⟩ := unhide HRng _ hmem
              obtain ⟨t, ht⟩ := Int.eq_ofNat_of_zero_le r1
              rw [ht] at y0 hmem r2
              have htl : t < x.nodes.length := by omega
              clear hce ht r1
              by_cases hti : t = i
              · have e0 : ((t : Int) != (i : Int)) = false := by rw [bne_eq_false_iff_eq]; omega
                clear hti hmem
                go_wp2_with fail
                go_quiet (fail)
                go_wp2
                go_roundw
                case rel => exact ⟨k + 1, by omega, by go_num, Lib.hid ((unhide HWk).below (draws (Below.refl _ _) _))⟩
                case measure => simp [intOf]; omega
              · have e0 : ((t : Int) != (i : Int)) = true := by rw [bne_iff_ne]; omega
                obtain ⟨ji, jt, p1, p2, p3⟩ := unhide HPos i t hlt htl (unhide HLd t hti hmem)
                have z1 := (unhide HWk).place (v := i) (by omega)
                have z2 := (unhide HWk).place (v := t) (by omega)
                rw [p1] at z1
                rw [p2] at z2
                have dj : decide (jt ≤ ji) = false := decide_eq_false (by omega)
                have tl : (t : Int) < 24 := by omega
                have t0 : (0 : Int) ≤ (t : Int) := by omega
                have il24 : (i : Int) < 24 := by omega
                clear p1 p2 p3 hti hmem
                go_wp2_with fail
                go_quiet (fail)
                go_wp2
                go_roundw
                case rel => exact ⟨k + 1, by omega, by go_num, Lib.hid ((unhide HWk).below (draws (Below.refl _ _) _))⟩
                case measure => simp [intOf]; omega
            · have kel : ¬ (k : Int) < (es.length : Int) := by omega
              go_wp2
              go_roundw
              case rel => exact ⟨i + 1, by omega, by go_num, HWk⟩
              case measure => simp [intOf]; omega
        · have il : ¬ (i : Int) < (x.nodes.length : Int) := by omega
          go_wp2
          obtain ⟨W7, rfl⟩ : ∃ W : World, W = wo := ⟨_, rfl⟩
          clear HPos l0 il hlt
          go_loopw [10] (fun iv wr => ∃ i : Nat, i ≤ x.nodes.length ∧ iv = .int .i64 i ∧ Hid (OrW w q P x A c D d ao O x.nodes.length wr)) (fun i _ => x.nodes.length - (intOf i).toNat)
          case atStart => exact ⟨0, Nat.zero_le _, rfl, HW⟩
          case round =>
            obtain ⟨i, hi, rfl, hW⟩ := hrel
            obtain ⟨wo, rfl⟩ : ∃ wo : World, wo = wr := ⟨_, rfl⟩
            have HW := hide hW.out
            clear hW
            by_cases hlt : i < x.nodes.length
            · have il : (i : Int) < (x.nodes.length : Int) := by omega
              have i0 : (0 : Int) ≤ (i : Int) := by omega
              go_wp2
              go_loopw [11] (fun kv wr => ∃ k : Nat, i < k ∧ k ≤ x.nodes.length ∧ kv = .int .i64 k ∧ Hid (OrW w q P x A c D d ao O x.nodes.length wr)) (fun k _ => x.nodes.length - (intOf k).toNat)
              case atStart => exact ⟨i + 1, by omega, by omega, by go_num, HW⟩
              case round =>
                obtain ⟨k, hik, hk, rfl, hWk⟩ := hrel
                obtain ⟨wk, rfl⟩ : ∃ wo : World, wo = wr := ⟨_, rfl⟩
                have HWk := hide hWk.out
                clear hWk
                by_cases hkn : k < x.nodes.length
                · have kl : (k : Int) < (x.nodes.length : Int) := by omega
                  have k0 : (0 : Int) ≤ (k : Int) := by omega
                  have hiO : i < O.length := by rw [unhide HL]; exact hlt
                  have hkO : k < O.length := by rw [unhide HL]; exact hkn
                  obtain ⟨g, off, hA, hgs, hcl⟩ := (unhide HWk).nums (by rw [List.length_map]; omega)
                  subst hA
                  have y0 := hcl i (by rw [List.length_map]; exact hiO)
                  rw [ofn_at hiO] at y0
                  have y1 := hcl k (by rw [List.length_map]; exact hkO)
                  rw [ofn_at hkO] at y1
                  have hne := (unhide HSs).dif i k hik hkO
                  have HEnd := hide fun h => wB_end (unhide HSs) hik hkO h
                  have HVk := hide ((unhide HSs).lt k hkO)
                  obtain ⟨vi, hvi⟩ : ∃ vi, O.getD i 0 = vi := ⟨_, rfl⟩
                  obtain ⟨vk, hvk⟩ : ∃ vk, O.getD k 0 = vk := ⟨_, rfl⟩
                  have HvK := hide hvk
                  rw [hvi] at y0 hne HEnd
                  rw [hvk] at y1 hne HEnd HVk
                  clear hcl hvi hvk
                  cases hgt : decide (vi < vk) with
                  | true =>
                    go_wp2_with fail
                    go_quiet (fail)
                    go_wp2
                    go_roundw
                    case rel => exact ⟨k + 1, by omega, by omega, by go_num, Lib.hid ((unhide HWk).below (draws (Below.refl _ _) _))⟩
                    case measure => simp [intOf]; omega
                  | false =>
                    have hlk : vk < vi := by have := of_decide_eq_false hgt; omega
                    have HWb := hide (unhide HEnd hlk)
                    clear HEnd hlk hne
                    go_wp2_with fail
                    go_quiet (fail)
                    rename_i nq
                    have HW8 := hide ((unhide HWk).below (draws (Below.refl wk.heap.size wk) nq))
                    clear y0 y1
                    go_wp2
                    generalize wk.drewN nq = w8 at *
                    go_loopw [12, 13] (fun bv jv wr => ∃ j : Nat, i ≤ j ∧ j ≤ k ∧ jv = .int .i64 j ∧ bv = .bool (wB x.nodes O i k j) ∧ Hid (OrW w q P x A c D d (some ⟨g, off, none⟩) O x.nodes.length wr)) (fun _ j _ => k - (intOf j).toNat)
                    case atStart => exact ⟨i, Nat.le_refl _, by omega, rfl, by rw [wB_start], HW8⟩
                    case round =>
                      obtain ⟨j, hij, hjk, rfl, rfl, hWj⟩ := hrel
                      obtain ⟨wj, rfl⟩ : ∃ wo : World, wo = wr := ⟨_, rfl⟩
                      have HWj := hide hWj.out
                      clear hWj
                      by_cases hjlt : j < k
                      · have jl : (j : Int) < (k : Int) := by omega
                        have jl2 : (j : Int) < (x.nodes.length : Int) := by omega
                        have j0 : (0 : Int) ≤ (j : Int) := by omega
                        have hjO : j < O.length := by rw [unhide HL]; omega
                        obtain ⟨g', off', hA', -, hcj⟩ := (unhide HWj).nums (by rw [List.length_map]; omega)
                        obtain ⟨rfl, rfl⟩ : g' = g ∧ off' = off := by
                          have := Option.some.inj hA'
                          injection this with h1 h2
                          exact ⟨h1.symm, h2.symm⟩
                        have y0 := hcj j (by rw [List.length_map]; exact hjO)
                        rw [ofn_at hjO] at y0
                        have y1 := hcj k (by rw [List.length_map]; exact hkO)
                        rw [ofn_at hkO, unhide HvK] at y1
                        have hstep := wB_step (l := x.nodes) (O := O) (k := k) hij
                        rw [unhide HvK] at hstep
                        have hvj := (unhide HSs).lt j hjO
                        have l0 : wj.cell? ⟨q, 0, none⟩ = some (.slice A x.nodes.length c) := by rw [Lib.cell_of_heap (unhide HWj).box]; rfl
                        have l1 : wj.cell? ⟨q, 1, none⟩ = some (.slice D x.devs.length d) := by rw [Lib.cell_of_heap (unhide HWj).box]; rfl
                        generalize O.getD j 0 = vj at *
                        have HLd := hide fun tt : After wj => rleads_any P x vj vk A D c d tt.to hvj (unhide HFew) ((unhide HWj).nds.keep tt.is)
                        have HStep := hide hstep
                        clear hcj hA' hstep
                        cases hb : wB x.nodes O i k j with
                        | true =>
                          rw [hb, Bool.true_or] at HStep
                          have a0 := After.cell y0
                          have a1 := After.cell y1
                          have a2 := After.cell l0
                          have a3 := After.cell l1
                          go_wp2_with fail
                          refine wp_region_after (by kernel_rfl) (by kernel_rfl) ?_
                          repeat (go_big_quiet_step (fail))
                          refine wpQuiet_nil ?_
                          rintro _ ⟨tt, rfl⟩
                          obtain ⟨wt, hbt⟩ := tt
                          have HWt := hide ((unhide HWj).below hbt)
                          clear y0 y1 l0 l1 a0 a1 a2 a3 HLd
                          go_wp2
                          go_roundw
                          case rel => exact ⟨j + 1, by omega, by omega, by go_num, by rw [unhide HStep], HWt⟩
                          case measure => simp [intOf]; omega
                        | false =>
                          rw [hb, Bool.false_or] at HStep
                          have a0 := After.cell y0
                          have a1 := After.cell y1
                          have a2 := After.cell l0
                          have a3 := After.cell l1
                          go_wp2_with fail
                          refine wp_region_after (by kernel_rfl) (by kernel_rfl) ?_
                          repeat (go_big_quiet_step ((first | (go_at_call 32; exact After.call (unhide HLd _)))))
                          refine wpQuiet_nil ?_
                          rintro _ ⟨tt, rfl⟩
                          obtain ⟨wt, hbt⟩ := tt
                          have HWt := hide ((unhide HWj).below hbt)
                          clear y0 y1 l0 l1 a0 a1 a2 a3 HLd
                          go_wp2
                          go_roundw
                          case rel => exact ⟨j + 1, by omega, by omega, by go_num, by rw [unhide HStep], HWt⟩
                          case measure => simp [intOf]; omega
                      · obtain rfl : j = k := by omega
                        have jl : ¬ (j : Int) < (j : Int) := by omega
                        have hwb := unhide HWb
                        go_wp2
                        go_roundw
                        case rel => exact ⟨j + 1, by omega, by omega, by go_num, HWj⟩
                        case measure => simp [intOf]; omega
                · have kl : ¬ (k : Int) < (x.nodes.length : Int) := by omega
                  go_wp2
                  go_roundw
                  case rel => exact ⟨i + 1, by omega, by go_num, HWk⟩
                  case measure => simp [intOf]; omega
            · have il : ¬ (i : Int) < (x.nodes.length : Int) := by omega
              have HA := hide (lawake_any wo ((unhide HT).keep (unhide HW).bel))
              go_wp2_with fail
              refine (unhide HA).mono ?_
              rintro e wz ⟨rfl, hbz⟩
              go_wp2
              go_ret
              exact ⟨rfl, onward (unhide HW).bel hbz⟩
theorem lorder_law (A1 : Option Addr) (n1 c1 : Nat) (hc1 : n1 ≤ c1) {w : World} (hI1 : IntsIn w.heap.size w A1 n1) (hT : LTab w) :
    Calls Tryz.prog 6 #[.slice A1 n1 c1] w fun e w' => e = .returned (.bool true) ∧ Below w.heap.size w w' := lorderw_any A1 n1 c1 w hT hc1 hI1
end Go.Proofs.YtmonjjffbmccjaaGreatDoor
