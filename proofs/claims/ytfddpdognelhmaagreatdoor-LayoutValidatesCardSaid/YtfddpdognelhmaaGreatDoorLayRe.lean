/-
  Contract of the document's own check of a layout.
-/
import Derived.Test.YtfddpdognelhmaaGreatDoorLayRb
import Derived.Test.YtfddpdognelhmaaGreatDoorLayRc
import Derived.Test.YtfddpdognelhmaaGreatDoorLayRd
import Derived.OrdersHeld
namespace Go.Proofs.YtfddpdognelhmaaGreatDoor
open Go.RowKit

theorem findN_le {l : List Nd} {s : ByteArray} {i : Nat} (hi : i < l.length) (h : (l.getD i nd0).name = s) : findN l s ≤ i := by
  unfold findN
  apply Nat.le_of_not_lt
  intro hlt
  have h1 := List.not_of_lt_findIdx hlt
  rw [at_k hi] at h
  simp [h] at h1
theorem findI_le {l : List Nd} {i : Nat} (hi : i < l.length) : findI l (l.getD i nd0).name ≤ i := by
  have h := findN_le hi rfl
  unfold findI
  split <;> omega
theorem difB_at {l : List Nd} {i : Nat} (hi : i < l.length) (h : findI l (l.getD i nd0).name ≠ i) : difB l = false := by
  unfold difB
  rw [List.all_eq_false]
  refine ⟨i, by simpa using hi, ?_⟩
  have := findI_le hi
  rw [decide_eq_true_eq]
  omega
theorem difB_ok {l : List Nd} (h : ∀ i, i < l.length → findI l (l.getD i nd0).name = i) : difB l = true := by
  unfold difB
  rw [List.all_eq_true]
  intro i hi
  have hi' : i < l.length := by simpa using hi
  rw [h i hi', decide_eq_true_eq]; omega
theorem any_no {l : List Nd} (h : ∀ j, j < l.length → isEn (l.getD j nd0) = false) : l.any isEn = false := by
  rw [List.any_eq_false]
  intro x hx
  obtain ⟨i, hi, rfl⟩ := List.getElem_of_mem hx
  have := h i hi
  rw [at_k hi] at this
  rw [this]; exact Bool.false_ne_true
theorem any_yes {l : List Nd} (h : ¬ ∀ j, j < l.length → isEn (l.getD j nd0) = false) : l.any isEn = true := by
  cases ha : l.any isEn with
  | true => rfl
  | false =>
    exfalso
    apply h
    intro j hj
    rw [List.any_eq_false] at ha
    have := ha l[j] (List.getElem_mem _)
    rw [at_k hj]
    simpa using this
theorem ent_yes {l : List Nd} {i m : Nat} (h : isEn (l.getD i nd0) = true) : (m + 1 = 0) ↔ ∀ j, j < i + 1 → isEn (l.getD j nd0) = false := by
  constructor
  · intro h; omega
  · intro h2
    have := h2 i (by omega)
    rw [h] at this; cases this
theorem ent_no {l : List Nd} {i m : Nat} (hm : (m = 0) ↔ ∀ j, j < i → isEn (l.getD j nd0) = false) (h : isEn (l.getD i nd0) = false) : (m = 0) ↔ ∀ j, j < i + 1 → isEn (l.getD j nd0) = false := by
  rw [hm]
  constructor
  · intro h2 j hj
    by_cases e : j = i
    · rw [e]; exact h
    · exact h2 j (by omega)
  · intro h2 j hj
    exact h2 j (by omega)

theorem ro_keep {W Z Z' : World} {q n m c d : Nat} {A D : Option Addr} (h : Below W.heap.size W Z ∧ Z.cell? ⟨q, 0, none⟩ = some (.slice A n c) ∧ Z.cell? ⟨q, 1, none⟩ = some (.slice D m d)) (hb : Below Z.heap.size Z Z') :
    Below W.heap.size W Z' ∧ Z'.cell? ⟨q, 0, none⟩ = some (.slice A n c) ∧ Z'.cell? ⟨q, 1, none⟩ = some (.slice D m d) := ⟨onward h.1 hb, kept hb h.2.1, kept hb h.2.2⟩
theorem difD_at {ds : List Dv} {i k : Nat} (hi : i < ds.length) (hk : k < i) (h : sameD (ds.getD i dv0) (ds.getD k dv0) = true) : difD ds = false := by
  unfold difD
  rw [List.all_eq_false]
  refine ⟨i, by simpa using hi, ?_⟩
  rw [decide_eq_true_eq]
  intro hle
  have := List.not_of_lt_findIdx (Nat.lt_of_lt_of_le hk hle)
  rw [at_k (show k < ds.length by omega)] at h
  rw [h] at this
  cases this
theorem difD_ok {ds : List Dv} (h : ∀ i, i < ds.length → ∀ k, k < i → sameD (ds.getD i dv0) (ds.getD k dv0) = false) : difD ds = true := by
  unfold difD
  rw [List.all_eq_true]
  intro i hi
  have hi' : i < ds.length := by simpa using hi
  rw [decide_eq_true_eq]
  apply Nat.le_of_not_lt
  intro hlt
  have h1 : sameD (ds.getD i dv0) ds[ds.findIdx (sameD (ds.getD i dv0))] = true := List.findIdx_getElem (w := by omega)
  have h2 := h i hi' _ hlt
  rw [at_k (show ds.findIdx (sameD (ds.getD i dv0)) < ds.length by omega)] at h2
  rw [h1] at h2; cases h2

set_option maxHeartbeats 8000000 in
set_option maxRecDepth 100000 in
theorem rval_any (b : Nat) (x : Lay) (A D : Option Addr) (c d : Nat) (w : World) (h : LayIn b w x A D) (hbw : b < w.heap.size) :
    Calls Tryz.prog 13 #[lV x A c D d] w fun e w' => e = .returned (.int .i64 (layE x)) ∧ Below w.heap.size w w' := by
  have b1 := (Below.refl w.heap.size w).alloc (Nat.le_refl _) (lO x A c D d)
  have HX := hide (heap_alloc_new w (lO x A c D d))
  have HI := hide (h.keep b1)
  have B1 := hide b1
  clear b1 h
  by_cases hn : 24 < x.nodes.length
  · have HR := hide (layE_2 (x := x) (Or.inl hn))
    have hni : (24 : Int) < (x.nodes.length : Int) := by omega
    go_enter Tryz.func13, Tryz.ntmps13
    go_wp2
    go_ret
    exact ⟨ret_int (unhide HR).symm, unhide B1⟩
  · by_cases hd : 24 < x.devs.length
    · have HR := hide (layE_2 (x := x) (Or.inr hd))
      have hni : ¬ (24 : Int) < (x.nodes.length : Int) := by omega
      have hdi : (24 : Int) < (x.devs.length : Int) := by omega
      go_enter Tryz.func13, Tryz.ntmps13
      go_wp2
      go_ret
      exact ⟨ret_int (unhide HR).symm, unhide B1⟩
    · have hni : ¬ (24 : Int) < (x.nodes.length : Int) := by omega
      have hdi : ¬ (24 : Int) < (x.devs.length : Int) := by omega
      have HEn := hide fun e => @layE_n x hn hd e
      have HEd := hide fun h0 e => @layE_d x hn hd h0 e
      have HEm := hide (@layE_m x hn hd)
      have hN24 : x.nodes.length ≤ 24 := by omega
      have hD24 : x.devs.length ≤ 24 := by omega
      obtain ⟨W1, hW1⟩ : ∃ W1 : World, w.alloc (lO x A c D d) = W1 := ⟨_, rfl⟩
      rw [hW1] at HX HI B1
      have hbw1 : b < W1.heap.size := by have := (unhide B1).size; omega
      have l0 : W1.cell? ⟨w.heap.size, 0, none⟩ = some (.slice A x.nodes.length c) := by rw [Lib.cell_of_heap (unhide HX)]; rfl
      have l1 : W1.cell? ⟨w.heap.size, 1, none⟩ = some (.slice D x.devs.length d) := by rw [Lib.cell_of_heap (unhide HX)]; rfl
      clear hn hd
      go_enter Tryz.func13, Tryz.ntmps13
      go_wp2
      clear l0 l1
      go_loopw [3, 4] (fun ev iv wr => ∃ i m : Nat, i ≤ x.nodes.length ∧ m ≤ i ∧ iv = .int .i64 i ∧ ev = .int .i64 m ∧ Hid ((m = 0) ↔ ∀ j, j < i → isEn (x.nodes.getD j nd0) = false) ∧ Hid (∀ j, j < i → ndsF x.nodes j = 0) ∧ Hid (Below W1.heap.size W1 wr)) (fun _ iv _ => x.nodes.length - (intOf iv).toNat)
      case atStart => exact ⟨0, 0, Nat.zero_le _, Nat.le_refl _, rfl, rfl, Lib.hid ⟨fun _ j hj => absurd hj (Nat.not_lt_zero _), fun _ => rfl⟩, Lib.hid fun j hj => absurd hj (Nat.not_lt_zero _), Lib.hid (Below.refl _ _)⟩
      case round =>
        obtain ⟨i, m, hi, hmi, rfl, rfl, hent, hall, hb⟩ := hrel
        obtain ⟨wo, rfl⟩ : ∃ wo : World, wo = wr := ⟨_, rfl⟩
        have HIo := hide ((unhide HI).keep hb.out)
        have HB := hide hb.out
        have HXo := hide (heap_below (unhide HX) hb.out)
        have l0 : wo.cell? ⟨w.heap.size, 0, none⟩ = some (.slice A x.nodes.length c) := by rw [Lib.cell_of_heap (unhide HXo)]; rfl
        have l1 : wo.cell? ⟨w.heap.size, 1, none⟩ = some (.slice D x.devs.length d) := by rw [Lib.cell_of_heap (unhide HXo)]; rfl
        by_cases hlt : i < x.nodes.length
        · have il : (i : Int) < (x.nodes.length : Int) := by omega
          have i0 : (0 : Int) ≤ (i : Int) := by omega
          have HC := hide (rnode_any b x i A D c d wo (unhide HIo) hlt)
          have HRF := hide (show ndsF x.nodes i = ndE x.nodes.length i (x.nodes.getD i nd0) from rfl)
          have HHit := hide fun (e : Int) (h : ndsF x.nodes i = e) (h0 : e ≠ 0) => nodesE_e hlt hall.out h h0
          have HAl := hide fun h => upto_step (p := fun j => ndsF x.nodes j = 0) (k := i) hall.out h
          have HEy := hide (@ent_yes x.nodes i m)
          have HEo := hide (ent_no (i := i) hent.out)
          generalize ndE x.nodes.length i (x.nodes.getD i nd0) = r at *
          clear hent hall hb
          by_cases hr : r = 0
          · have hr' : (r != 0) = false := by rw [bne_eq_false_iff_eq]; exact hr
            have HA2 := hide (unhide HAl ((unhide HRF).trans hr))
            have HKd := hide (show isEn (x.nodes.getD i nd0) = ((x.nodes.getD i nd0).kind == 1) from rfl)
            have hm24 : (m : Int) ≤ 24 := by omega
            clear hr
            go_wp2_with fail
            refine (unhide HC).mono ?_
            rintro e w3 ⟨rfl, hb3⟩
            have HB3 := hide (onward (unhide HB) hb3)
            obtain ⟨g, off, rfl, _, hcl⟩ := ((unhide HIo).nds.keep hb3) (by omega)
            obtain ⟨-, q1, -, -, -⟩ := hcl i hlt
            have k0 : w3.cell? ⟨w.heap.size, 0, none⟩ = some (.slice (some ⟨g, off, none⟩) x.nodes.length c) := by rw [Lib.cell_of_heap (heap_below (unhide HXo) hb3)]; rfl
            clear hcl hb3 l0 l1 HHit HRF HC HAl
            generalize x.nodes.getD i nd0 = nd at *
            cases hk1 : (nd.kind == 1)
            · have HE2 := hide (unhide HEo (by rw [unhide HKd]; exact hk1))
              go_wp2
              go_roundw
              case rel => exact ⟨i + 1, m, by omega, by omega, by go_num, rfl, Lib.hid (unhide HE2), Lib.hid (unhide HA2), Lib.hid (unhide HB3)⟩
              case measure => simp [intOf]; omega
            · have HE2 := hide (unhide HEy (by rw [unhide HKd]; exact hk1))
              go_wp2
              go_roundw
              case rel => exact ⟨i + 1, m + 1, by omega, by omega, by go_num, by go_num, Lib.hid (unhide HE2), Lib.hid (unhide HA2), Lib.hid (unhide HB3)⟩
              case measure => simp [intOf]; omega
          · have hr' : (r != 0) = true := by rw [bne_iff_ne]; exact hr
            have HR := hide (unhide HEn r (unhide HHit r (unhide HRF) hr) hr)
            clear hr
            go_wp2_with fail
            refine (unhide HC).mono ?_
            rintro e w3 ⟨rfl, hb3⟩
            have HB3 := hide (onward (unhide HB) hb3)
            clear hb3 l0 l1
            go_wp2
            go_ret
            exact ⟨ret_int (unhide HR).symm, onward (unhide B1) (unhide HB3)⟩
        · obtain rfl : i = x.nodes.length := by omega
          have il : ¬ ((x.nodes.length : Int) < (x.nodes.length : Int)) := by omega
          have HNd := hide (nds_all hall.out)
          have HLn := hide (lens_of (unhide HNd))
          have HXg := hide (exg_of (unhide HNd))
          have HEnt := hide hent.out
          have HT := hide (rtotal_any b x A D c d wo (by omega) (unhide HLn) (unhide HIo).nds)
          clear hent hall hb
          go_wp2_with fail
          refine (unhide HT).mono ?_
          rintro e w2 ⟨rfl, hb2⟩
          have HB2 := hide (onward (unhide HB) hb2)
          clear hb2 l0 l1 HIo HXo HB
          by_cases h80 : 80 < winN x.nodes
          · have HR := hide (unhide HEn 2 (nodesE_2 (unhide HNd) h80) (by decide))
            go_wp2
            go_ret
            exact ⟨ret_int (unhide HR).symm, onward (unhide B1) (unhide HB2)⟩
          · have HN5 := hide fun h => unhide HEn 5 (nodesE_5 (unhide HNd) h80 h) (by decide)
            have HN7 := hide fun h h2 => unhide HEn 7 (nodesE_7 (unhide HNd) h80 h h2) (by decide)
            have HNo := hide fun h h2 => nodesE_o (unhide HNd) h80 h h2
            go_wp2
            clear h80
            go_loopw [6] (fun iv wr => ∃ i : Nat, i ≤ x.nodes.length ∧ iv = .int .i64 i ∧ Hid (∀ j, j < i → findI x.nodes (x.nodes.getD j nd0).name = j) ∧ Hid (Below W1.heap.size W1 wr)) (fun iv _ => x.nodes.length - (intOf iv).toNat)
            case atStart => exact ⟨0, Nat.zero_le _, rfl, Lib.hid fun j hj => absurd hj (Nat.not_lt_zero _), Lib.hid (unhide HB2)⟩
            case round =>
              obtain ⟨i, hi, rfl, hal, hb⟩ := hrel
              obtain ⟨wo, rfl⟩ : ∃ wo : World, wo = wr := ⟨_, rfl⟩
              have HIo := hide ((unhide HI).keep hb.out)
              have HB := hide hb.out
              have HXo := hide (heap_below (unhide HX) hb.out)
              have l0 : wo.cell? ⟨w.heap.size, 0, none⟩ = some (.slice A x.nodes.length c) := by rw [Lib.cell_of_heap (unhide HXo)]; rfl
              have l1 : wo.cell? ⟨w.heap.size, 1, none⟩ = some (.slice D x.devs.length d) := by rw [Lib.cell_of_heap (unhide HXo)]; rfl
              by_cases hlt : i < x.nodes.length
              · have il : (i : Int) < (x.nodes.length : Int) := by omega
                have i0 : (0 : Int) ≤ (i : Int) := by omega
                have HFd := hide fun (t : After wo) => rfind_any b x (x.nodes.getD i nd0).name A D c d t.to (by omega) ((unhide HIo).nds.keep t.is)
                have HP := hide fun h => upto_step (p := fun j => findI x.nodes (x.nodes.getD j nd0).name = j) (k := i) hal.out h
                have HD5 := hide fun h => unhide HN5 (difB_at hlt h)
                obtain ⟨g, off, rfl, _, hcl⟩ := (unhide HIo).nds (by omega)
                obtain ⟨q0, -, -, -, -⟩ := hcl i hlt
                generalize x.nodes.getD i nd0 = nd at *
                generalize findI x.nodes nd.name = v at *
                have t0 := fun t : After wo => After.cell l0 t
                have t1 := fun t : After wo => After.cell l1 t
                have t2 := fun t : After wo => After.cell q0 t
                clear hcl hal hb
                cases hv : (v != (i : Int))
                all_goals
                  go_wp2_with fail
                  refine wp_region_after (by kernel_rfl) (by kernel_rfl) ?_
                  repeat (go_big_quiet_step ((go_at_call 20; with_reducible exact After.call (unhide HFd _))))
                  refine wpQuiet_nil ?_
                  rintro _ ⟨t, rfl⟩
                  have HBt := hide (onward (unhide HB) t.is)
                  clear t0 t1 t2
                  go_wp2
                  first
                    | (go_ret; exact ⟨ret_int (unhide HD5 (by rw [bne_iff_ne] at hv; exact hv)).symm, onward (unhide B1) (unhide HBt)⟩)
                    | (go_roundw
                       case rel => exact ⟨i + 1, by omega, by go_num, Lib.hid (unhide HP (by rw [bne_eq_false_iff_eq] at hv; exact hv)), Lib.hid (unhide HBt)⟩
                       case measure => simp [intOf]; omega)
              · obtain rfl : i = x.nodes.length := by omega
                have il : ¬ ((x.nodes.length : Int) < (x.nodes.length : Int)) := by omega
                have HDf := hide (difB_ok hal.out)
                have HZo := hide (rzoned_any b x A D c d wo (unhide HIo) (unhide HXg))
                clear hal hb
                go_wp2_with fail
                refine (unhide HZo).mono ?_
                rintro e w4 ⟨rfl, hb4⟩
                have HB4 := hide (onward (unhide HB) hb4)
                have HX4 := hide (heap_below (unhide HXo) hb4)
                have HI4 := hide ((unhide HIo).keep hb4)
                clear hb4 l0 l1 HIo HXo HB HB2
                cases hzo : zonB x.nodes
                · have HR := hide (unhide HN7 (unhide HDf) hzo)
                  go_wp2
                  go_ret
                  exact ⟨ret_int (unhide HR).symm, onward (unhide B1) (unhide HB4)⟩
                · have HOr := hide (unhide HNo (unhide HDf) hzo)
                  have k0 : w4.cell? ⟨w.heap.size, 0, none⟩ = some (.slice A x.nodes.length c) := by rw [Lib.cell_of_heap (unhide HX4)]; rfl
                  have k1 : w4.cell? ⟨w.heap.size, 1, none⟩ = some (.slice D x.devs.length d) := by rw [Lib.cell_of_heap (unhide HX4)]; rfl
                  have hb0 : Below w4.heap.size w4 w4.drew := (Below.refl _ _).drew
                  have hw4 : b < w4.heap.size := by have := (unhide HB4).size; omega
                  have hs0 := kept hb0 k0
                  have hs1 := kept hb0 k1
                  go_wp2_with fail
                  go_region_held3 (fun Z => Below w4.heap.size w4 Z ∧ Z.cell? ⟨w.heap.size, 0, none⟩ = some (.slice A x.nodes.length c) ∧ Z.cell? ⟨w.heap.size, 1, none⟩ = some (.slice D x.devs.length d))
                    (first | exact ⟨hb0, hs0, hs1⟩ | exact ro_keep (by assumption) (by assumption))
                    (first | (go_at_call 40; refine (rorder_any b x A D c d _ ((unhide HI4).keep (And.left (by assumption))) (Nat.lt_of_lt_of_le hw4 (Below.size (And.left (by assumption)))) (by omega)).mono ?_; rintro e w5 ⟨v5, rfl, ho5, hb5⟩; obtain ⟨P5, c5, rfl⟩ := own_form ho5))
                  rename_i hH
                  have HB5 := hide (onward (unhide HB4) hH.1)
                  clear hH ho5 hb5 k0 k1 hs0 hs1 hb0
                  by_cases h9 : ((ordF x.nodes).length : Int) < (x.nodes.length : Int)
                  · have HR := hide (unhide HEn 9 (by rw [unhide HOr, if_pos (by omega)]) (by decide))
                    go_wp2
                    go_ret
                    exact ⟨ret_int (unhide HR).symm, onward (unhide B1) (unhide HB5)⟩
                  · have HN0 := hide (show nodesE x.nodes = 0 from by rw [unhide HOr, if_neg (by omega)])
                    have HEd2 := hide (unhide HEd (unhide HN0))
                    have HEm2 := hide (unhide HEm (unhide HN0))
                    go_wp2
                    clear h9
                    go_loopw [7] (fun iv wr => ∃ i : Nat, i ≤ x.devs.length ∧ iv = .int .i64 i ∧ Hid (∀ j, j < i → dvsF x.nodes x.devs j = 0) ∧ Hid (Below W1.heap.size W1 wr)) (fun iv _ => x.devs.length - (intOf iv).toNat)
                    case atStart => exact ⟨0, Nat.zero_le _, rfl, Lib.hid fun j hj => absurd hj (Nat.not_lt_zero _), Lib.hid (unhide HB5)⟩
                    case round =>
                      obtain ⟨i, hi, rfl, hal, hb⟩ := hrel
                      obtain ⟨wo, rfl⟩ : ∃ wo : World, wo = wr := ⟨_, rfl⟩
                      have HIo := hide ((unhide HI).keep hb.out)
                      have HB := hide hb.out
                      have HXo := hide (heap_below (unhide HX) hb.out)
                      have l0 : wo.cell? ⟨w.heap.size, 0, none⟩ = some (.slice A x.nodes.length c) := by rw [Lib.cell_of_heap (unhide HXo)]; rfl
                      have l1 : wo.cell? ⟨w.heap.size, 1, none⟩ = some (.slice D x.devs.length d) := by rw [Lib.cell_of_heap (unhide HXo)]; rfl
                      by_cases hlt : i < x.devs.length
                      · have il : (i : Int) < (x.devs.length : Int) := by omega
                        have i0 : (0 : Int) ≤ (i : Int) := by omega
                        obtain ⟨g, off, rfl, _, hcl⟩ := (unhide HIo).dvs (by omega)
                        obtain ⟨r0, r1, r2⟩ := hcl i hlt
                        have HP := hide fun h => upto_step (p := fun j => dvsF x.nodes x.devs j = 0) (k := i) hal.out h
                        have HHt := hide fun (e : Int) (h : dvsF x.nodes x.devs i = e) (h0 : e ≠ 0) => unhide HEd2 e (dvsE_e hlt hal.out h h0) h0
                        have HDf := hide (show dvsF x.nodes x.devs i = dvE x.nodes (x.devs.getD i dv0) from rfl)
                        generalize x.devs.getD i dv0 = dv at *
                        have b2 := (Below.refl wo.heap.size wo).alloc (Nat.le_refl _) (dvO dv)
                        obtain ⟨W3, hW3⟩ : ∃ W3 : World, wo.alloc (dvO dv) = W3 := ⟨_, rfl⟩
                        have hbx : W3.heap[wo.heap.size]? = some (dvO dv) := by rw [← hW3]; exact heap_alloc_new wo (dvO dv)
                        rw [hW3] at b2
                        have d0 : W3.cell? ⟨wo.heap.size, 0, none⟩ = some (.int .i64 dv.kind) := by rw [Lib.cell_of_heap hbx]; rfl
                        have d1 : W3.cell? ⟨wo.heap.size, 1, none⟩ = some (.int .i64 dv.node) := by rw [Lib.cell_of_heap hbx]; rfl
                        have d2 : W3.cell? ⟨wo.heap.size, 2, none⟩ = some (.int .i64 dv.win) := by rw [Lib.cell_of_heap hbx]; rfl
                        have k0 := kept b2 l0
                        have HB3 := hide (onward hb.out b2)
                        have HI3 := hide ((unhide HIo).keep b2)
                        have HK := hide (show wIn dv.kind 1 2 = !((dv.kind != 1) && (dv.kind != 2)) from by
                          rw [Bool.eq_iff_iff, wIn_iff]; simp; omega)
                        have H4 := hide (@dvE_4 x.nodes dv)
                        have HWn := hide (@dvE_w x.nodes dv)
                        have HHw := hide (show hasW x.nodes dv = (wIn dv.node 0 ((x.nodes.length : Int) - 1) && wIn dv.win 0 ((x.nodes.getD dv.node.toNat nd0).len - 1)) from rfl)
                        have hsub : IntKind.i64.wrap ((x.nodes.length : Int) - 1) = (x.nodes.length : Int) - 1 := IntWalk.i64_in _ (by omega)
                        clear hcl hal hb b2 hbx
                        cases hq1 : (dv.kind != 1) <;> cases hq2 : (dv.kind != 2)
                        all_goals rw [hq1, hq2] at HK
                        case' true.true =>
                          have HR := hide (unhide HHt 4 ((unhide HDf).trans (unhide H4 (unhide HK))) (by decide))
                          go_wp2
                          go_ret
                          exact ⟨ret_int (unhide HR).symm, onward (unhide B1) (unhide HB3)⟩
                        all_goals
                          have HKt := hide (show wIn dv.kind 1 2 = true from unhide HK)
                          cases hw1 : wIn dv.node 0 ((x.nodes.length : Int) - 1)
                          · have HIa := hide fun W => rin_any dv.node 0 ((x.nodes.length : Int) - 1) W
                            rw [hw1] at HIa
                            have HR := hide (unhide HHt 1 ((unhide HDf).trans (unhide HWn (unhide HKt) (b := false) (by rw [unhide HHw, hw1]; rfl))) (by decide))
                            go_wp2_with fail
                            go_quiet (first | (go_at_call 41; with_reducible exact Calls.quiet_of_same ((unhide HIa _).mono fun e w' h => ⟨h.1, h.2.symm⟩)))
                            go_wp2
                            go_ret
                            exact ⟨ret_int (unhide HR).symm, draws (onward (unhide B1) (unhide HB3)) _⟩
                          · have hwi := wIn_iff.1 hw1
                            have hnl : dv.node.toNat < x.nodes.length := by omega
                            obtain ⟨g2, off2, rfl, _, hcl2⟩ := (unhide HI3).nds (by omega)
                            obtain ⟨-, -, q2, -, -⟩ := hcl2 dv.node.toNat hnl
                            have hl8 := unhide HLn dv.node.toNat hnl
                            have HHw2 := hide (show hasW x.nodes dv = wIn dv.win 0 ((x.nodes.getD dv.node.toNat nd0).len - 1) from by rw [unhide HHw, hw1, Bool.true_and])
                            have HIa := hide fun W => rin_any dv.node 0 ((x.nodes.length : Int) - 1) W
                            rw [hw1] at HIa
                            generalize (x.nodes.getD dv.node.toNat nd0).len = ln at *
                            have hsu2 : IntKind.i64.wrap (ln - 1) = ln - 1 := IntWalk.i64_in _ (by omega)
                            have HIb := hide fun W => rin_any dv.win 0 (ln - 1) W
                            have n0 : (0 : Int) ≤ dv.node := hwi.1
                            have n1 : dv.node < (x.nodes.length : Int) := by omega
                            clear hcl2 hwi hl8
                            cases hw2 : wIn dv.win 0 (ln - 1)
                            all_goals
                              rw [hw2] at HIb HHw2
                              go_wp2_with fail
                              go_quiet (first | (go_at_call 41; first | (with_reducible exact Calls.quiet_of_same ((unhide HIa _).mono fun e w' h => ⟨h.1, h.2.symm⟩)) | (with_reducible exact Calls.quiet_of_same ((unhide HIb _).mono fun e w' h => ⟨h.1, h.2.symm⟩))))
                              go_wp2
                              first
                                | (go_ret; exact ⟨ret_int (unhide HHt 1 ((unhide HDf).trans (unhide HWn (unhide HKt) (b := false) (unhide HHw2))) (by decide)).symm, draws (onward (unhide B1) (unhide HB3)) _⟩)
                                | (go_roundw
                                   case rel => exact ⟨i + 1, by omega, by go_num, Lib.hid (unhide HP ((unhide HDf).trans (unhide HWn (unhide HKt) (b := true) (unhide HHw2)))), Lib.hid (draws (unhide HB3) _)⟩
                                   case measure => simp [intOf]; omega)
                      · obtain rfl : i = x.devs.length := by omega
                        have il : ¬ ((x.devs.length : Int) < (x.devs.length : Int)) := by omega
                        have HDv := hide (dvsE_d hal.out)
                        clear hal hb HB5
                        go_wp2
                        go_loopw [9] (fun iv wr => ∃ i : Nat, i ≤ x.devs.length ∧ iv = .int .i64 i ∧ Hid (∀ j, j < i → ∀ k, k < j → sameD (x.devs.getD j dv0) (x.devs.getD k dv0) = false) ∧ Hid (Below W1.heap.size W1 wr)) (fun iv _ => x.devs.length - (intOf iv).toNat)
                        case atStart => exact ⟨0, Nat.zero_le _, rfl, Lib.hid fun j hj => absurd hj (Nat.not_lt_zero _), Lib.hid (unhide HB)⟩
                        case round =>
                          obtain ⟨i, hi, rfl, hal, hb⟩ := hrel
                          obtain ⟨wp, rfl⟩ : ∃ wp : World, wp = wr := ⟨_, rfl⟩
                          have HBp := hide hb.out
                          clear l0 l1
                          have l1 : wp.cell? ⟨w.heap.size, 1, none⟩ = some (.slice D x.devs.length d) := by rw [Lib.cell_of_heap (heap_below (unhide HX) hb.out)]; rfl
                          by_cases hlt : i < x.devs.length
                          · have il2 : (i : Int) < (x.devs.length : Int) := by omega
                            have i0 : (0 : Int) ≤ (i : Int) := by omega
                            have HP := hide fun (h : ∀ k, k < i → sameD (x.devs.getD i dv0) (x.devs.getD k dv0) = false) => upto_step (p := fun j => ∀ k, k < j → sameD (x.devs.getD j dv0) (x.devs.getD k dv0) = false) (k := i) hal.out h
                            have HD5 := hide fun (k : Nat) (hk : k < i) (h : sameD (x.devs.getD i dv0) (x.devs.getD k dv0) = true) => unhide HEd2 5 ((unhide HDv).trans (by rw [difD_at hlt hk h]; rfl)) (by decide)
                            clear hal hb
                            go_wp2
                            go_loopw [10] (fun kv wr => ∃ k : Nat, k ≤ i ∧ kv = .int .i64 k ∧ Hid (∀ k', k' < k → sameD (x.devs.getD i dv0) (x.devs.getD k' dv0) = false) ∧ Hid (Below W1.heap.size W1 wr)) (fun kv _ => i - (intOf kv).toNat)
                            case atStart => exact ⟨0, Nat.zero_le _, rfl, Lib.hid fun j hj => absurd hj (Nat.not_lt_zero _), Lib.hid (unhide HBp)⟩
                            case round =>
                              obtain ⟨k, hk, rfl, hal2, hb2⟩ := hrel
                              obtain ⟨wq, rfl⟩ : ∃ wq : World, wq = wr := ⟨_, rfl⟩
                              have HBq := hide hb2.out
                              clear l1
                              have l1 : wq.cell? ⟨w.heap.size, 1, none⟩ = some (.slice D x.devs.length d) := by rw [Lib.cell_of_heap (heap_below (unhide HX) hb2.out)]; rfl
                              by_cases hlt2 : k < i
                              · have kl : (k : Int) < (i : Int) := by omega
                                have kl2 : (k : Int) < (x.devs.length : Int) := by omega
                                have k0 : (0 : Int) ≤ (k : Int) := by omega
                                obtain ⟨g, off, rfl, _, hcl⟩ := ((unhide HI).keep hb2.out).dvs (by omega)
                                obtain ⟨r0, r1, r2⟩ := hcl i hlt
                                obtain ⟨u0, u1, u2⟩ := hcl k (by omega)
                                have HP2 := hide fun h => upto_step (p := fun j => sameD (x.devs.getD i dv0) (x.devs.getD j dv0) = false) (k := k) hal2.out h
                                have HD6 := hide (unhide HD5 k hlt2)
                                generalize x.devs.getD i dv0 = X at *
                                generalize x.devs.getD k dv0 = Y at *
                                have hop := dev_eql X Y
                                clear hcl hal2 hb2
                                cases hxy : dvEq X Y
                                all_goals
                                  have HXY := hide ((dvEq_same X Y).symm.trans hxy)
                                  go_wp2_with fail
                                  go_quiet (fail)
                                  go_wp2
                                  first
                                    | (go_ret; exact ⟨ret_int (unhide HD6 (unhide HXY)).symm, draws (onward (unhide B1) (unhide HBq)) _⟩)
                                    | (go_roundw
                                       case rel => exact ⟨k + 1, by omega, by go_num, Lib.hid (unhide HP2 (unhide HXY)), Lib.hid (draws (unhide HBq) _)⟩
                                       case measure => simp [intOf]; omega)
                              · obtain rfl : k = i := by omega
                                have kl : ¬ ((k : Int) < (k : Int)) := by omega
                                have HP3 := hide (unhide HP hal2.out)
                                clear hal2 hb2
                                go_wp2
                                go_roundw
                                case rel => exact ⟨k + 1, by omega, by go_num, Lib.hid (unhide HP3), Lib.hid (unhide HBq)⟩
                                case measure => simp [intOf]; omega
                          · obtain rfl : i = x.devs.length := by omega
                            have il2 : ¬ ((x.devs.length : Int) < (x.devs.length : Int)) := by omega
                            have HDz := hide (unhide HEm2 ((unhide HDv).trans (by rw [difD_ok hal.out]; rfl)))
                            clear hal hb
                            by_cases hm0 : m = 0
                            · have HR := hide (show layE x = 6 from by rw [unhide HDz, any_no ((unhide HEnt).1 hm0)]; rfl)
                              have hm0' : ((m : Int) == 0) = true := by rw [beq_iff_eq]; omega
                              clear hm0
                              go_wp2
                              go_ret
                              exact ⟨ret_int (unhide HR).symm, onward (unhide B1) (unhide HBp)⟩
                            · have HR := hide (show layE x = 0 from by rw [unhide HDz, any_yes (fun h => hm0 ((unhide HEnt).2 h))]; rfl)
                              have hm0' : ((m : Int) == 0) = false := by rw [beq_eq_false_iff_ne]; omega
                              clear hm0
                              go_wp2
                              go_ret
                              exact ⟨ret_int (unhide HR).symm, onward (unhide B1) (unhide HBp)⟩
end Go.Proofs.YtfddpdognelhmaaGreatDoor
