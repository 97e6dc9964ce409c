/-
  Contract of the document's own check of zones.
-/
import Derived.Test.YtfddpdognelhmaaGreatDoorLayRa
import Derived.Deep.RegionHeld3
namespace Go.Proofs.YtfddpdognelhmaaGreatDoor
open Go.RowKit

/-- What the check of zones asks of a kind. -/
theorem zkinds (x : Nd) : ((x.kind == 1) = true ∧ (x.kind == 3) = false ∧ (x.kind == 6) = false ∧ (x.kind == 7) = false ∧ (x.kind == 8) = false ∧ fitZ x = !(x.zone != 0)) ∨
    ((x.kind == 1) = false ∧ (x.kind == 3) = true ∧ (x.kind == 6) = false ∧ (x.kind == 7) = false ∧ (x.kind == 8) = false ∧ fitZ x = !(x.zone != 0)) ∨
    ((x.kind == 1) = false ∧ (x.kind == 3) = false ∧ (x.kind == 6) = true ∧ (x.kind == 7) = false ∧ (x.kind == 8) = false ∧ fitZ x = !(x.zone != 0)) ∨
    ((x.kind == 1) = false ∧ (x.kind == 3) = false ∧ (x.kind == 6) = false ∧ (x.kind == 7) = true ∧ (x.kind == 8) = false ∧ fitZ x = !(x.zone != 1)) ∨
    ((x.kind == 1) = false ∧ (x.kind == 3) = false ∧ (x.kind == 6) = false ∧ (x.kind == 7) = false ∧ (x.kind == 8) = true ∧ fitZ x = !(x.zone != 1)) ∨
    ((x.kind == 1) = false ∧ (x.kind == 3) = false ∧ (x.kind == 6) = false ∧ (x.kind == 7) = false ∧ (x.kind == 8) = false ∧ fitZ x = true) := by
  have e0 : decide (x.zone = 0) = !(x.zone != 0) := by cases h : (x.zone != 0) <;> simp_all
  have e1 : decide (x.zone = 1) = !(x.zone != 1) := by cases h : (x.zone != 1) <;> simp_all
  unfold fitZ
  by_cases h1 : x.kind = 1
  · left; rw [if_pos (.inl h1), e0]; simp [h1]
  · by_cases h3 : x.kind = 3
    · right; left; rw [if_pos (.inr (.inl h3)), e0]; simp [h3]
    · by_cases h6 : x.kind = 6
      · right; right; left; rw [if_pos (.inr (.inr h6)), e0]; simp [h6]
      · rw [if_neg (by omega)]
        by_cases h7 : x.kind = 7
        · right; right; right; left; rw [if_pos (.inl h7), e1]; simp [h7]
        · by_cases h8 : x.kind = 8
          · right; right; right; right; left; rw [if_pos (.inr h8), e1]; simp [h8]
          · right; right; right; right; right; rw [if_neg (by omega)]; simp [h1, h3, h6, h7, h8]
theorem zonB_no {l : List Nd} {i : Nat} (hi : i < l.length) (h : zoN l (l.getD i nd0) = false) : zonB l = false := by
  unfold zonB
  rw [List.all_eq_false]
  exact ⟨l[i], List.getElem_mem _, by rw [at_k hi] at h; rw [h]; exact Bool.false_ne_true⟩
theorem zonB_yes {l : List Nd} (h : ∀ i, i < l.length → zoN l (l.getD i nd0) = true) : zonB l = true := by
  unfold zonB
  rw [List.all_eq_true]
  intro x hx
  obtain ⟨i, hi, rfl⟩ := List.getElem_of_mem hx
  have := h i hi
  rwa [at_k hi] at this

set_option maxHeartbeats 8000000 in
set_option maxRecDepth 100000 in
theorem rzoned_any (b : Nat) (x : Lay) (A D : Option Addr) (c d : Nat) (w : World) (h : LayIn b w x A D) (hxg : ExG x.nodes) :
    Calls Tryz.prog 39 #[lV x A c D d] w fun e w' => e = .returned (.bool (zonB x.nodes)) ∧ Below w.heap.size w w' := by
  have b1 := (Below.refl w.heap.size w).alloc (Nat.le_refl _) (lO x A c D d)
  have B1 := hide b1
  have HX := hide (heap_alloc_new w (lO x A c D d))
  have HI := hide (h.nds.keep b1)
  have hnn := h.nn
  have HXg := hide hxg
  clear b1 h hxg
  go_enter Tryz.func39, Tryz.ntmps39
  go_wp2
  generalize w.alloc (lO x A c D d) = W1 at *
  go_loopw [3] (fun iv wr => ∃ i : Nat, i ≤ x.nodes.length ∧ iv = .int .i64 i ∧ Hid (∀ j, j < i → zoN x.nodes (x.nodes.getD j nd0) = true) ∧ Hid (Below W1.heap.size W1 wr)) (fun iv _ => x.nodes.length - (intOf iv).toNat)
  case atStart => exact ⟨0, Nat.zero_le _, rfl, Lib.hid fun j hj => absurd hj (Nat.not_lt_zero _), Lib.hid (Below.refl _ _)⟩
  case round =>
    obtain ⟨i, hi, rfl, hal, hb⟩ := hrel
    obtain ⟨wo, rfl⟩ : ∃ wo : World, wo = wr := ⟨_, rfl⟩
    have HXo := hide (heap_below (unhide HX) hb.out)
    have l0 : wo.cell? ⟨w.heap.size, 0, none⟩ = some (.slice A x.nodes.length c) := by rw [Lib.cell_of_heap (unhide HXo)]; rfl
    have HB := hide hb.out
    by_cases hlt : i < x.nodes.length
    · obtain ⟨g, off, rfl, hgb, hcl⟩ := ((unhide HI).keep hb.out) (by omega)
      obtain ⟨q0, q1, q2, q3, P, cp, q4, hld, hn⟩ := hcl i hlt
      have il : (i : Int) < (x.nodes.length : Int) := by omega
      have i0 : (0 : Int) ≤ (i : Int) := by omega
      have HAl := hide (fun h => upto_step (p := fun j => zoN x.nodes (x.nodes.getD j nd0) = true) (k := i) hal.out h)
      have HNo := hide fun h => zonB_no (l := x.nodes) hlt h
      have HEx := hide fun k => @zoN_no2 x.nodes (x.nodes.getD i nd0) k
      have HNf := hide (@zoN_no1 x.nodes (x.nodes.getD i nd0))
      have HYe := hide (@zoN_yes x.nodes (x.nodes.getD i nd0))
      have HRg := hide ((unhide HXg).rng i hlt)
      have HLe2 := hide ((unhide HXg).len i hlt)
      have HZk := hide (zkinds (x.nodes.getD i nd0))
      have HOk := hide fun k => (show zoOk x.nodes (x.nodes.getD i nd0) k = (!isEn (atE x.nodes (x.nodes.getD i nd0) k) && decide ((atE x.nodes (x.nodes.getD i nd0) k).zone = zBeh (x.nodes.getD i nd0) k)) from rfl)
      have HAt := hide fun k => (show atE x.nodes (x.nodes.getD i nd0) k = x.nodes.getD ((x.nodes.getD i nd0).exits.getD k 0).toNat nd0 from rfl)
      generalize x.nodes.getD i nd0 = nd at *
      have b2 := (Below.refl wo.heap.size wo).alloc (Nat.le_refl _) (ndO nd P cp)
      obtain ⟨W2, hW2⟩ : ∃ W2 : World, wo.alloc (ndO nd P cp) = W2 := ⟨_, rfl⟩
      have HBx := hide (show W2.heap[wo.heap.size]? = some (ndO nd P cp) from by rw [← hW2]; exact heap_alloc_new wo (ndO nd P cp))
      rw [hW2] at b2
      have HXp := hide (heap_below (unhide HXo) b2)
      have HN := hide (hn.keep b2)
      have HI2 := hide (((unhide HI).keep hb.out).keep b2)
      have HB2 := hide (onward hb.out b2)
      obtain ⟨d0, d1, d2, d3, d4⟩ := nd_cells (unhide HBx)
      have hlw : wo.heap.size < W2.heap.size := (Array.getElem?_eq_some_iff.1 (unhide HBx)).1
      clear hcl hn hld hal hb b2
      rcases unhide HZk with ⟨p1, p3, p6, p7, p8, hf⟩ | ⟨p1, p3, p6, p7, p8, hf⟩ | ⟨p1, p3, p6, p7, p8, hf⟩ | ⟨p1, p3, p6, p7, p8, hf⟩ | ⟨p1, p3, p6, p7, p8, hf⟩ | ⟨p1, p3, p6, p7, p8, hf⟩
      all_goals first
        | (cases hz0 : (nd.zone != 0) <;> rw [hz0] at hf)
        | (cases hz1 : (nd.zone != 1) <;> rw [hz1] at hf)
        | skip
      all_goals
        have HF := hide hf
        clear hf
        go_wp2
        first
          | (go_ret; exact ⟨ret_bool (unhide HNo (unhide HNf (unhide HF))).symm, onward (unhide B1) (unhide HB2)⟩)
          | skip
      all_goals
        have HFt := hide (show fitZ nd = true from unhide HF)
        clear HF HNf HZk d0 d2 q0 q1 q2 q3 q4 l0
        go_loopw [7] (fun kv wr => ∃ k : Nat, k ≤ nd.exits.length ∧ kv = .int .i64 k ∧ Hid (∀ j, j < k → zoOk x.nodes nd j = true) ∧ Hid (Below W2.heap.size W2 wr)) (fun kv _ => nd.exits.length - (intOf kv).toNat)
        case atStart => exact ⟨0, Nat.zero_le _, rfl, Lib.hid fun j hj => absurd hj (Nat.not_lt_zero _), Lib.hid (Below.refl _ _)⟩
        case round =>
          obtain ⟨k, hk, rfl, hal, hb⟩ := hrel
          obtain ⟨wi, rfl⟩ : ∃ wi : World, wi = wr := ⟨_, rfl⟩
          have f1 := kept hb.out d1
          have f3 := kept hb.out d3
          have f4 := kept hb.out d4
          have l0 : wi.cell? ⟨w.heap.size, 0, none⟩ = some (.slice (some ⟨g, off, none⟩) x.nodes.length c) := by rw [Lib.cell_of_heap (heap_below (unhide HXp) hb.out)]; rfl
          have BO := hide (hb.out)
          by_cases hlt2 : k < nd.exits.length
          · obtain ⟨g', off', rfl, hgb', hc'⟩ := ((unhide HN).keep hb.out) (by omega)
            have e0 := hc' k hlt2
            have hr := unhide HRg (nd.exits.getD k 0) (by rw [at_k hlt2]; exact List.getElem_mem _)
            have kl : (k : Int) < (nd.exits.length : Int) := by omega
            have kz : (0 : Int) ≤ (k : Int) := by omega
            have kw : IntKind.i64.wrap ((k : Int) + 1) = (k : Int) + 1 := IntWalk.i64_in _ (by have := unhide HLe2; omega)
            have HP := hide (fun h => upto_step (p := fun j => zoOk x.nodes nd j = true) (k := k) hal.out h)
            have HQ := hide fun h => unhide HEx k hlt2 h
            have HO := hide (unhide HOk k)
            have HA2 := hide (unhide HAt k)
            generalize nd.exits.getD k 0 = t0 at *
            obtain ⟨t, rfl⟩ := Int.eq_ofNat_of_zero_le hr.1
            have htl : t < x.nodes.length := by omega
            have ht1 : (t : Int) < (x.nodes.length : Int) := by omega
            have ht0 : (0 : Int) ≤ (t : Int) := by omega
            obtain ⟨g2, off2, hg2, -, hcl2⟩ := ((unhide HI2).keep hb.out) (by omega)
            injection hg2 with hg2; injection hg2 with e1 e2
            subst e1; subst e2
            obtain ⟨r0, r1, r2, r3, P2, cp2, r4, -, -⟩ := hcl2 t htl
            rw [Int.toNat_natCast] at HA2
            have HO2 := hide (unhide HA2 ▸ unhide HO)
            generalize hzk : zoOk x.nodes nd k = zk at *
            clear hzk HA2 HO
            generalize x.nodes.getD t nd0 = y at *
            clear hc' hcl2 hr hal hb
            have ne1 : wi.heap.size ≠ w.heap.size := World.new_ne wi _ l0
            have ne2 : wi.heap.size ≠ wo.heap.size := World.new_ne wi _ f4
            have ne3 : wi.heap.size ≠ g' := World.new_ne wi _ e0
            have ne4 : wi.heap.size ≠ g := World.new_ne wi _ r0
            have bY := ((Below.refl wi.heap.size wi).alloc (Nat.le_refl _) (ndO y P2 cp2)).drew
            have HBy := hide (onward (unhide BO) bY)
            have HZb := hide (show zBeh nd (k : Int) = if ((nd.kind == 6) && ((k : Int) == 1)) = true then 1 else nd.zone from by unfold zBeh; by_cases a : nd.kind = 6 <;> by_cases b : (k : Int) = 1 <;> simp [a, b])
            have HDz := hide (fun v : Int => (show decide (y.zone = v) = !(y.zone != v) from by cases h : (y.zone != v) <;> simp_all))
            have HEn := hide (show isEn y = (y.kind == 1) from rfl)
            clear bY
            first
              | (have hp6 : (nd.kind == 6) = true := p6
                 clear hp6
                 cases hk1 : ((k : Int) == 1) <;> rw [p6, hk1] at HZb)
              | rw [p6] at HZb
            all_goals
              first
                | (have hv : zBeh nd (k : Int) = 1 := by rw [unhide HZb]; rfl
                   have HV := hide hv
                   clear hv
                   cases hy1 : (y.kind == 1) <;> cases hyz : (y.zone != 1))
                | (have hv : zBeh nd (k : Int) = nd.zone := by rw [unhide HZb]; rfl
                   have HV := hide hv
                   clear hv
                   cases hy1 : (y.kind == 1) <;> cases hyz : (y.zone != nd.zone))
            all_goals
              have HZ := hide (show zk = _ from by rw [unhide HO2, unhide HEn, unhide HV, unhide HDz, hyz, hy1])
              go_wp2_with fail
              go_region_held3 (fun W => W.cell? ⟨w.heap.size, 0, none⟩ = some (.slice (some ⟨g, off, none⟩) x.nodes.length c) ∧ W.cell? ⟨wo.heap.size, 4, none⟩ = some (.slice (some ⟨g', off', none⟩) nd.exits.length cp) ∧ W.cell? ⟨g', off' + k, none⟩ = some (.int .i64 (t : Int))
                  ∧ W.cell? ⟨g, off + t * 5, none⟩ = some (.string y.name) ∧ W.cell? ⟨g, off + t * 5 + 1, none⟩ = some (.int .i64 y.kind) ∧ W.cell? ⟨g, off + t * 5 + 2, none⟩ = some (.int .i64 y.len) ∧ W.cell? ⟨g, off + t * 5 + 3, none⟩ = some (.int .i64 y.zone) ∧ W.cell? ⟨g, off + t * 5 + 4, none⟩ = some (.slice P2 y.exits.length cp2)) (go_keep) (fail)
              all_goals
                rename_i hH
                clear hH
                have f1' := kept ((Below.refl wi.heap.size wi).alloc (Nat.le_refl _) (ndO y P2 cp2)).drew f1
                have f3' := kept ((Below.refl wi.heap.size wi).alloc (Nat.le_refl _) (ndO y P2 cp2)).drew f3
                go_wp2
                first
                  | (go_ret; exact ⟨ret_bool (unhide HNo (unhide HQ (by rw [unhide HZ]; rfl))).symm, onward (unhide B1) (onward (unhide HB2) (unhide HBy))⟩)
                  | (go_roundw
                     case rel => exact ⟨k + 1, by omega, by go_num, Lib.hid (unhide HP (by rw [unhide HZ]; rfl)), Lib.hid (unhide HBy)⟩
                     case measure => simp [intOf]; omega)
          · obtain rfl : k = nd.exits.length := by omega
            have kl : ¬ ((nd.exits.length : Int) < (nd.exits.length : Int)) := by omega
            have HE := hide (unhide HAl (unhide HYe (unhide HFt) hal.out))
            clear hal hb
            go_wp2
            go_roundw
            case rel => exact ⟨i + 1, by omega, by go_num, Lib.hid (unhide HE), Lib.hid (onward (unhide HB2) (unhide BO))⟩
            case measure => simp [intOf]; omega
    · obtain rfl : i = x.nodes.length := by omega
      have il : ¬ ((x.nodes.length : Int) < (x.nodes.length : Int)) := by omega
      have HE := hide (zonB_yes hal.out)
      clear hal hb
      go_wp2
      go_ret
      exact ⟨ret_bool (unhide HE).symm, onward (unhide B1) (unhide HB)⟩
end Go.Proofs.YtfddpdognelhmaaGreatDoor
