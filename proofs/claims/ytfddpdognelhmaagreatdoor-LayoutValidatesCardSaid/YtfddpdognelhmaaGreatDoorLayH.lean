/-
  Contracts of devices, Validate, Windows, Find, Order.
-/
import Derived.Test.YtfddpdognelhmaaGreatDoorNumR
import Derived.Test.YtfddpdognelhmaaGreatDoorLayE
import Derived.Laws.StructEq

/- LayH: Contracts of package layout: the devices; validateNodes, Validate, Windows, Find, Order. -/
namespace Go.Proofs.YtfddpdognelhmaaGreatDoor
open Go.RowKit

abbrev dvV (d : Dv) : Value := .agg #[.int .i64 d.kind, .int .i64 d.node, .int .i64 d.win]
abbrev dvO (d : Dv) : Obj := .cells #[.int .i64 d.kind, .int .i64 d.node, .int .i64 d.win] 57
def dvEq (g h : Dv) : Bool := (g.kind == h.kind) && ((g.node == h.node) && (g.win == h.win))
theorem dvEq_same (g h : Dv) : dvEq g h = sameD g h := rfl
theorem dev_eql (g h : Dv) (w : World) : (Go.binOp .eql 57 (dvV g) (dvV h)).run Tryz.prog w = .ok (.bool (dvEq g h)) w := by
  unfold dvEq
  cases h0 : (g.kind == h.kind)
  · go_simp
  · cases h1 : (g.node == h.node)
    · go_simp
    · cases h2 : (g.win == h.win)
      · go_simp
      · go_simp

def idxD (ds : List Dv) (x : Dv) : Int := if ds.any (sameD x) then (ds.findIdx (sameD x) : Int) else -1
theorem idxD_hit {l : List Dv} {x : Dv} {k : Nat} (hk : k < l.length) (h : ∀ i, i < k → sameD x (l.getD i dv0) = false) (h1 : sameD x (l.getD k dv0) = true) : idxD l x = k := by
  have e : l.findIdx (sameD x) = k := by
    rw [List.findIdx_eq hk]
    refine ⟨?_, fun j hj => ?_⟩
    · rw [at_k hk] at h1; exact h1
    · have := h j hj
      rwa [at_k (by omega)] at this
  have hc : l.any (sameD x) = true := List.any_eq_true.2 ⟨_, List.getElem_mem hk, by rw [at_k hk] at h1; exact h1⟩
  unfold idxD
  rw [hc, e]; rfl
theorem idxD_no {l : List Dv} {x : Dv} (h : ∀ i, i < l.length → sameD x (l.getD i dv0) = false) : idxD l x = -1 := by
  have hc : l.any (sameD x) = false := by
    rw [List.any_eq_false]
    intro y hy
    obtain ⟨i, hi, rfl⟩ := List.getElem_of_mem hy
    have := h i hi
    rw [at_k hi] at this
    rw [this]; exact Bool.false_ne_true
  unfold idxD
  rw [hc]; rfl
theorem sameD_self (x : Dv) : sameD x x = true := by unfold sameD; simp
theorem idxD_self {l : List Dv} {i : Nat} (hi : i < l.length) : decide (i ≤ l.findIdx (sameD (l.getD i dv0))) = decide ((i : Int) ≤ idxD l (l.getD i dv0)) := by
  have hc : l.any (sameD (l.getD i dv0)) = true := List.any_eq_true.2 ⟨l[i], List.getElem_mem hi, by rw [at_k hi]; exact sameD_self _⟩
  unfold idxD
  rw [hc, if_pos rfl]
  rw [Bool.eq_iff_iff, decide_eq_true_eq, decide_eq_true_eq]
  omega

set_option maxHeartbeats 2000000 in
theorem lidxd_any (b : Nat) (l : List Dv) (x : Dv) (A : Option Addr) (c : Nat) (w : World) (hz : l.length ≤ 1000000) (h : DvsIn b w A l) :
    Calls Tryz.prog 59 #[.slice A l.length c, dvV x] w fun e w' => e = .returned (.int .i64 (idxD l x)) ∧ Below w.heap.size w w' := by
  have b1 := (Below.refl w.heap.size w).alloc (Nat.le_refl _) (dvO x)
  have HH := hide (h.keep b1)
  have B1 := hide b1
  clear h b1
  go_enter Tryz.func59, Tryz.ntmps59
  go_wp2
  go_loopw [8] (fun i wr => ∃ k : Nat, k ≤ l.length ∧ i = .int .i64 k ∧ Hid (Below (w.alloc (dvO x)).heap.size (w.alloc (dvO x)) wr) ∧ Hid (∀ j, j < k → sameD x (l.getD j dv0) = false)) (fun i _ => l.length - (intOf i).toNat)
  case atStart => exact ⟨0, Nat.zero_le _, rfl, Lib.hid (Below.refl _ _), Lib.hid fun j hj => absurd hj (Nat.not_lt_zero _)⟩
  case round =>
    obtain ⟨k, hk, rfl, hb, hd⟩ := hrel
    obtain ⟨wo, rfl⟩ : ∃ wo : World, wo = wr := ⟨_, rfl⟩
    have HB := hide ((unhide B1).trans (hb.out.mono (unhide B1).size))
    by_cases hlt : k < l.length
    · obtain ⟨g, off, rfl, _, hc⟩ := ((unhide HH).keep hb.out) (by omega)
      obtain ⟨c0, c1, c2⟩ := hc k hlt
      clear hc
      have q0 : wo.cell? ⟨w.heap.size, 0, none⟩ = some (.int .i64 x.kind) := kept hb.out (by rw [Lib.cell_of_heap (heap_alloc_new w _)]; rfl)
      have q1 : wo.cell? ⟨w.heap.size, 1, none⟩ = some (.int .i64 x.node) := kept hb.out (by rw [Lib.cell_of_heap (heap_alloc_new w _)]; rfl)
      have q2 : wo.cell? ⟨w.heap.size, 2, none⟩ = some (.int .i64 x.win) := kept hb.out (by rw [Lib.cell_of_heap (heap_alloc_new w _)]; rfl)
      have HP := hide fun h => upto_step (p := fun j => sameD x (l.getD j dv0) = false) (k := k) hd.out h
      have HN := hide fun (h : sameD x (l.getD k dv0) = true) => idxD_hit hlt hd.out h
      generalize l.getD k dv0 = y at *
      have hop := dev_eql x y
      have kl : (k : Int) < (l.length : Int) := by omega
      have k0 : (0 : Int) ≤ (k : Int) := by omega
      cases hxy : dvEq x y with
      | true =>
        have HX := hide (show sameD x y = true from hxy)
        go_wp2_with fail
        go_quiet (fail)
        go_wp2
        go_ret
        exact ⟨ret_int (unhide HN (unhide HX)).symm, draws (unhide HB) _⟩
      | false =>
        have HX := hide (show sameD x y = false from hxy)
        go_wp2_with fail
        go_quiet (fail)
        go_wp2
        go_roundw
        case rel => exact ⟨k + 1, by omega, by go_num, Lib.hid (draws hb.out _), Lib.hid (unhide HP (unhide HX))⟩
        case measure => simp [intOf]; omega
    · have HE := hide (idxD_no (l := l) (x := x) fun j hj => hd.out j (by omega))
      have kl : ¬ (k : Int) < (l.length : Int) := by omega
      go_wp2
      go_ret
      exact ⟨ret_int (unhide HE).symm, unhide HB⟩

/-- A device watches a window of a node. -/
def hasW (l : List Nd) (d : Dv) : Bool := wIn d.node 0 ((l.length : Int) - 1) && wIn d.win 0 ((l.getD d.node.toNat nd0).len - 1)
set_option maxHeartbeats 2000000 in
set_option maxRecDepth 100000 in
theorem lhasw_any (b : Nat) (l : List Nd) (d : Dv) (A : Option Addr) (c : Nat) (w : World) (hz : l.length ≤ 1000000) (hl : ∀ k, k < l.length → 0 ≤ (l.getD k nd0).len ∧ (l.getD k nd0).len ≤ 8) (h : NdsIn b w A l) :
    Calls Tryz.prog 58 #[.slice A l.length c, dvV d] w fun e w' => e = .returned (.bool (hasW l d)) ∧ Below w.heap.size w w' := by
  have b1 := (Below.refl w.heap.size w).alloc (Nat.le_refl _) (dvO d)
  have HH := hide (h.keep b1)
  have B1 := hide b1
  have HL := hide hl
  clear h b1 hl
  cases hw : wIn d.node 0 ((l.length : Int) - 1) with
  | false =>
    have HE := hide (show hasW l d = false by unfold hasW; rw [hw]; rfl)
    have HC := hide fun W => lwithin_any d.node 0 ((l.length : Int) - 1) W
    rw [hw] at HC
    go_enter Tryz.func58, Tryz.ntmps58
    go_wp2_with fail
    go_quiet ((go_at_call 57; exact Calls.quiet_of_same ((unhide HC _).mono fun e w' h => ⟨h.1, h.2.symm⟩)))
    go_wp2
    go_ret
    exact ⟨ret_bool (unhide HE).symm, draws (unhide B1) _⟩
  | true =>
    have HC := hide fun W => lwithin_any d.node 0 ((l.length : Int) - 1) W
    rw [hw] at HC
    have hr := wIn_iff.1 hw
    obtain ⟨j, hj⟩ := Int.eq_ofNat_of_zero_le hr.1
    have hjl : j < l.length := by omega
    have HE := hide (show hasW l d = wIn d.win 0 ((l.getD j nd0).len - 1) by unfold hasW; rw [hw, hj]; rfl)
    obtain ⟨g, off, rfl, _, hc⟩ := (unhide HH) (by omega)
    obtain ⟨c0, c1, c2, c3, B, e, c4, -, -⟩ := hc j hjl
    have hlb := unhide HL j hjl
    clear hc hw hr
    obtain ⟨dk, dn, dw⟩ := d
    simp only [] at hj
    subst hj
    generalize l.getD j nd0 = x at *
    have HC2 := hide fun W => lwithin_any dw 0 (x.len - 1) W
    have jl : (j : Int) < (l.length : Int) := by omega
    have j0 : (0 : Int) ≤ (j : Int) := by omega
    have hs : IntKind.i64.wrap (x.len - 1) = x.len - 1 := IntWalk.i64_in _ (by omega)
    cases hw2 : wIn dw 0 (x.len - 1) with
    | false =>
      rw [hw2] at HE HC2
      clear hw2
      go_enter Tryz.func58, Tryz.ntmps58
      go_wp2_with fail
      go_quiet ((first
        | (go_at_call 57; with_reducible exact Calls.quiet_of_same ((unhide HC _).mono fun e w' h => ⟨h.1, h.2.symm⟩))
        | (go_at_call 57; with_reducible exact Calls.quiet_of_same ((unhide HC2 _).mono fun e w' h => ⟨h.1, h.2.symm⟩))))
      go_wp2
      go_ret
      exact ⟨ret_bool (unhide HE).symm, draws (unhide B1) _⟩
    | true =>
      rw [hw2] at HE HC2
      clear hw2
      go_enter Tryz.func58, Tryz.ntmps58
      go_wp2_with fail
      go_quiet ((first
        | (go_at_call 57; with_reducible exact Calls.quiet_of_same ((unhide HC _).mono fun e w' h => ⟨h.1, h.2.symm⟩))
        | (go_at_call 57; with_reducible exact Calls.quiet_of_same ((unhide HC2 _).mono fun e w' h => ⟨h.1, h.2.symm⟩))))
      go_wp2
      go_ret
      exact ⟨ret_bool (unhide HE).symm, draws (unhide B1) _⟩
abbrev layO (A : Option Addr) (n c : Nat) (B : Option Addr) (m d : Nat) : Obj := .cells #[.slice A n c, .slice B m d] 25
theorem dvE_4 {l : List Nd} {d : Dv} (h : wIn d.kind 1 2 = false) : dvE l d = 4 := by unfold dvE; rw [h]; rfl
theorem dvE_w {l : List Nd} {d : Dv} (h : wIn d.kind 1 2 = true) {b : Bool} (h1 : hasW l d = b) : dvE l d = if b then 0 else 1 := by
  unfold dvE
  rw [h, if_pos rfl]
  unfold hasW at h1
  rw [h1]
def dvsF (l : List Nd) (ds : List Dv) (i : Nat) : Int := dvE l (ds.getD i dv0)
theorem dvsE_e {l : List Nd} {ds : List Dv} {k : Nat} (hk : k < ds.length) (h : ∀ j, j < k → dvsF l ds j = 0) {e : Int} (h1 : dvsF l ds k = e) (he : e ≠ 0) : dvsE l ds = e := by
  have h2 : fstE (dvsF l ds) ds.length = e := by
    rw [fstE_hit (fstE_zero h) (by rw [h1]; exact he) hk, h1]
  show (if fstE (dvsF l ds) ds.length = 0 then _ else fstE (dvsF l ds) ds.length) = e
  rw [h2, if_neg he]
theorem dvsE_d {l : List Nd} {ds : List Dv} (h : ∀ j, j < ds.length → dvsF l ds j = 0) : dvsE l ds = if difD ds then 0 else 5 := by
  show (if fstE (dvsF l ds) ds.length = 0 then _ else fstE (dvsF l ds) ds.length) = _
  rw [if_pos (fstE_zero h)]
theorem difD_no {ds : List Dv} {k : Nat} (hk : k < ds.length) (h : decide ((k : Int) ≤ idxD ds (ds.getD k dv0)) = false) : difD ds = false :=
  range_no (p := fun i => decide (i ≤ ds.findIdx (sameD (ds.getD i dv0)))) hk (by rw [idxD_self hk]; exact h)
theorem difD_yes {ds : List Dv} (h : ∀ k, k < ds.length → decide ((k : Int) ≤ idxD ds (ds.getD k dv0)) = true) : difD ds = true :=
  range_yes (p := fun i => decide (i ≤ ds.findIdx (sameD (ds.getD i dv0)))) fun k hk => by rw [idxD_self hk]; exact h k hk
set_option maxHeartbeats 4000000 in
set_option maxRecDepth 100000 in
theorem ldevs_any (b : Nat) (l : List Nd) (ds : List Dv) (A B : Option Addr) (c d : Nat) (w : World) (hz : l.length ≤ 1000000) (hz2 : ds.length ≤ 1000000) (hl : ∀ k, k < l.length → 0 ≤ (l.getD k nd0).len ∧ (l.getD k nd0).len ≤ 8) (h : NdsIn b w A l) (hd : DvsIn b w B ds) :
    Calls Tryz.prog 34 #[layV A l.length c B ds.length d] w fun e w' => e = .returned (.int .i64 (dvsE l ds)) ∧ Below w.heap.size w w' := by
  have b1 := (Below.refl w.heap.size w).alloc (Nat.le_refl _) (layO A l.length c B ds.length d)
  have HI := hide (h.keep b1)
  have HD := hide (hd.keep b1)
  have B1 := hide b1
  have HL := hide hl
  clear h hd b1 hl
  go_enter Tryz.func34, Tryz.ntmps34
  go_wp2
  go_loopw [10] (fun i wr => ∃ k : Nat, k ≤ ds.length ∧ i = .int .i64 k ∧ Hid (Below (w.alloc (layO A l.length c B ds.length d)).heap.size (w.alloc (layO A l.length c B ds.length d)) wr) ∧ Hid (∀ j, j < k → dvsF l ds j = 0)) (fun i _ => ds.length - (intOf i).toNat)
  case atStart => exact ⟨0, Nat.zero_le _, rfl, Lib.hid (Below.refl _ _), Lib.hid fun j hj => absurd hj (Nat.not_lt_zero _)⟩
  case round =>
    obtain ⟨k, hk, rfl, hb, hdd⟩ := hrel
    obtain ⟨wo, rfl⟩ : ∃ wo : World, wo = wr := ⟨_, rfl⟩
    have HB := hide ((unhide B1).trans (hb.out.mono (unhide B1).size))
    have q0 : wo.cell? ⟨w.heap.size, 0, none⟩ = some (.slice A l.length c) := kept hb.out (by rw [Lib.cell_of_heap (heap_alloc_new w _)]; rfl)
    have q1 : wo.cell? ⟨w.heap.size, 1, none⟩ = some (.slice B ds.length d) := kept hb.out (by rw [Lib.cell_of_heap (heap_alloc_new w _)]; rfl)
    have hsz : w.heap.size < wo.heap.size := by have := hb.out.size; rw [World.size_alloc] at this; omega
    by_cases hlt : k < ds.length
    · obtain ⟨g, off, rfl, _, hc⟩ := ((unhide HD).keep hb.out) (by omega)
      obtain ⟨c0, c1, c2⟩ := hc k hlt
      clear hc
      have HP := hide fun h => upto_step (p := fun j => dvsF l ds j = 0) (k := k) hdd.out h
      have HN := hide fun e (h : dvsF l ds k = e) he => dvsE_e hlt hdd.out h he
      have H4 := hide (show wIn (ds.getD k dv0).kind 1 2 = false → dvsF l ds k = 4 from dvE_4)
      have HWd := hide (show wIn (ds.getD k dv0).kind 1 2 = true → ∀ b, hasW l (ds.getD k dv0) = b → dvsF l ds k = if b then 0 else 1 from fun h b h1 => dvE_w h h1)
      generalize dvsF l ds k = r at *
      generalize ds.getD k dv0 = y at *
      have b2 := (Below.refl wo.heap.size wo).alloc (Nat.le_refl _) (dvO y)
      have HI2 := hide (((unhide HI).keep hb.out).keep b2)
      have HBx := hide (onward hb.out b2)
      have HB2 := hide (onward (unhide HB) b2)
      clear b2
      have kl : (k : Int) < (ds.length : Int) := by omega
      have k0 : (0 : Int) ≤ (k : Int) := by omega
      cases hkd : wIn y.kind 1 2 with
      | false =>
        have HR := hide (unhide HN 4 (unhide H4 hkd) (by decide))
        go_wp2_with (first | (go_at_call 57; refine (lwithin_any _ _ _ _).mono ?_; rw [hkd]; rintro e w1 ⟨rfl, rfl⟩))
        go_ret
        exact ⟨ret_int (unhide HR).symm, unhide HB2⟩
      | true =>
        have HW := hide fun W hI => lhasw_any b l y A c W hz (unhide HL) hI
        cases hhw : hasW l y with
        | false =>
          rw [hhw] at HW
          have HR := hide (unhide HN 1 (unhide HWd hkd false hhw) (by decide))
          go_wp2_with (first
            | (go_at_call 57; refine (lwithin_any _ _ _ _).mono ?_; rw [hkd]; rintro e w1 ⟨rfl, rfl⟩)
            | (go_at_call 58; refine (unhide HW _ (unhide HI2)).mono ?_; rintro e w1 ⟨rfl, hb1⟩; have HB3 := hide (onward (unhide HB2) hb1); clear hb1))
          go_ret
          exact ⟨ret_int (unhide HR).symm, unhide HB3⟩
        | true =>
          rw [hhw] at HW
          have HR := hide (unhide HWd hkd true hhw)
          go_wp2_with (first
            | (go_at_call 57; refine (lwithin_any _ _ _ _).mono ?_; rw [hkd]; rintro e w1 ⟨rfl, rfl⟩)
            | (go_at_call 58; refine (unhide HW _ (unhide HI2)).mono ?_; rintro e w1 ⟨rfl, hb1⟩; have HB3 := hide (onward (unhide HBx) hb1); clear hb1))
          go_roundw
          case rel => exact ⟨k + 1, by omega, by go_num, Lib.hid (unhide HB3), Lib.hid (unhide HP (unhide HR))⟩
          case measure => simp [intOf]; omega
    · have kl : ¬ (k : Int) < (ds.length : Int) := by omega
      have HE := hide (dvsE_d (l := l) (ds := ds) fun j hj => hdd.out j (by omega))
      clear hlt hdd
      go_wp2
      clear q0 q1
      go_loopw [29] (fun i wr => ∃ k : Nat, k ≤ ds.length ∧ i = .int .i64 k ∧ Hid (Below (w.alloc (layO A l.length c B ds.length d)).heap.size (w.alloc (layO A l.length c B ds.length d)) wr) ∧ Hid (∀ j, j < k → decide ((j : Int) ≤ idxD ds (ds.getD j dv0)) = true)) (fun i _ => ds.length - (intOf i).toNat)
      case atStart => exact ⟨0, Nat.zero_le _, rfl, Lib.hid hb.out, Lib.hid fun j hj => absurd hj (Nat.not_lt_zero _)⟩
      case round =>
        obtain ⟨k2, hk2, rfl, hb2, hd2⟩ := hrel
        obtain ⟨wi, rfl⟩ : ∃ wi : World, wi = wr := ⟨_, rfl⟩
        have HB2 := hide ((unhide B1).trans (hb2.out.mono (unhide B1).size))
        have q0 : wi.cell? ⟨w.heap.size, 0, none⟩ = some (.slice A l.length c) := kept hb2.out (by rw [Lib.cell_of_heap (heap_alloc_new w _)]; rfl)
        have q1 : wi.cell? ⟨w.heap.size, 1, none⟩ = some (.slice B ds.length d) := kept hb2.out (by rw [Lib.cell_of_heap (heap_alloc_new w _)]; rfl)
        have hsz2 : w.heap.size < wi.heap.size := by have := hb2.out.size; rw [World.size_alloc] at this; omega
        by_cases hlt2 : k2 < ds.length
        · obtain ⟨g, off, rfl, _, hc⟩ := ((unhide HD).keep hb2.out) (by omega)
          obtain ⟨c0, c1, c2⟩ := hc k2 hlt2
          clear hc
          have HP := hide fun h => upto_step (p := fun j => decide ((j : Int) ≤ idxD ds (ds.getD j dv0)) = true) (k := k2) hd2.out h
          have HN := hide fun h => difD_no hlt2 h
          have b2 := (Below.refl wi.heap.size wi).alloc (Nat.le_refl _) (dvO (ds.getD k2 dv0))
          have HBx := hide (onward hb2.out b2)
          have HC := hide (lidxd_any b ds (ds.getD k2 dv0) (some ⟨g, off, none⟩) d _ hz2 (((unhide HD).keep hb2.out).keep b2))
          clear b2
          generalize ds.getD k2 dv0 = y at *
          generalize idxD ds y = f at *
          have kl2 : (k2 : Int) < (ds.length : Int) := by omega
          have k20 : (0 : Int) ≤ (k2 : Int) := by omega
          by_cases hf : f < (k2 : Int)
          · have HR := hide (unhide HN (by simp; omega))
            go_wp2_with (first | (go_at_call 59; refine (unhide HC).mono ?_; rintro e w1 ⟨rfl, hb1⟩; have HB3 := hide (onward (unhide HBx) hb1); clear hb1))
            go_ret
            refine ⟨ret_int ?_, (unhide B1).trans ((unhide HB3).mono (unhide B1).size)⟩
            rw [unhide HE, unhide HR]; rfl
          · have HR := hide (unhide HP (by simp; omega))
            go_wp2_with (first | (go_at_call 59; refine (unhide HC).mono ?_; rintro e w1 ⟨rfl, hb1⟩; have HB3 := hide (onward (unhide HBx) hb1); clear hb1))
            go_roundw
            case rel => exact ⟨k2 + 1, by omega, by go_num, Lib.hid (unhide HB3), Lib.hid (unhide HR)⟩
            case measure => simp [intOf]; omega
        · have HR := hide (difD_yes (ds := ds) fun j hj => hd2.out j (by omega))
          have kl2 : ¬ (k2 : Int) < (ds.length : Int) := by omega
          go_wp2
          go_ret
          refine ⟨ret_int ?_, unhide HB2⟩
          rw [unhide HE, unhide HR]; rfl
end Go.Proofs.YtfddpdognelhmaaGreatDoor

/- LayI: Contracts of package layout: validateNodes, Validate, Windows, Find, Order. -/
namespace Go.Proofs.YtfddpdognelhmaaGreatDoor
open Go.RowKit

def ndsF (l : List Nd) (i : Nat) : Int := ndE l.length i (l.getD i nd0)
theorem nodesE_e {l : List Nd} {k : Nat} (hk : k < l.length) (h : ∀ j, j < k → ndsF l j = 0) {e : Int} (h1 : ndsF l k = e) (he : e ≠ 0) : nodesE l = e := by
  have h2 : ndsE l = e := by
    show fstE (ndsF l) l.length = e
    rw [fstE_hit (fstE_zero h) (by rw [h1]; exact he) hk, h1]
  unfold nodesE
  rw [h2, if_neg he]
theorem nds_all {l : List Nd} (h : ∀ j, j < l.length → ndsF l j = 0) : ndsE l = 0 := fstE_zero h
theorem nodesE_2 {l : List Nd} (h : ndsE l = 0) (h1 : 80 < winN l) : nodesE l = 2 := by unfold nodesE; rw [if_pos h, if_neg (by omega)]
theorem nodesE_5 {l : List Nd} (h : ndsE l = 0) (h1 : ¬ 80 < winN l) (h2 : difB l = false) : nodesE l = 5 := by unfold nodesE; rw [if_pos h, if_pos (by omega), h2]; rfl
theorem nodesE_7 {l : List Nd} (h : ndsE l = 0) (h1 : ¬ 80 < winN l) (h2 : difB l = true) (h3 : zonB l = false) : nodesE l = 7 := by unfold nodesE; rw [if_pos h, if_pos (by omega), h2, h3]; rfl
theorem nodesE_o {l : List Nd} (h : ndsE l = 0) (h1 : ¬ 80 < winN l) (h2 : difB l = true) (h3 : zonB l = true) : nodesE l = if (ordF l).length < l.length then 9 else 0 := by unfold nodesE; rw [if_pos h, if_pos (by omega), h2, h3]; rfl
theorem nds_zero {l : List Nd} (h : nodesE l = 0) : ndsE l = 0 := by
  unfold nodesE at h
  by_cases e : ndsE l = 0
  · exact e
  · rw [if_neg e] at h; exact absurd h e
theorem lens_of {l : List Nd} (h : ndsE l = 0) : ∀ k, k < l.length → 0 ≤ (l.getD k nd0).len ∧ (l.getD k nd0).len ≤ 8 := fun k hk => by
  have h1 := fstE_all (show fstE (ndsF l) l.length = 0 from h) k hk
  unfold ndsF ndE at h1
  split at h1
  · split at h1
    · split at h1
      · rename_i h2
        simp only [Bool.and_eq_true] at h2
        have h3 := h2.1
        unfold lenOk at h3
        split at h3
        · have := of_decide_eq_true h3; omega
        · split at h3 <;> (have := wIn_iff.1 h3; omega)
      · omega
    · omega
  · omega
set_option maxHeartbeats 4000000 in
set_option maxRecDepth 100000 in
theorem lnodes_any (b : Nat) (l : List Nd) (A : Option Addr) (c : Nat) (w : World) (hz : l.length ≤ 1000) (hx : FewX l) (h : NdsIn b w A l) :
    Calls Tryz.prog 33 #[.slice A l.length c] w fun e w' => e = .returned (.int .i64 (nodesE l)) ∧ Below w.heap.size w w' := by
  have HI := hide h
  have HX := hide hx
  clear h hx
  go_enter Tryz.func33, Tryz.ntmps33
  go_wp2
  go_loopw [7] (fun i wr => ∃ k : Nat, k ≤ l.length ∧ i = .int .i64 k ∧ Hid (Below w.heap.size w wr) ∧ Hid (∀ j, j < k → ndsF l j = 0)) (fun i _ => l.length - (intOf i).toNat)
  case atStart => exact ⟨0, Nat.zero_le _, rfl, Lib.hid (Below.refl _ _), Lib.hid fun j hj => absurd hj (Nat.not_lt_zero _)⟩
  case round =>
    obtain ⟨k, hk, rfl, hb, hd⟩ := hrel
    obtain ⟨wo, rfl⟩ : ∃ wo : World, wo = wr := ⟨_, rfl⟩
    by_cases hlt : k < l.length
    · have HC := hide (show Calls Tryz.prog 54 #[.slice A l.length c, .int .i64 (k : Int)] wo fun e w' => e = .returned (.int .i64 (ndsF l k)) ∧ Below wo.heap.size wo w' from lnode_any b l k A c wo (by omega) (unhide HX) ((unhide HI).keep hb.out) hlt)
      have HP := hide fun h => upto_step (p := fun j => ndsF l j = 0) (k := k) hd.out h
      have HN := hide fun e (h : ndsF l k = e) he => nodesE_e hlt hd.out h he
      generalize hr : ndsF l k = r at *
      have kl : (k : Int) < (l.length : Int) := by omega
      have k0 : (0 : Int) ≤ (k : Int) := by omega
      clear hr
      by_cases hr0 : r = 0
      · have hrb : (r != 0) = false := by rw [bne_eq_false_iff_eq]; exact hr0
        have HR := hide hr0
        clear hr0
        go_wp2_with (first | (go_at_call 54; refine (unhide HC).mono ?_; rintro e w1 ⟨rfl, hb1⟩; have HB1 := hide (onward hb.out hb1); clear hb1))
        go_roundw
        case rel => exact ⟨k + 1, by omega, by go_num, Lib.hid (unhide HB1), Lib.hid (unhide HP (unhide HR))⟩
        case measure => simp [intOf]; omega
      · have hrb : (r != 0) = true := by rw [bne_iff_ne]; exact hr0
        have HR := hide (unhide HN r rfl hr0)
        clear hr0
        go_wp2_with (first | (go_at_call 54; refine (unhide HC).mono ?_; rintro e w1 ⟨rfl, hb1⟩; have HB1 := hide (onward hb.out hb1); clear hb1))
        go_ret
        exact ⟨ret_int (unhide HR).symm, unhide HB1⟩
    · have h0 := nds_all (l := l) fun j hj => hd.out j (by omega)
      have H0 := hide h0
      have HIo := hide ((unhide HI).keep hb.out)
      have kl : ¬ (k : Int) < (l.length : Int) := by omega
      have HW := hide (lwindows_any b l A c wo (by omega) (lens_of h0) (unhide HIo))
      have HDf := hide fun W hI => ldiffer_any b l A c W (by omega) hI
      have HZo := hide fun W hI => lzones_any b l A c W (by omega) (exg_of h0) hI
      have HOr := hide fun W hI => lorder_any b l A c W hz (exg_of h0) hI
      have hwb := winN_le (lens_of h0) l.length (Nat.le_refl _)
      rw [List.take_length] at hwb
      clear h0 hlt hd
      by_cases h80 : 80 < winN l
      · have HR := hide (nodesE_2 (unhide H0) h80)
        generalize winN l = s at *
        go_wp2_with (first | (go_at_call 43; refine (unhide HW).mono ?_; rintro e w1 ⟨rfl, hb1⟩; have HB1 := hide (onward hb.out hb1); clear hb1))
        go_ret
        exact ⟨ret_int (unhide HR).symm, unhide HB1⟩
      · cases hdf : difB l with
        | false =>
          rw [hdf] at HDf
          have HR := hide (nodesE_5 (unhide H0) h80 hdf)
          generalize winN l = s at *
          go_wp2_with (first
            | (go_at_call 43; refine (unhide HW).mono ?_; rintro e w1 ⟨rfl, hb1⟩; have HB1 := hide (onward hb.out hb1); have HI1 := hide ((unhide HIo).keep hb1); clear hb1)
            | (go_at_call 55; refine (unhide HDf _ (unhide HI1)).mono ?_; rintro e w2 ⟨rfl, hb2⟩; have HB2 := hide (onward (unhide HB1) hb2); clear hb2))
          go_ret
          exact ⟨ret_int (unhide HR).symm, unhide HB2⟩
        | true =>
          rw [hdf] at HDf
          cases hzo : zonB l with
          | false =>
            rw [hzo] at HZo
            have HR := hide (nodesE_7 (unhide H0) h80 hdf hzo)
            generalize winN l = s at *
            go_wp2_with (first
              | (go_at_call 43; refine (unhide HW).mono ?_; rintro e w1 ⟨rfl, hb1⟩; have HB1 := hide (onward hb.out hb1); have HI1 := hide ((unhide HIo).keep hb1); clear hb1)
              | (go_at_call 55; refine (unhide HDf _ (unhide HI1)).mono ?_; rintro e w2 ⟨rfl, hb2⟩; have HB2 := hide (onward (unhide HB1) hb2); have HI2 := hide ((unhide HI1).keep hb2); clear hb2)
              | (go_at_call 56; refine (unhide HZo _ (unhide HI2)).mono ?_; rintro e w3 ⟨rfl, hb3⟩; have HB3 := hide (onward (unhide HB2) hb3); clear hb3))
            go_ret
            exact ⟨ret_int (unhide HR).symm, unhide HB3⟩
          | true =>
            rw [hzo] at HZo
            have HR := hide (nodesE_o (unhide H0) h80 hdf hzo)
            clear hdf hzo
            generalize winN l = s at *
            by_cases hol : (ordF l).length < l.length
            all_goals
              have HOL := hide hol
              clear hol
              generalize hon : (ordF l).length = on at *
              have hcl := unhide HOL
              have hci : ((on : Int) < (l.length : Int)) ↔ on < l.length := by omega
              go_wp2_with (first
                | (go_at_call 43; refine (unhide HW).mono ?_; rintro e w1 ⟨rfl, hb1⟩; have HB1 := hide (onward hb.out hb1); have HI1 := hide ((unhide HIo).keep hb1); clear hb1)
                | (go_at_call 55; refine (unhide HDf _ (unhide HI1)).mono ?_; rintro e w2 ⟨rfl, hb2⟩; have HB2 := hide (onward (unhide HB1) hb2); have HI2 := hide ((unhide HI1).keep hb2); clear hb2)
                | (go_at_call 56; refine (unhide HZo _ (unhide HI2)).mono ?_; rintro e w3 ⟨rfl, hb3⟩; have HB3 := hide (onward (unhide HB2) hb3); have HI3 := hide ((unhide HI2).keep hb3); clear hb3)
                | (go_at_call 42; refine (unhide HOr _ (unhide HI3)).mono ?_; rintro e w4 ⟨v, rfl, hown, hb4⟩; obtain ⟨ao, cp, hv⟩ := own_form hown; subst hv; rw [hon]; have HB4 := hide (onward (unhide HB3) hb4); clear hb4 hown))
              go_ret
              exact ⟨ret_int (by rw [unhide HR]; first | rw [if_pos (unhide HOL)] | rw [if_neg (unhide HOL)]), unhide HB4⟩
end Go.Proofs.YtfddpdognelhmaaGreatDoor

/- LayJ: Contracts of package layout: Validate, Windows, Find, Order. -/
namespace Go.Proofs.YtfddpdognelhmaaGreatDoor
open Go.RowKit

/-- A layout that lies in memory. -/
structure LayIn (b : Nat) (w : World) (x : Lay) (A B : Option Addr) : Prop where
  nds : NdsIn b w A x.nodes
  dvs : DvsIn b w B x.devs
  few : FewX x.nodes
  nn : x.nodes.length ≤ 1000000
  nd : x.devs.length ≤ 1000000
theorem LayIn.keep {b : Nat} {w w1 : World} {x : Lay} {A B : Option Addr} (h : LayIn b w x A B) (hb : Below w.heap.size w w1) : LayIn b w1 x A B := ⟨h.nds.keep hb, h.dvs.keep hb, h.few, h.nn, h.nd⟩
theorem LayIn.grown {b : Nat} {w w1 : World} {x : Lay} {A B : Option Addr} (h : LayIn b w x A B) (hg : w.grownBy w1 (some b)) : LayIn b w1 x A B := ⟨h.nds.grown hg, h.dvs.grown hg, h.few, h.nn, h.nd⟩
theorem LayIn.other {b b' : Nat} {w : World} {x : Lay} {A B : Option Addr} (h : LayIn b w x A B) (hb : w.heap.size ≤ b') : LayIn b' w x A B := ⟨h.nds.other hb, h.dvs.other hb, h.few, h.nn, h.nd⟩
abbrev lV (x : Lay) (A : Option Addr) (c : Nat) (B : Option Addr) (d : Nat) : Value := layV A x.nodes.length c B x.devs.length d
abbrev lO (x : Lay) (A : Option Addr) (c : Nat) (B : Option Addr) (d : Nat) : Obj := layO A x.nodes.length c B x.devs.length d
theorem layE_2 {x : Lay} (h : 24 < x.nodes.length ∨ 24 < x.devs.length) : layE x = 2 := by unfold layE; rw [if_neg (by omega)]
theorem layE_n {x : Lay} (h : ¬ 24 < x.nodes.length) (h1 : ¬ 24 < x.devs.length) {e : Int} (h2 : nodesE x.nodes = e) (he : e ≠ 0) : layE x = e := by unfold layE; rw [if_pos (by omega), h2, if_neg he]
theorem layE_d {x : Lay} (h : ¬ 24 < x.nodes.length) (h1 : ¬ 24 < x.devs.length) (h2 : nodesE x.nodes = 0) {e : Int} (h3 : dvsE x.nodes x.devs = e) (he : e ≠ 0) : layE x = e := by unfold layE; rw [if_pos (by omega), if_pos h2, h3, if_neg he]
theorem layE_m {x : Lay} (h : ¬ 24 < x.nodes.length) (h1 : ¬ 24 < x.devs.length) (h2 : nodesE x.nodes = 0) (h3 : dvsE x.nodes x.devs = 0) : layE x = if x.nodes.any isEn then 0 else 6 := by unfold layE; rw [if_pos (by omega), if_pos h2, if_pos h3]
theorem layE_zero {x : Lay} (h : layE x = 0) : x.nodes.length ≤ 24 ∧ x.devs.length ≤ 24 ∧ nodesE x.nodes = 0 ∧ dvsE x.nodes x.devs = 0 ∧ x.nodes.any isEn = true := by
  unfold layE at h
  split at h
  · rename_i h1
    split at h
    · rename_i h2
      split at h
      · rename_i h3
        split at h
        · rename_i h4; exact ⟨h1.1, h1.2, h2, h3, h4⟩
        · omega
      · rename_i h3; exact absurd h h3
    · rename_i h2; exact absurd h h2
  · omega

set_option maxHeartbeats 4000000 in
set_option maxRecDepth 100000 in
theorem lval_any (b : Nat) (x : Lay) (A B : Option Addr) (c d : Nat) (w : World) (h : LayIn b w x A B) :
    Calls Tryz.prog 12 #[lV x A c B d] w fun e w' => e = .returned (.int .i64 (layE x)) ∧ Below w.heap.size w w' := by
  have b1 := (Below.refl w.heap.size w).alloc (Nat.le_refl _) (lO x A c B d)
  have HI := hide (h.keep b1)
  have hnn := h.nn
  have hnd := h.nd
  have B1 := hide b1
  clear h b1
  have HW0 := hide (show ∀ W, Below (w.alloc (lO x A c B d)).heap.size (w.alloc (lO x A c B d)) W → W.cell? ⟨w.heap.size, 0, none⟩ = some (.slice A x.nodes.length c) ∧ W.cell? ⟨w.heap.size, 1, none⟩ = some (.slice B x.devs.length d) from fun W hb => ⟨kept hb (by rw [Lib.cell_of_heap (heap_alloc_new w _)]; rfl), kept hb (by rw [Lib.cell_of_heap (heap_alloc_new w _)]; rfl)⟩)
  by_cases hn : 24 < x.nodes.length
  · have HR := hide (layE_2 (x := x) (Or.inl hn))
    have hni : (24 : Int) < (x.nodes.length : Int) := by omega
    go_enter Tryz.func12, Tryz.ntmps12
    go_wp2
    go_ret
    exact ⟨ret_int (unhide HR).symm, unhide B1⟩
  · by_cases hd : 24 < x.devs.length
    · have HR := hide (layE_2 (x := x) (Or.inr hd))
      have hni : ¬ (24 : Int) < (x.nodes.length : Int) := by omega
      have hdi : (24 : Int) < (x.devs.length : Int) := by omega
      go_enter Tryz.func12, Tryz.ntmps12
      go_wp2
      go_ret
      exact ⟨ret_int (unhide HR).symm, unhide B1⟩
    · have hni : ¬ (24 : Int) < (x.nodes.length : Int) := by omega
      have hdi : ¬ (24 : Int) < (x.devs.length : Int) := by omega
      have HC := hide (lnodes_any b x.nodes A c _ (by omega) (unhide HI).few (unhide HI).nds)
      by_cases he : nodesE x.nodes = 0
      · rw [he] at HC
        have HL := hide (lens_of (nds_zero he))
        have HD := hide fun W (hI : LayIn b W x A B) => ldevs_any b x.nodes x.devs A B c d W hI.nn hI.nd (unhide HL) hI.nds hI.dvs
        by_cases he2 : dvsE x.nodes x.devs = 0
        · rw [he2] at HD
          have HR := hide (layE_m hn hd he he2)
          have HE := hide fun W (hI : LayIn b W x A B) => lentry_any b x.nodes A c W hI.nn hI.nds
          cases hany : x.nodes.any isEn
          all_goals
            rw [hany] at HE HR
            clear he he2 hany hn hd
            go_enter Tryz.func12, Tryz.ntmps12
            go_wp2_with fail
            refine (unhide HC).mono ?_
            rintro e w1 ⟨rfl, hb1⟩
            have HB1 := hide hb1
            have HI1 := hide ((unhide HI).keep hb1)
            obtain ⟨q0, q1⟩ := unhide HW0 _ hb1
            clear hb1
            go_wp2_with fail
            refine (unhide HD _ (unhide HI1)).mono ?_
            rintro e w2 ⟨rfl, hb2⟩
            have HB2 := hide (onward (unhide HB1) hb2)
            have HI2 := hide ((unhide HI1).keep hb2)
            clear q0 q1
            obtain ⟨q0, q1⟩ := unhide HW0 _ (unhide HB2)
            clear hb2
            go_wp2_with fail
            refine (unhide HE _ (unhide HI2)).mono ?_
            rintro e w3 ⟨rfl, hb3⟩
            have HB3 := hide ((unhide B1).trans ((onward (unhide HB2) hb3).mono (unhide B1).size))
            clear hb3 q0 q1
            go_wp2
            go_ret
            exact ⟨ret_int (unhide HR).symm, unhide HB3⟩
        · have HR := hide (layE_d hn hd he rfl he2)
          generalize dvsE x.nodes x.devs = r at *
          have hrb : (r != 0) = true := by rw [bne_iff_ne]; exact he2
          clear he he2 hn hd
          go_enter Tryz.func12, Tryz.ntmps12
          go_wp2_with fail
          refine (unhide HC).mono ?_
          rintro e w1 ⟨rfl, hb1⟩
          have HB1 := hide hb1
          have HI1 := hide ((unhide HI).keep hb1)
          obtain ⟨q0, q1⟩ := unhide HW0 _ hb1
          clear hb1
          go_wp2_with fail
          refine (unhide HD _ (unhide HI1)).mono ?_
          rintro e w2 ⟨rfl, hb2⟩
          have HB2 := hide ((unhide B1).trans ((onward (unhide HB1) hb2).mono (unhide B1).size))
          clear hb2 q0 q1
          go_wp2
          go_ret
          exact ⟨ret_int (unhide HR).symm, unhide HB2⟩
      · have HR := hide (layE_n hn hd rfl he)
        generalize nodesE x.nodes = r at *
        have hrb : (r != 0) = true := by rw [bne_iff_ne]; exact he
        clear he hn hd
        go_enter Tryz.func12, Tryz.ntmps12
        go_wp2_with fail
        refine (unhide HC).mono ?_
        rintro e w1 ⟨rfl, hb1⟩
        have HB1 := hide ((unhide B1).trans (hb1.mono (unhide B1).size))
        clear hb1
        go_wp2
        go_ret
        exact ⟨ret_int (unhide HR).symm, unhide HB1⟩

/-- The windows of a valid layout. -/
def winsF (x : Lay) : Int := if layE x = 0 then winN x.nodes else 0
set_option maxHeartbeats 4000000 in
theorem lwins_any (b : Nat) (x : Lay) (A B : Option Addr) (c d : Nat) (w : World) (h : LayIn b w x A B) :
    Calls Tryz.prog 17 #[lV x A c B d] w fun e w' => e = .returned (.int .i64 (winsF x)) ∧ Below w.heap.size w w' := by
  have b1 := (Below.refl w.heap.size w).alloc (Nat.le_refl _) (lO x A c B d)
  have HI := hide (h.keep b1)
  have B1 := hide b1
  have HC := hide (lval_any b x A B c d _ (unhide HI))
  clear h b1
  by_cases he : layE x = 0
  · have HR := hide (show winsF x = winN x.nodes from if_pos he)
    have HL := hide (lens_of (nds_zero (layE_zero he).2.2.1))
    rw [he] at HC
    clear he
    go_enter Tryz.func17, Tryz.ntmps17
    go_wp2_with fail
    refine (unhide HC).mono ?_
    rintro e w1 ⟨rfl, hb1⟩
    have HB1 := hide hb1
    have q0 : w1.cell? ⟨w.heap.size, 0, none⟩ = some (.slice A x.nodes.length c) := kept hb1 (by rw [Lib.cell_of_heap (heap_alloc_new w _)]; rfl)
    have HI1 := hide ((unhide HI).keep hb1)
    clear hb1
    go_wp2_with fail
    refine (lwindows_any b x.nodes A c _ (unhide HI1).nn (unhide HL) (unhide HI1).nds).mono ?_
    rintro e w2 ⟨rfl, hb2⟩
    have HB2 := hide ((unhide B1).trans ((onward (unhide HB1) hb2).mono (unhide B1).size))
    clear hb2 q0
    go_wp2
    go_ret
    exact ⟨ret_int (unhide HR).symm, unhide HB2⟩
  · have HR := hide (show winsF x = 0 from if_neg he)
    generalize layE x = r at *
    have hrb : (r != 0) = true := by rw [bne_iff_ne]; exact he
    clear he
    go_enter Tryz.func17, Tryz.ntmps17
    go_wp2_with fail
    refine (unhide HC).mono ?_
    rintro e w1 ⟨rfl, hb1⟩
    have HB1 := hide ((unhide B1).trans (hb1.mono (unhide B1).size))
    clear hb1
    go_wp2
    go_ret
    exact ⟨ret_int (unhide HR).symm, unhide HB1⟩
/-- The order of a valid layout. -/
def ordX (x : Lay) : List Int := if layE x = 0 then ordF x.nodes else []
set_option maxHeartbeats 4000000 in
theorem lord_any (b : Nat) (x : Lay) (A B : Option Addr) (c d : Nat) (w : World) (h : LayIn b w x A B) :
    Calls Tryz.prog 15 #[lV x A c B d] w (IntsO (ordX x) w) := by
  have b1 := (Below.refl w.heap.size w).alloc (Nat.le_refl _) (lO x A c B d)
  have HI := hide (h.keep b1)
  have B1 := hide b1
  have HC := hide (lval_any b x A B c d _ (unhide HI))
  clear h b1
  by_cases he : layE x = 0
  · have HR := hide (show ordX x = ordF x.nodes from if_pos he)
    have HL := hide (exg_of (nds_zero (layE_zero he).2.2.1))
    have hz := (layE_zero he).1
    rw [he] at HC
    clear he
    go_enter Tryz.func15, Tryz.ntmps15
    go_wp2_with fail
    refine (unhide HC).mono ?_
    rintro e w1 ⟨rfl, hb1⟩
    have HB1 := hide hb1
    have q0 : w1.cell? ⟨w.heap.size, 0, none⟩ = some (.slice A x.nodes.length c) := kept hb1 (by rw [Lib.cell_of_heap (heap_alloc_new w _)]; rfl)
    have HI1 := hide ((unhide HI).keep hb1)
    clear hb1
    go_wp2_with fail
    refine (lorder_any b x.nodes A c _ (by omega) (unhide HL) (unhide HI1).nds).mono ?_
    rintro e w2 ⟨v, rfl, hown, hb2⟩
    have HB2 := hide ((unhide B1).trans ((onward (unhide HB1) hb2).mono (unhide B1).size))
    have HO := hide (own_base hown (Nat.le_trans (Nat.le_succ _) (by have := (unhide HB1).size; rw [World.size_alloc] at this; exact this)))
    clear hb2 q0 hown
    go_wp2
    go_ret
    exact ⟨_, rfl, by rw [unhide HR]; exact unhide HO, unhide HB2⟩
  · have HR := hide (show ordX x = [] from if_neg he)
    generalize layE x = r at *
    have hrb : (r != 0) = true := by rw [bne_iff_ne]; exact he
    clear he
    go_enter Tryz.func15, Tryz.ntmps15
    go_wp2_with fail
    refine (unhide HC).mono ?_
    rintro e w1 ⟨rfl, hb1⟩
    have HB1 := hide ((unhide B1).trans (hb1.mono (unhide B1).size))
    clear hb1
    go_wp2
    go_ret
    exact ⟨_, rfl, by rw [unhide HR]; exact ⟨rfl, .inl ⟨rfl, rfl⟩⟩, unhide HB1⟩
theorem lFind_any (b : Nat) (x : Lay) (s : ByteArray) (A B : Option Addr) (c d : Nat) (w : World) (h : LayIn b w x A B) :
    Calls Tryz.prog 19 #[lV x A c B d, .string s] w fun e w' => e = .returned (.int .i64 (findI x.nodes s)) ∧ Below w.heap.size w w' := by
  have b1 := (Below.refl w.heap.size w).alloc (Nat.le_refl _) (lO x A c B d)
  have HI := hide (h.keep b1)
  have B1 := hide b1
  clear h b1
  go_enter Tryz.func19, Tryz.ntmps19
  go_wp2_with fail
  refine (lfind_any b x.nodes s A c _ (unhide HI).nn (unhide HI).nds).mono ?_
  rintro e w1 ⟨rfl, hb1⟩
  have HB1 := hide ((unhide B1).trans (hb1.mono (unhide B1).size))
  clear hb1
  go_wp2
  go_ret
  exact ⟨rfl, unhide HB1⟩
end Go.Proofs.YtfddpdognelhmaaGreatDoor
