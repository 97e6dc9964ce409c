/-
  Contracts of differ, zones, waiting, ready, order.
-/
import Derived.Test.YtfddpdognelhmaaGreatDoorNumR
import Derived.Test.YtfddpdognelhmaaGreatDoorLayB
import Derived.Test.YtfddpdognelhmaaGreatDoorLayM
import Derived.Laws.AppendOwn

/- LayE: Contracts of package layout: differ, allFitZones, the search for an Entry. -/
namespace Go.Proofs.YtfddpdognelhmaaGreatDoor
open Go.RowKit

theorem all_of {α : Type} {p : α → Bool} {l : List α} {d : α} (h : ∀ j, j < l.length → p (l.getD j d) = true) : l.all p = true := by
  rw [List.all_eq_true]
  intro x hx
  obtain ⟨i, hi, rfl⟩ := List.getElem_of_mem hx
  have := h i hi
  rwa [at_k hi] at this
theorem range_no {p : Nat → Bool} {n k : Nat} (hk : k < n) (h : p k = false) : (List.range n).all p = false := by
  rw [List.all_eq_false]
  exact ⟨k, by simpa using hk, by rw [h]; exact Bool.false_ne_true⟩
theorem range_yes {p : Nat → Bool} {n : Nat} (h : ∀ k, k < n → p k = true) : (List.range n).all p = true := by
  rw [List.all_eq_true]
  intro k hk
  exact h k (by simpa using hk)
theorem upto_step {p : Nat → Prop} {k : Nat} (hd : ∀ j, j < k → p j) (h : p k) : ∀ j, j < k + 1 → p j := fun j hj => by
  by_cases e : j = k
  · rw [e]; exact h
  · exact hd j (by omega)

set_option maxHeartbeats 2000000 in
theorem ldiffer_any (b : Nat) (l : List Nd) (A : Option Addr) (c : Nat) (w : World) (hz : l.length ≤ 1000000) (h : NdsIn b w A l) :
    Calls Tryz.prog 55 #[.slice A l.length c] w fun e w' => e = .returned (.bool (difB l)) ∧ Below w.heap.size w w' := by
  have HI := hide h
  clear h
  go_enter Tryz.func55, Tryz.ntmps55
  go_wp2
  go_loopw [7] (fun i wr => ∃ k : Nat, k ≤ l.length ∧ i = .int .i64 k ∧ Hid (Below w.heap.size w wr) ∧ Hid (∀ j, j < k → decide ((j : Int) ≤ findI l (l.getD j nd0).name) = true)) (fun i _ => l.length - (intOf i).toNat)
  case atStart => exact ⟨0, Nat.zero_le _, rfl, Lib.hid (Below.refl _ _), Lib.hid fun j hj => absurd hj (Nat.not_lt_zero _)⟩
  case round =>
    obtain ⟨k, hk, rfl, hb, hd⟩ := hrel
    obtain ⟨wo, rfl⟩ : ∃ wo : World, wo = wr := ⟨_, rfl⟩
    by_cases hlt : k < l.length
    · have HI1 := (unhide HI).keep hb.out
      obtain ⟨g, off, rfl, _, hc⟩ := HI1 (by omega)
      obtain ⟨c0, c1, c2, c3, B, d, c4, -, -⟩ := hc k hlt
      clear hc
      have HP := hide fun h => upto_step (p := fun j => decide ((j : Int) ≤ findI l (l.getD j nd0).name) = true) (k := k) hd.out h
      have HN := hide fun (h : decide ((k : Int) ≤ findI l (l.getD k nd0).name) = false) => range_no (p := fun i => decide ((i : Int) ≤ findI l (l.getD i nd0).name)) hlt h
      have b1 := (Below.refl wo.heap.size wo).alloc (Nat.le_refl _) (ndO (l.getD k nd0) B d)
      have HF := hide (lfind_any b l (l.getD k nd0).name (some ⟨g, off, none⟩) c _ hz (HI1.keep b1))
      have hr := findI_range l (l.getD k nd0).name
      have B1 := hide (onward hb.out b1)
      clear HI1 b1
      generalize l.getD k nd0 = x at *
      generalize findI l x.name = f at *
      have kl : (k : Int) < (l.length : Int) := by omega
      have k0 : (0 : Int) ≤ (k : Int) := by omega
      by_cases hf : f < (k : Int)
      · have HD := hide (show decide ((k : Int) ≤ f) = false by simp; omega)
        go_wp2_with (first | (go_at_call 44; refine (unhide HF).mono ?_; rintro e w1 ⟨rfl, hb1⟩; have HB1 := hide ((unhide B1).trans (hb1.mono (unhide B1).size)); clear hb1))
        go_ret
        exact ⟨ret_bool (unhide HN (unhide HD)).symm, unhide HB1⟩
      · have HD := hide (show decide ((k : Int) ≤ f) = true by simp; omega)
        go_wp2_with (first | (go_at_call 44; refine (unhide HF).mono ?_; rintro e w1 ⟨rfl, hb1⟩; have HB1 := hide ((unhide B1).trans (hb1.mono (unhide B1).size)); clear hb1))
        go_roundw
        case rel => exact ⟨k + 1, by omega, by go_num, Lib.hid (unhide HB1), Lib.hid (unhide HP (unhide HD))⟩
        case measure => simp [intOf]; omega
    · have HE := hide (range_yes (p := fun i => decide ((i : Int) ≤ findI l (l.getD i nd0).name)) (n := l.length) fun j hj => hd.out j (by omega))
      have kl : ¬ (k : Int) < (l.length : Int) := by omega
      go_wp2
      go_ret
      exact ⟨ret_bool (unhide HE).symm, hb.out⟩

/-- The index of the first Entry, or -1. -/
def enI (l : List Nd) : Int := if l.any isEn then (l.findIdx isEn : Int) else -1
theorem enI_hit {l : List Nd} {k : Nat} (hk : k < l.length) (h : ∀ i, i < k → isEn (l.getD i nd0) = false) (h1 : isEn (l.getD k nd0) = true) : enI l = k := by
  have e : l.findIdx isEn = k := by
    rw [List.findIdx_eq hk]
    refine ⟨?_, fun j hj => ?_⟩
    · rw [at_k hk] at h1; exact h1
    · have := h j hj
      rwa [at_k (by omega)] at this
  have hc : l.any isEn = true := List.any_eq_true.2 ⟨_, List.getElem_mem hk, by rw [at_k hk] at h1; exact h1⟩
  unfold enI
  rw [hc, e]; rfl
theorem enI_no {l : List Nd} (h : ∀ i, i < l.length → isEn (l.getD i nd0) = false) : enI l = -1 := by
  have hc : l.any isEn = false := by
    rw [List.any_eq_false]
    intro x hx
    obtain ⟨i, hi, rfl⟩ := List.getElem_of_mem hx
    have := h i hi
    rw [at_k hi] at this
    rw [this]; exact Bool.false_ne_true
  unfold enI
  rw [hc]; rfl
theorem enI_pos (l : List Nd) : decide (0 ≤ enI l) = l.any isEn := by
  unfold enI
  cases l.any isEn
  · rfl
  · exact decide_eq_true (Int.natCast_nonneg _)
set_option maxHeartbeats 2000000 in
theorem lindexe_any (b : Nat) (l : List Nd) (A : Option Addr) (c : Nat) (w : World) (hz : l.length ≤ 1000000) (h : NdsIn b w A l) :
    Calls Tryz.prog 60 #[.slice A l.length c, .func (.func 36) #[] #[]] w fun e w' => e = .returned (.int .i64 (enI l)) ∧ Below w.heap.size w w' := by
  have HI := hide h
  clear h
  go_enter Tryz.func60, Tryz.ntmps60
  go_wp2
  go_loopw [8] (fun i wr => ∃ k : Nat, k ≤ l.length ∧ i = .int .i64 k ∧ Hid (Below w.heap.size w wr) ∧ Hid (∀ j, j < k → isEn (l.getD j nd0) = false)) (fun i _ => l.length - (intOf i).toNat)
  case atStart => exact ⟨0, Nat.zero_le _, rfl, Lib.hid (Below.refl _ _), Lib.hid fun j hj => absurd hj (Nat.not_lt_zero _)⟩
  case round =>
    obtain ⟨k, hk, rfl, hb, hd⟩ := hrel
    obtain ⟨wo, rfl⟩ : ∃ wo : World, wo = wr := ⟨_, rfl⟩
    by_cases hlt : k < l.length
    · obtain ⟨g, off, rfl, _, hc⟩ := ((unhide HI).keep hb.out) (by omega)
      obtain ⟨c0, c1, c2, c3, B, d, c4, -, -⟩ := hc k hlt
      clear hc
      have HP := hide fun h => upto_step (p := fun j => isEn (l.getD j nd0) = false) (k := k) hd.out h
      have HN := hide fun (h : isEn (l.getD k nd0) = true) => enI_hit hlt hd.out h
      generalize l.getD k nd0 = x at *
      have kl : (k : Int) < (l.length : Int) := by omega
      have k0 : (0 : Int) ≤ (k : Int) := by omega
      cases hxs : isEn x with
      | true =>
        have HX := hide hxs
        go_wp2_with (first | (go_at_call 36; refine (isEntry_any x B d _).mono ?_; rw [hxs]; rintro e w1 ⟨rfl, hb1⟩; have HB1 := hide (onward hb.out hb1); clear hb1))
        go_ret
        exact ⟨ret_int (unhide HN (unhide HX)).symm, unhide HB1⟩
      | false =>
        have HX := hide hxs
        go_wp2_with (first | (go_at_call 36; refine (isEntry_any x B d _).mono ?_; rw [hxs]; rintro e w1 ⟨rfl, hb1⟩; have HB1 := hide (onward hb.out hb1); clear hb1))
        go_roundw
        case rel => exact ⟨k + 1, by omega, by go_num, Lib.hid (unhide HB1), Lib.hid (unhide HP (unhide HX))⟩
        case measure => simp [intOf]; omega
    · have HE := hide (enI_no (l := l) fun j hj => hd.out j (by omega))
      have kl : ¬ (k : Int) < (l.length : Int) := by omega
      go_wp2
      go_ret
      exact ⟨ret_int (unhide HE).symm, hb.out⟩
theorem lentry_any (b : Nat) (l : List Nd) (A : Option Addr) (c : Nat) (w : World) (hz : l.length ≤ 1000000) (h : NdsIn b w A l) :
    Calls Tryz.prog 35 #[.slice A l.length c, .func (.func 36) #[] #[]] w fun e w' => e = .returned (.bool (l.any isEn)) ∧ Below w.heap.size w w' := by
  have HP := hide (enI_pos l)
  go_enter Tryz.func35, Tryz.ntmps35
  go_wp2_with (first | (go_at_call 60; refine (lindexe_any b l A c _ hz h).mono ?_; rintro e w1 ⟨rfl, hb1⟩; have HB1 := hide hb1; clear hb1))
  go_ret
  exact ⟨ret_bool (unhide HP), unhide HB1⟩

theorem zoN_no1 {l : List Nd} {x : Nd} (h : fitZ x = false) : zoN l x = false := by unfold zoN; rw [h]; rfl
theorem zoN_no2 {l : List Nd} {x : Nd} {k : Nat} (hk : k < x.exits.length) (h : zoOk l x k = false) : zoN l x = false := by
  unfold zoN; rw [range_no hk h, Bool.and_false]
theorem zoN_yes {l : List Nd} {x : Nd} (h : fitZ x = true) (h1 : ∀ k, k < x.exits.length → zoOk l x k = true) : zoN l x = true := by
  unfold zoN; rw [h, range_yes h1]; rfl
theorem zoOk_eq {l : List Nd} {x : Nd} {k j : Nat} (h : x.exits.getD k 0 = (j : Int)) : zoOk l x k = (!isEn (l.getD j nd0) && !((l.getD j nd0).zone != zBeh x k)) := by
  unfold zoOk atE
  rw [h, Int.toNat_natCast]
  congr 1
  by_cases e : (l.getD j nd0).zone = zBeh x k
  · rw [decide_eq_true e, bne_eq_false_iff_eq.2 e]; rfl
  · rw [decide_eq_false e, bne_iff_ne.2 e]; rfl
set_option maxHeartbeats 4000000 in
theorem lzones_any (b : Nat) (l : List Nd) (A : Option Addr) (c : Nat) (w : World) (hz : l.length ≤ 1000000) (hx : ExG l) (h : NdsIn b w A l) :
    Calls Tryz.prog 56 #[.slice A l.length c] w fun e w' => e = .returned (.bool (zonB l)) ∧ Below w.heap.size w w' := by
  have HI := hide h
  have HG := hide hx
  clear h hx
  go_enter Tryz.func56, Tryz.ntmps56
  go_wp2
  go_loopw [9] (fun i wr => ∃ k : Nat, k ≤ l.length ∧ i = .int .i64 k ∧ Hid (Below w.heap.size w wr) ∧ Hid (∀ j, j < k → zoN l (l.getD j nd0) = true)) (fun i _ => l.length - (intOf i).toNat)
  case atStart => exact ⟨0, Nat.zero_le _, rfl, Lib.hid (Below.refl _ _), Lib.hid fun j hj => absurd hj (Nat.not_lt_zero _)⟩
  case round =>
    obtain ⟨k, hk, rfl, hb, hd⟩ := hrel
    obtain ⟨wo, rfl⟩ : ∃ wo : World, wo = wr := ⟨_, rfl⟩
    by_cases hlt : k < l.length
    · obtain ⟨g, off, rfl, _, hc⟩ := ((unhide HI).keep hb.out) (by omega)
      obtain ⟨c0, c1, c2, c3, B, d, c4, -, hn⟩ := hc k hlt
      clear hc
      have HP := hide fun h => upto_step (p := fun j => zoN l (l.getD j nd0) = true) (k := k) hd.out h
      have HN := hide fun (h : zoN l (l.getD k nd0) = false) => all_no (p := zoN l) (d := nd0) hlt h
      have HR := hide ((unhide HG).rng k hlt)
      have H2 := (unhide HG).len k hlt
      have b1 := (Below.refl wo.heap.size wo).alloc (Nat.le_refl _) (ndO (l.getD k nd0) B d)
      have NX := hide (hn.keep b1)
      have B1 := hide b1
      have B2 := hide (onward hb.out b1)
      clear b1 hn
      generalize l.getD k nd0 = x at *
      have kl : (k : Int) < (l.length : Int) := by omega
      have k0 : (0 : Int) ≤ (k : Int) := by omega
      cases hf : fitZ x with
      | false =>
        have HX := hide (zoN_no1 (l := l) hf)
        go_wp2_with (first | (go_at_call 79; refine (fitsZone_any x B d _).mono ?_; rw [hf]; rintro e w1 ⟨rfl, hb1⟩; have HB1 := hide ((unhide B2).trans (hb1.mono (unhide B2).size)); clear hb1))
        go_ret
        exact ⟨ret_bool (unhide HN (unhide HX)).symm, unhide HB1⟩
      | true =>
        have HY := hide fun h1 => zoN_yes (l := l) hf h1
        go_wp2_with fail
        refine (fitsZone_any x B d _).mono ?_
        rw [hf]
        rintro e w1 ⟨rfl, hb1⟩
        have HB1 := hide ((unhide B2).trans (hb1.mono (unhide B2).size))
        have NX1 := hide ((unhide NX).keep hb1)
        have q0 : w1.cell? ⟨wo.heap.size, 0, none⟩ = some (.string x.name) := kept hb1 (by rw [Lib.cell_of_heap (heap_alloc_new wo _)]; rfl)
        have q1 : w1.cell? ⟨wo.heap.size, 1, none⟩ = some (.int .i64 x.kind) := kept hb1 (by rw [Lib.cell_of_heap (heap_alloc_new wo _)]; rfl)
        have q2 : w1.cell? ⟨wo.heap.size, 2, none⟩ = some (.int .i64 x.len) := kept hb1 (by rw [Lib.cell_of_heap (heap_alloc_new wo _)]; rfl)
        have q3 : w1.cell? ⟨wo.heap.size, 3, none⟩ = some (.int .i64 x.zone) := kept hb1 (by rw [Lib.cell_of_heap (heap_alloc_new wo _)]; rfl)
        have q4 : w1.cell? ⟨wo.heap.size, 4, none⟩ = some (.slice B x.exits.length d) := kept hb1 (by rw [Lib.cell_of_heap (heap_alloc_new wo _)]; rfl)
        clear hb1 hf
        have Q := hide (show _ ∧ _ ∧ _ ∧ _ ∧ _ from ⟨q0, q1, q2, q3, q4⟩)
        clear q0 q1 q2 q3 c0 c1 c2 c3 c4
        generalize wo.heap.size = q at *
        go_wp2
        clear q4
        go_loopw [19] (fun i wr => ∃ e : Nat, e ≤ x.exits.length ∧ i = .int .i64 e ∧ Hid (Below w1.heap.size w1 wr) ∧ Hid (∀ j, j < e → zoOk l x j = true)) (fun i _ => x.exits.length - (intOf i).toNat)
        case atStart => exact ⟨0, Nat.zero_le _, rfl, Lib.hid (Below.refl _ _), Lib.hid fun j hj => absurd hj (Nat.not_lt_zero _)⟩
        case round =>
          obtain ⟨e, he, rfl, hbi, hdi⟩ := hrel
          obtain ⟨wi, rfl⟩ : ∃ wi : World, wi = wr := ⟨_, rfl⟩
          by_cases hlt2 : e < x.exits.length
          · have HB2 := hide ((unhide HB1).trans (hbi.out.mono (unhide HB1).size))
            obtain ⟨g', off', rfl, _, hc'⟩ := ((unhide NX1).keep hbi.out) (by omega)
            have y0 := hc' e hlt2
            clear hc'
            obtain ⟨j, hj⟩ := Int.eq_ofNat_of_zero_le ((unhide HR) (x.exits.getD e 0) (by rw [at_k hlt2]; exact List.getElem_mem _)).1
            have hjl : j < l.length := by have := ((unhide HR) (x.exits.getD e 0) (by rw [at_k hlt2]; exact List.getElem_mem _)).2; omega
            have HZ := hide (zoOk_eq (l := l) hj)
            have HP2 := hide fun h => upto_step (p := fun j => zoOk l x j = true) (k := e) hdi.out h
            have HN2 := hide fun (h : zoOk l x e = false) => zoN_no2 hlt2 h
            rw [hj] at y0
            clear hj
            obtain ⟨g2, off2, e2, _, hc2⟩ := ((unhide HI).keep (unhide HB2)) (by omega)
            obtain ⟨rfl, rfl⟩ : g = g2 ∧ off = off2 := by
              have := Option.some.inj e2
              injection this with h1 h2
              exact ⟨h1, h2⟩
            clear e2
            obtain ⟨z0, z1, z2, z3, B', d', z4, -, -⟩ := hc2 j hjl
            obtain ⟨q0, q1, q2, q3, q4⟩ := unhide Q
            replace q0 := kept hbi.out q0
            replace q1 := kept hbi.out q1
            replace q2 := kept hbi.out q2
            replace q3 := kept hbi.out q3
            replace q4 := kept hbi.out q4
            clear hc2
            generalize l.getD j nd0 = y at *
            replace z0 := After.cell z0
            replace z1 := After.cell z1
            replace z2 := After.cell z2
            replace z3 := After.cell z3
            replace z4 := After.cell z4
            replace q0 := After.cell q0
            replace q1 := After.cell q1
            replace q2 := After.cell q2
            replace q3 := After.cell q3
            replace q4 := After.cell q4
            have el : (e : Int) < (x.exits.length : Int) := by omega
            have e0 : (0 : Int) ≤ (e : Int) := by omega
            have jl : (j : Int) < (l.length : Int) := by omega
            have j0 : (0 : Int) ≤ (j : Int) := by omega
            generalize hzb : zBeh x e = zb at *
            have HC := hide fun W => isEntry_any y B' d' W
            cases hy : isEn y with
            | true =>
              rw [hy] at HZ HC
              go_wp2_with fail
              refine wp_region_after (by kernel_rfl) (by kernel_rfl) ?_
              repeat (go_big_quiet_step ((first
                | (go_at_call 36; exact After.call (unhide HC _)))))
              refine wpQuiet_nil ?_
              rintro _ ⟨t, rfl⟩
              have HB3 := hide (onward (unhide HB2) t.is)
              go_wp2
              go_ret
              exact ⟨ret_bool (unhide HN (unhide HN2 (unhide HZ))).symm, unhide HB3⟩
            | false =>
              have HW := hide fun W => zoneBehind_any x (some ⟨g', off', none⟩) d e W
              rw [hzb] at HW
              clear hzb
              rw [hy] at HZ HC
              cases hzz : (y.zone != zb) with
              | true =>
                rw [hzz] at HZ
                go_wp2_with fail
                refine wp_region_after (by kernel_rfl) (by kernel_rfl) ?_
                repeat (go_big_quiet_step ((first
                  | (go_at_call 36; exact After.call (unhide HC _))
                  | (go_at_call 80; exact After.call (unhide HW _)))))
                refine wpQuiet_nil ?_
                rintro _ ⟨t, rfl⟩
                have HB3 := hide (onward (unhide HB2) t.is)
                go_wp2
                go_ret
                exact ⟨ret_bool (unhide HN (unhide HN2 (unhide HZ))).symm, unhide HB3⟩
              | false =>
                rw [hzz] at HZ
                go_wp2_with fail
                refine wp_region_after (by kernel_rfl) (by kernel_rfl) ?_
                repeat (go_big_quiet_step ((first
                  | (go_at_call 36; exact After.call (unhide HC _))
                  | (go_at_call 80; exact After.call (unhide HW _)))))
                refine wpQuiet_nil ?_
                rintro _ ⟨t, rfl⟩
                have HB3 := hide (onward hbi.out t.is)
                go_wp2
                go_roundw
                case rel => exact ⟨e + 1, by omega, by go_num, Lib.hid (unhide HB3), Lib.hid (unhide HP2 (unhide HZ))⟩
                case measure => simp [intOf]; omega
          · have HZ := hide (unhide HY fun j hj => hdi.out j (by omega))
            have HB2 := hide ((unhide HB1).trans (hbi.out.mono (unhide HB1).size))
            have kl2 : ¬ (e : Int) < (x.exits.length : Int) := by omega
            go_wp2
            go_roundw
            case rel => exact ⟨k + 1, by omega, by go_num, Lib.hid (unhide HB2), Lib.hid (unhide HP (unhide HZ))⟩
            case measure => simp [intOf]; omega
    · have HE := hide (all_of (p := zoN l) (d := nd0) fun j hj => hd.out j (by omega))
      have kl : ¬ (k : Int) < (l.length : Int) := by omega
      go_wp2
      go_ret
      exact ⟨ret_bool (unhide HE).symm, hb.out⟩
end Go.Proofs.YtfddpdognelhmaaGreatDoor

/- LayF: Contracts of package layout: waiting and ready: the map of the counts. -/
namespace Go.Proofs.YtfddpdognelhmaaGreatDoor
open Go.RowKit Go.Maps

theorem MapsTo.val {D : DataW Unit} {f : Nat → Option Int} (h : MapsTo D f) {j : Nat} {c : Int} (hat : D.atKey (kN j) (vI 0) = vI c) : c = (f j).getD 0 := by
  rw [h.get] at hat
  injection hat with h1
  injection h1 with _ h2
  exact h2.symm
theorem gW_bd (l : List Nd) (hx : ExG l) (hz : l.length ≤ 1000) {n m e : Nat} (hm : m < l.length) (j : Nat) : 0 ≤ (gW l n m e j).getD 0 ∧ (gW l n m e j).getD 0 ≤ 2000 := by
  rw [gW_get]
  have h1 := cntM_le l [] m j
  have h2 := cE_le (l.getD m nd0) m e j
  have h3 := hx.len m hm
  omega
theorem gW_touch0 (l : List Nd) (m j : Nat) : (if j = m then some ((gW l m m 0 m).getD 0) else gW l m m 0 j) = gW l (m + 1) m 0 j := by
  rw [← gW_touch, Int.add_zero]
theorem grown_alloc (w : World) (o : Obj) : w.grownBy (w.alloc o) none := World.grownBy_alloc w o none

set_option maxHeartbeats 4000000 in
set_option maxRecDepth 100000 in
theorem lwaiting_any (b : Nat) (l : List Nd) (A : Option Addr) (c : Nat) (w : World) (hz : l.length ≤ 1000) (hx : ExG l) (h : NdsIn b w A l) :
    Calls Tryz.prog 64 #[.slice A l.length c] w fun e w' => e = .returned (.map (some w.heap.size)) ∧ Wts w' w.heap.size (3 * l.length) (wtF l []) ∧ Below w.heap.size w w' := by
  have HI := hide h
  have HG := hide hx
  clear h hx
  have hmm := @run_makeMap Tryz.prog
  go_enter Tryz.func64, Tryz.ntmps64
  go_wp2
  clear hmm
  go_loopw [11] (fun i wr => ∃ k : Nat, k ≤ l.length ∧ i = .int .i64 k ∧ Hid (Below w.heap.size w wr) ∧ Hid (Wts wr w.heap.size (3 * k) (gW l k k 0))) (fun i _ => l.length - (intOf i).toNat)
  case atStart => exact ⟨0, Nat.zero_le _, rfl, Lib.hid ((Below.refl _ _).alloc (Nat.le_refl _) _), Lib.hid ((Wts.made w).congr fun j => (gW_start l j).symm)⟩
  case round =>
    obtain ⟨k, hk, rfl, hb, hW⟩ := hrel
    obtain ⟨wo, rfl⟩ : ∃ wo : World, wo = wr := ⟨_, rfl⟩
    by_cases hlt : k < l.length
    · obtain ⟨g, off, rfl, _, hc⟩ := (unhide HI) (by omega)
      obtain ⟨c0, c1, c2, c3, B, d, c4, -, hn⟩ := hc k hlt
      clear hc
      replace c0 := kept hb.out c0
      replace c1 := kept hb.out c1
      replace c2 := kept hb.out c2
      replace c3 := kept hb.out c3
      replace c4 := kept hb.out c4
      obtain ⟨D, hown, hM⟩ := hW.out
      have HM := hide hM
      have hlt0 := World.ownsMap.lt hown
      have b1 := (Below.refl wo.heap.size wo).alloc (Nat.le_refl _) (ndO (l.getD k nd0) B d)
      have NX := hide hn
      have B2 := hide (onward hb.out b1)
      have HO := hide (World.ownsMap.alloc hown (ndO (l.getD k nd0) B d))
      have hbd := gW_bd l (unhide HG) hz (n := k) (e := 0) hlt k
      have HT := hide (gW_touch0 l k)
      have HBD := hide fun e j => gW_bd l (unhide HG) hz (n := k + 1) (e := e) hlt j
      have HE1 := hide fun e (he : e < (l.getD k nd0).exits.length) hs => gW_own (n := k + 1) he hs
      have HE2 := hide fun e t (he : e < (l.getD k nd0).exits.length) ht hs => gW_exit (n := k + 1) (t := t) he ht hs
      have HE3 := hide fun j => gW_next (unhide HG) hlt j
      have HR := hide ((unhide HG).rng k hlt)
      have HQ := hide (show ∀ (W W1 : World), W = wo.alloc (ndO (l.getD k nd0) B d) → W.grownBy W1 (some w.heap.size) → W1.cell? ⟨wo.heap.size, 4, none⟩ = some (.slice B (l.getD k nd0).exits.length d) from fun W W1 e hg => hg.cell (by rw [e, Lib.cell_of_heap (heap_alloc_new wo _)]; rfl) (by simp; omega))
      clear hown hM hn b1
      generalize hv : (gW l k k 0 k).getD 0 = v at *
      have HV := hide hv
      clear hv
      have HK := hide (key_mk (show k < 1000000 by omega))
      have H2 := (unhide HG).len k hlt
      generalize l.getD k nd0 = x at *
      have kl : (k : Int) < (l.length : Int) := by omega
      have k0 : (0 : Int) ≤ (k : Int) := by omega
      go_wp2_with (first
        | (at_lookup; refine wpList_lookup_own_int _ rfl _ _ 101 rfl 3 3 .i64 lawMI Tryz.underlying101 Tryz.underlying3 (zeroMI _) w.heap.size _ _ rfl (unhide HO) _ _ rfl (unhide HK) ?_; intro c' hat hwc; have he := (MapsTo.val (unhide HM) hat).trans (unhide HV); subst he; clear hat hwc)
        | (at_mapUpdate; refine wpList_mapUpdate_own _ rfl _ _ _ 101 rfl 3 3 lawMI Tryz.underlying101 _ w.heap.size _ _ rfl (unhide HO) (by unfold maxLen; omega) _ _ _ rfl rfl (unhide HK) _ [] (plainElem_int Tryz.underlying3 (WalkArith.wf_i64 (by omega))) ?_; intro w1 hown1 hgrow1; have q4 := unhide HQ _ _ rfl hgrow1; have HW1 := hide (show Wts w1 w.heap.size (3 * k + 1) (gW l (k + 1) k 0) from ⟨_, hown1, ((unhide HM).put k _).congr (unhide HT)⟩); have HB1 := hide ((unhide B2).grown hgrow1 (by rw [World.size_alloc]; omega) (fun g hg => by have := Option.some.inj hg; omega)); clear hown1 hgrow1))
      clear q4 c0 c1 c2 c3 c4
      go_loopw [23] (fun i wr => ∃ e : Nat, e ≤ x.exits.length ∧ i = .int .i64 e ∧ Hid (Below w.heap.size w wr) ∧ Hid (Wts wr w.heap.size (3 * k + 1 + e) (gW l (k + 1) k e))) (fun i _ => x.exits.length - (intOf i).toNat)
      case atStart => exact ⟨0, Nat.zero_le _, rfl, Lib.hid (unhide HB1), Lib.hid (unhide HW1)⟩
      case round =>
        obtain ⟨e, he, rfl, hbi, hWi⟩ := hrel
        obtain ⟨wi, rfl⟩ : ∃ wi : World, wi = wr := ⟨_, rfl⟩
        by_cases hlt2 : e < x.exits.length
        · obtain ⟨g', off', rfl, _, hc'⟩ := ((unhide NX).keep hbi.out) (by omega)
          have y0 := hc' e hlt2
          clear hc'
          obtain ⟨j, hj⟩ := Int.eq_ofNat_of_zero_le ((unhide HR) (x.exits.getD e 0) (by rw [at_k hlt2]; exact List.getElem_mem _)).1
          have hjl : j < l.length := by have := ((unhide HR) (x.exits.getD e 0) (by rw [at_k hlt2]; exact List.getElem_mem _)).2; omega
          rw [hj] at y0
          have HJ := hide hj
          clear hj
          have el : (e : Int) < (x.exits.length : Int) := by omega
          have e0 : (0 : Int) ≤ (e : Int) := by omega
          by_cases hjk : j = k
          · have hjk' : ((j : Int) != (k : Int)) = false := by rw [bne_eq_false_iff_eq]; omega
            have HW2 := hide (show Wts wi w.heap.size (3 * k + 1 + (e + 1)) (gW l (k + 1) k (e + 1)) from (hWi.out.congr (unhide HE1 e hlt2 (by rw [unhide HJ, hjk]))).mono (by omega))
            clear hjk
            go_wp2
            go_roundw
            case rel => exact ⟨e + 1, by omega, by go_num, Lib.hid hbi.out, Lib.hid (unhide HW2)⟩
            case measure => simp [intOf]; omega
          · have hjk' : ((j : Int) != (k : Int)) = true := by rw [bne_iff_ne]; omega
            have HT2 := hide (unhide HE2 e j hlt2 (unhide HJ) hjk)
            obtain ⟨D2, hown2, hM2⟩ := hWi.out
            have HM2 := hide hM2
            have HO2 := hide hown2
            have hbs := hbi.out.size
            have hlt3 := World.ownsMap.lt hown2
            have hbd2 := unhide HBD e j
            clear hown2 hM2
            generalize hv2 : (gW l (k + 1) k e j).getD 0 = v2 at *
            have HV2 := hide hv2
            clear hv2 hjk
            have HK2 := hide (key_mk (show j < 1000000 by omega))
            go_wp2_with (first
              | (at_lookup; refine wpList_lookup_own_int _ rfl _ _ 101 rfl 3 3 .i64 lawMI Tryz.underlying101 Tryz.underlying3 (zeroMI _) w.heap.size _ _ rfl (unhide HO2) _ _ rfl (unhide HK2) ?_; intro c' hat hwc; have he := (MapsTo.val (unhide HM2) hat).trans (unhide HV2); subst he; clear hat hwc)
              | (at_mapUpdate; refine wpList_mapUpdate_own _ rfl _ _ _ 101 rfl 3 3 lawMI Tryz.underlying101 _ w.heap.size _ _ rfl (unhide HO2) (by unfold maxLen; omega) _ _ _ rfl rfl (unhide HK2) _ [] (plainElem_int Tryz.underlying3 (WalkArith.wf_i64 (by omega))) ?_; intro w2 hown3 hgrow2; have HW2 := hide (show Wts w2 w.heap.size (3 * k + 1 + (e + 1)) (gW l (k + 1) k (e + 1)) from ⟨_, hown3, ((unhide HM2).put j _).congr (unhide HT2)⟩); have HB2 := hide (hbi.out.grown hgrow2 hbs (fun g hg => by have := Option.some.inj hg; omega)); clear hown3 hgrow2))
            go_roundw
            case rel => exact ⟨e + 1, by omega, by go_num, Lib.hid (unhide HB2), Lib.hid (unhide HW2)⟩
            case measure => simp [intOf]; omega
        · have HW2 := hide (show Wts wi w.heap.size (3 * (k + 1)) (gW l (k + 1) (k + 1) 0) from by
            obtain rfl : e = x.exits.length := by omega
            exact (hWi.out.congr (unhide HE3)).mono (by omega))
          have kl2 : ¬ (e : Int) < (x.exits.length : Int) := by omega
          go_wp2
          go_roundw
          case rel => exact ⟨k + 1, by omega, by go_num, Lib.hid hbi.out, Lib.hid (unhide HW2)⟩
          case measure => simp [intOf]; omega
    · have HE := hide (show Wts wo w.heap.size (3 * l.length) (wtF l []) from by
        obtain rfl : k = l.length := by omega
        exact hW.out.congr fun j => gW_end (unhide HG) j)
      have kl : ¬ (k : Int) < (l.length : Int) := by omega
      go_wp2
      go_ret
      exact ⟨rfl, unhide HE, hb.out⟩
end Go.Proofs.YtfddpdognelhmaaGreatDoor

/- LayG: Contracts of package layout: ready and order. -/
namespace Go.Proofs.YtfddpdognelhmaaGreatDoor
open Go.RowKit Go.Maps

theorem wtF_lt {l : List Nd} {out : List Nat} {j : Nat} {v : Int} (h : wtF l out j = some v) : j < l.length := by
  unfold wtF at h
  split at h
  · rename_i hc; exact hc.1
  · exact absurd h (by simp)
set_option maxHeartbeats 2000000 in
set_option maxRecDepth 100000 in
theorem lready_some (l : List Nd) (out : List Nat) (i B n : Nat) (A : Option Addr) (c : Nat) (w : World) (hz : l.length ≤ 1000) (hW : Wts w B n (wtF l out)) (hi : nextO l out = some i) :
    Calls Tryz.prog 65 #[.slice A l.length c, .map (some B)] w fun e w' => e = .returned (.tuple #[.int .i64 (i : Int), .bool true]) ∧ w = w' := by
  obtain ⟨h1, h2, h3, h4⟩ := nextO_some hi
  have hi0 : wtF l out i = some 0 := by
    have := List.find?_some hi
    simpa using this
  obtain ⟨D, hown, hM⟩ := hW
  have HM := hide hM
  have HO := hide hown
  have H4 := hide h4
  have HI := hide hi0
  clear hi h2 h3 h4 hi0 hown hM
  go_enter Tryz.func65, Tryz.ntmps65
  go_wp2
  go_loop [11] (fun s => ∃ k : Nat, k ≤ i ∧ s = .int .i64 k) (fun s => l.length - (intOf s).toNat)
  case atStart => exact ⟨0, Nat.zero_le _, rfl⟩
  case round =>
    obtain ⟨k, hk, rfl⟩ := hrel
    have kl : (k : Int) < (l.length : Int) := by omega
    have HK := hide (key_mk (show k < 1000000 by omega))
    by_cases hki : k = i
    · subst hki
      have HH := hide (show Maps.has D (kN k) = true by rw [(unhide HM).has, unhide HI]; rfl)
      have HV := hide (show (wtF l out k).getD 0 = 0 by rw [unhide HI]; rfl)
      go_wp2_with (first
        | (at_lookup; refine wpList_lookup_own_ok_int _ rfl _ _ 101 rfl 3 3 .i64 lawMI Tryz.underlying101 Tryz.underlying3 (zeroMI _) B _ _ rfl (unhide HO) _ _ rfl (unhide HK) ?_; intro c' hat hwc; have he := (MapsTo.val (unhide HM) hat).trans (unhide HV); subst he; clear hat hwc; rw [unhide HH]))
      go_ret2
      exact ⟨rfl, rfl⟩
    · have hlt : k < i := by omega
      have HN := hide (unhide H4 k hlt)
      cases hf : wtF l out k with
      | none =>
        have HH := hide (show Maps.has D (kN k) = false by rw [(unhide HM).has, hf]; rfl)
        have HV := hide (show (wtF l out k).getD 0 = 0 by rw [hf]; rfl)
        clear hf hki
        go_wp2_with (first
          | (at_lookup; refine wpList_lookup_own_ok_int _ rfl _ _ 101 rfl 3 3 .i64 lawMI Tryz.underlying101 Tryz.underlying3 (zeroMI _) B _ _ rfl (unhide HO) _ _ rfl (unhide HK) ?_; intro c' hat hwc; have he := (MapsTo.val (unhide HM) hat).trans (unhide HV); subst he; clear hat hwc; rw [unhide HH]))
        go_round
        case rel => exact ⟨k + 1, by omega, by go_num⟩
        case measure => simp [intOf]; omega
      | some v =>
        have hv0 : ¬ v = 0 := fun e => unhide HN (by rw [hf, e])
        have hvb : (v == 0) = false := by simpa using hv0
        have HH := hide (show Maps.has D (kN k) = true by rw [(unhide HM).has, hf]; rfl)
        have HV := hide (show (wtF l out k).getD 0 = v by rw [hf]; rfl)
        clear hf hki hv0
        go_wp2_with (first
          | (at_lookup; refine wpList_lookup_own_ok_int _ rfl _ _ 101 rfl 3 3 .i64 lawMI Tryz.underlying101 Tryz.underlying3 (zeroMI _) B _ _ rfl (unhide HO) _ _ rfl (unhide HK) ?_; intro c' hat hwc; have he := (MapsTo.val (unhide HM) hat).trans (unhide HV); subst he; clear hat hwc; rw [unhide HH]))
        go_round
        case rel => exact ⟨k + 1, by omega, by go_num⟩
        case measure => simp [intOf]; omega
set_option maxHeartbeats 2000000 in
set_option maxRecDepth 100000 in
theorem lready_none (l : List Nd) (out : List Nat) (B n : Nat) (A : Option Addr) (c : Nat) (w : World) (hz : l.length ≤ 1000) (hW : Wts w B n (wtF l out)) (hi : nextO l out = none) :
    Calls Tryz.prog 65 #[.slice A l.length c, .map (some B)] w fun e w' => e = .returned (.tuple #[.int .i64 0, .bool false]) ∧ w = w' := by
  have h4 := nextO_none hi
  obtain ⟨D, hown, hM⟩ := hW
  have HM := hide hM
  have HO := hide hown
  have H4 := hide h4
  clear hi h4 hown hM
  go_enter Tryz.func65, Tryz.ntmps65
  go_wp2
  go_loop [11] (fun s => ∃ k : Nat, k ≤ l.length ∧ s = .int .i64 k) (fun s => l.length - (intOf s).toNat)
  case atStart => exact ⟨0, Nat.zero_le _, rfl⟩
  case round =>
    obtain ⟨k, hk, rfl⟩ := hrel
    by_cases hlt : k < l.length
    · have kl : (k : Int) < (l.length : Int) := by omega
      have HK := hide (key_mk (show k < 1000000 by omega))
      have HN := hide (unhide H4 k hlt)
      cases hf : wtF l out k with
      | none =>
        have HH := hide (show Maps.has D (kN k) = false by rw [(unhide HM).has, hf]; rfl)
        have HV := hide (show (wtF l out k).getD 0 = 0 by rw [hf]; rfl)
        clear hf
        go_wp2_with (first
          | (at_lookup; refine wpList_lookup_own_ok_int _ rfl _ _ 101 rfl 3 3 .i64 lawMI Tryz.underlying101 Tryz.underlying3 (zeroMI _) B _ _ rfl (unhide HO) _ _ rfl (unhide HK) ?_; intro c' hat hwc; have he := (MapsTo.val (unhide HM) hat).trans (unhide HV); subst he; clear hat hwc; rw [unhide HH]))
        go_round
        case rel => exact ⟨k + 1, by omega, by go_num⟩
        case measure => simp [intOf]; omega
      | some v =>
        have hv0 : ¬ v = 0 := fun e => unhide HN (by rw [hf, e])
        have hvb : (v == 0) = false := by simpa using hv0
        have HH := hide (show Maps.has D (kN k) = true by rw [(unhide HM).has, hf]; rfl)
        have HV := hide (show (wtF l out k).getD 0 = v by rw [hf]; rfl)
        clear hf hv0
        go_wp2_with (first
          | (at_lookup; refine wpList_lookup_own_ok_int _ rfl _ _ 101 rfl 3 3 .i64 lawMI Tryz.underlying101 Tryz.underlying3 (zeroMI _) B _ _ rfl (unhide HO) _ _ rfl (unhide HK) ?_; intro c' hat hwc; have he := (MapsTo.val (unhide HM) hat).trans (unhide HV); subst he; clear hat hwc; rw [unhide HH]))
        go_round
        case rel => exact ⟨k + 1, by omega, by go_num⟩
        case measure => simp [intOf]; omega
    · have kl : ¬ (k : Int) < (l.length : Int) := by omega
      go_wp2
      go_ret2
      exact ⟨rfl, rfl⟩
def lenV : Value → Nat
  | .slice _ n _ => n
  | _ => 0
theorem lenV_own {w : World} {base : Nat} {e : TypeId} {v : Value} {n : Nat} {xs : List Value} (h : w.ownsRow base e 1 v n xs) : lenV v = n := by
  rcases h.2 with ⟨rfl, rfl⟩ | ⟨g, cap, cur, rfl, _⟩ <;> rfl
def outV (out : List Nat) : List Value := out.map fun (j : Nat) => Value.int .i64 (Int.ofNat j)
theorem outV_ord (l : List Nd) : outV (ordN l) = (ordF l).map (Value.int .i64) := by
  unfold outV ordF; rw [List.map_map]; rfl
/-- How far the order has come, and which node is next. -/
def OrdAt (l : List Nd) (out : List Nat) (i ok : Value) : Prop :=
  Ord l out ∧ ordG l (l.length - out.length) out = ordN l ∧ ((nextO l out = none ∧ i = .int .i64 0 ∧ ok = .bool false) ∨ ∃ j : Nat, nextO l out = some j ∧ i = .int .i64 (j : Int) ∧ ok = .bool true)
theorem OrdAt.stop {l : List Nd} {out : List Nat} {i ok : Value} (h : OrdAt l out i ok) (hn : nextO l out = none) : out = ordN l := by
  have := h.2.1
  rwa [ordG_stop hn] at this
theorem OrdAt.go {l : List Nd} {out : List Nat} {i ok : Value} (h : OrdAt l out i ok) {j : Nat} (hn : nextO l out = some j) : Ord l (out ++ [j]) ∧ ordG l (l.length - (out ++ [j]).length) (out ++ [j]) = ordN l := by
  refine ⟨h.1.snoc hn, ?_⟩
  have h1 := h.2.1
  have h2 := h.1.lt_of_next hn
  rw [show l.length - out.length = (l.length - (out ++ [j]).length) + 1 by rw [List.length_append, List.length_singleton]; omega, ordG_go hn] at h1
  exact h1
/-- What the loop over the nodes keeps. -/
structure OrdW (l : List Nd) (w : World) (v i ok : Value) (out : List Nat) (wr : World) : Prop where
  at' : OrdAt l out i ok
  below : Below w.heap.size w wr
  wts : Wts wr w.heap.size (3 * l.length + 2 * out.length) (wtF l out)
  row : wr.ownsRow (w.heap.size + 1) 3 1 v out.length (outV out)
  lt : w.heap.size < wr.heap.size
theorem row_turn {w w1 : World} {B : Nat} {v : Value} {n : Nat} {xs : List Value} (h : w.ownsRow (B + 1) 3 1 v n xs) (hg : w.grownBy w1 (some B)) : w1.ownsRow (B + 1) 3 1 v n xs :=
  h.kept hg (by
    cases hv : v.ownBlock with
    | none => exact Or.inl rfl
    | some k =>
      refine Or.inr fun e => ?_
      have h1 := (h.lt k hv).1
      have h2 := Option.some.inj e
      omega)
set_option maxHeartbeats 4000000 in
set_option maxRecDepth 100000 in
theorem lorder_any (b : Nat) (l : List Nd) (A : Option Addr) (c : Nat) (w : World) (hz : l.length ≤ 1000) (hx : ExG l) (h : NdsIn b w A l) :
    Calls Tryz.prog 42 #[.slice A l.length c] w (IntsO (ordF l) w) := by
  obtain ⟨i0, hi, hz0, hz1, hz2⟩ := info_parts linfo_int
  have Hi := hide hi
  have Hz0 := hide hz0
  have Hz1 := hide hz1
  have Hz2 := hide hz2
  clear hi hz0 hz1 hz2
  have HI := hide h
  have HG := hide hx
  have HW := hide (lwaiting_any b l A c w hz hx h)
  have HRS := hide fun out i n W => lready_some l out i w.heap.size n A c W hz
  have HRN := hide fun out n W => lready_none l out w.heap.size n A c W hz
  clear h hx
  go_enter Tryz.func42, Tryz.ntmps42
  go_wp2_with fail
  refine (unhide HW).mono ?_
  rintro e w1 ⟨rfl, hw1, hb1⟩
  have HW1 := hide hw1
  have HB1 := hide hb1
  have hlt1 : w.heap.size < w1.heap.size := by obtain ⟨D, h1, -⟩ := hw1; exact World.ownsMap.lt h1
  clear HW hw1 hb1
  have tail : ∀ (i ok : Value), OrdAt l [] i ok → OrdW l w (.slice none 0 0) i ok [] w1 := fun i ok h => ⟨h, unhide HB1, unhide HW1, ⟨rfl, .inl ⟨rfl, rfl⟩⟩, hlt1⟩
  have HT := hide tail
  clear tail
  have HFirst : ∃ i ok, OrdAt l [] i ok ∧ Calls Tryz.prog 65 #[.slice A l.length c, .map (some w.heap.size)] w1 fun e w' => e = .returned (.tuple #[i, ok]) ∧ w1 = w' := by
    cases hn : nextO l [] with
    | none => exact ⟨_, _, ⟨Ord.nil l, rfl, .inl ⟨hn, rfl, rfl⟩⟩, unhide HRN [] _ w1 (unhide HW1) hn⟩
    | some j => exact ⟨_, _, ⟨Ord.nil l, rfl, .inr ⟨j, hn, rfl, rfl⟩⟩, unhide HRS [] j _ w1 (unhide HW1) hn⟩
  obtain ⟨fi, fok, hoa, hcall⟩ := HFirst
  have HOA := hide (unhide HT _ _ hoa)
  have HC := hide hcall
  clear hoa hcall HT
  go_wp2_with (first | (go_at_call 65; refine (unhide HC).mono ?_; rintro e w2 ⟨rfl, rfl⟩))
  clear hlt1
  go_loopw [3, 5, 6] (fun v i ok wr => ∃ out : List Nat, OrdW l w v i ok out wr) (fun v _ _ _ => l.length - lenV v)
  case atStart => exact ⟨[], unhide HOA⟩
  case round =>
    obtain ⟨out, hS⟩ := hrel
    obtain ⟨wo, rfl⟩ : ∃ wo : World, wo = wr := ⟨_, rfl⟩

    rcases hS.at'.2.2 with ⟨hn, rfl, rfl⟩ | ⟨j, hn, rfl, rfl⟩
    · have HO := hide (hS.at'.stop hn)
      have HR := hide hS.row
      have HB := hide hS.below
      clear hS hn
      go_wp2
      go_ret
      refine ⟨_, rfl, ?_, unhide HB⟩
      have h1 := unhide HR
      rw [unhide HO] at h1
      have h2 := outV_ord l
      rw [h2, ← ordF_len] at h1
      exact own_base h1 (Nat.le_succ _)
    · obtain ⟨hjl, hjo, -, -⟩ := nextO_some hn
      have hgo := hS.at'.go hn
      have hol := hS.at'.1.lt_of_next hn
      have HOrd := hide hS.at'.1
      have HGo := hide hgo
      have HJo := hide hjo
      have HR := hide hS.row
      have HB := hide hS.below
      have HWt := hide hS.wts
      have hlt := hS.lt
      have HLv := hide (lenV_own hS.row)
      clear hS hn hgo hjo
      obtain ⟨g, off, rfl, _, hc⟩ := (unhide HI) (by omega)
      obtain ⟨-, -, -, -, B, d, c4, -, hx⟩ := hc j hjl
      have HC4 := hide c4
      have HX := hide hx
      have H2 := (unhide HG).len j hjl
      have HRg := hide ((unhide HG).rng j hjl)
      clear hc c4 hx
      have HE1 := hide fun e (he : e < (l.getD j nd0).exits.length) hs => gO_own (out := out) he hs
      have HE2 := hide fun e t (he : e < (l.getD j nd0).exits.length) ht hs htl => gO_exit (t := t) (unhide HOrd) hjl (unhide HJo) he ht hs htl
      have HEA := hide fun e t (he : e < (l.getD j nd0).exits.length) ht hs htl => gO_at (t := t) (unhide HOrd) hjl (unhide HJo) he ht hs htl
      have HE3 := hide fun k => gO_end (unhide HG) hjl (unhide HJo) k
      have HCB := hide fun m k => cntM_le l out m k
      have HCE := hide fun e k => cE_le (l.getD j nd0) j e k
      generalize l.getD j nd0 = x at *
      have jl : (j : Int) < (l.length : Int) := by omega
      have j0 : (0 : Int) ≤ (j : Int) := by omega
      have outl : (outV out).length = out.length := by unfold outV; simp
      have HOL := hide outl
      clear outl
      go_wp2_with (first
        | (at_builtin; refine wpList_append_own _ rfl _ _ 26 rfl (w.heap.size + 1) 3 i0 (.int .i64 0) 1 8 Tryz.underlying26 (unhide Hi) (unhide Hz0) (unhide Hz1) (unhide Hz2) rfl (by decide) _ _ _ rfl ((unhide HR).alloc _) ⟨wo.heap.size, 0, none⟩ 1 1 [.int .i64 (j : Int)] rfl rfl ?c1 ?c2 ?c3 ?c4 ?c5 ?_))
      case c1 => exact lone_new wo _ _
      case c2 =>
        intro u hu
        simp at hu
        subst hu
        rfl
      case c3 => unfold maxLen; omega
      case c4 => omega
      case c5 => rw [World.size_alloc]; omega
      intro v' w2 hown2 hgrow _
      have HR2 := hide hown2
      have HB2 := hide (((unhide HB).alloc (by omega) _).grown hgrow (by rw [World.size_alloc]; omega) (fun g hg => by have := ((unhide HR).lt g hg).1; omega))
      have hlt2 : w.heap.size < w2.heap.size := by have := hgrow.size; rw [World.size_alloc] at this; omega
      have HW2 := hide (((unhide HWt).kept (grown_alloc wo _) (by simp)).kept hgrow (fun e => by have := ((unhide HR).lt _ e.symm).1; omega))
      clear hown2 hgrow
      obtain ⟨D, hown, hM⟩ := unhide HW2
      have HM := hide hM
      have HO := hide hown
      have HK := hide (key_mk (show j < 1000000 by omega))
      clear hown hM HW2
      go_wp2_with (first
        | (at_delete; refine wpList_delete_own _ rfl _ _ 101 3 rfl 3 lawMI Tryz.underlying101 _ w.heap.size _ D rfl (unhide HO) _ _ rfl (unhide HK) ?_; intro w3 hown3 hturn3; have HB3 := hide ((unhide HB2).grown hturn3.grown (Nat.le_of_lt hlt2) (fun g hg => by have := Option.some.inj hg; omega)); have HW3 := hide (show Wts w3 w.heap.size _ (gO l out j 0) from ⟨_, hown3, ((unhide HM).del j).congr fun k => gO_start l out j k⟩); have HR3 := hide (row_turn (unhide HR2) hturn3.grown); have q4 := kept (unhide HB3) (unhide HC4); have hlt3 : w.heap.size < w3.heap.size := Nat.lt_of_lt_of_le hlt2 hturn3.grown.size; clear hown3 hturn3))
      clear q4
      have HRow := hide (show w3.ownsRow (w.heap.size + 1) 3 1 v' (out ++ [j]).length (outV (out ++ [j])) from by
        have h1 := unhide HR3
        rw [List.length_append]
        unfold outV at h1 ⊢
        rw [List.map_append]
        exact h1)
      clear HR3 HR2 HR HB HWt HB2 HM HO
      go_loopw [36] (fun s wr => ∃ e : Nat, e ≤ x.exits.length ∧ s = .int .i64 e ∧ Hid (Below w.heap.size w wr) ∧ Hid (Wts wr w.heap.size (3 * l.length + 2 * out.length + e) (gO l out j e)) ∧ Hid (wr.ownsRow (w.heap.size + 1) 3 1 v' (out ++ [j]).length (outV (out ++ [j])))) (fun s _ => x.exits.length - (intOf s).toNat)
      case atStart => exact ⟨0, Nat.zero_le _, rfl, Lib.hid (unhide HB3), Lib.hid (unhide HW3), Lib.hid (unhide HRow)⟩
      case round =>
        obtain ⟨e, he, rfl, hbi, hWi, hRi⟩ := hrel
        obtain ⟨wi, rfl⟩ : ∃ wi : World, wi = wr := ⟨_, rfl⟩
        by_cases hlt2' : e < x.exits.length
        · obtain ⟨g', off', rfl, _, hc'⟩ := ((unhide HX).keep hbi.out) (by omega)
          have y0 := hc' e hlt2'
          clear hc'
          obtain ⟨k, hk⟩ := Int.eq_ofNat_of_zero_le ((unhide HRg) (x.exits.getD e 0) (by rw [at_k hlt2']; exact List.getElem_mem _)).1
          have hkl : k < l.length := by have := ((unhide HRg) (x.exits.getD e 0) (by rw [at_k hlt2']; exact List.getElem_mem _)).2; omega
          rw [hk] at y0
          have HKE := hide hk
          clear hk
          have el : (e : Int) < (x.exits.length : Int) := by omega
          have e0 : (0 : Int) ≤ (e : Int) := by omega
          by_cases hjk : k = j
          · have hjk' : ((k : Int) != (j : Int)) = false := by rw [bne_eq_false_iff_eq]; omega
            have HW4 := hide (show Wts wi w.heap.size (3 * l.length + 2 * out.length + (e + 1)) (gO l out j (e + 1)) from (hWi.out.congr (unhide HE1 e hlt2' (by rw [unhide HKE, hjk]))).mono (by omega))
            clear hjk
            go_wp2
            go_roundw
            case rel => exact ⟨e + 1, by omega, by go_num, Lib.hid hbi.out, Lib.hid (unhide HW4), Lib.hid hRi.out⟩
            case measure => simp [intOf]; omega
          · have hjk' : ((k : Int) != (j : Int)) = true := by rw [bne_iff_ne]; omega
            have HT2 := hide (unhide HE2 e k hlt2' (unhide HKE) hjk hkl)
            have HAt := unhide HEA e k hlt2' (unhide HKE) hjk hkl
            obtain ⟨D2, hown2, hM2⟩ := hWi.out
            have HM2 := hide hM2
            have HO2 := hide hown2
            have hbs := hbi.out.size
            have hb1 := unhide HCB l.length k
            have hb2 := unhide HCE e k
            have hbd2 : -2000 ≤ (gO l out j e k).getD 0 ∧ (gO l out j e k).getD 0 ≤ 2000 := by
              rw [HAt]
              show -2000 ≤ (_ : Int) - _ ∧ (_ : Int) - _ ≤ 2000
              omega
            clear hown2 hM2 HAt hb1 hb2
            generalize hv2 : (gO l out j e k).getD 0 = v2 at *
            have HV2 := hide hv2
            clear hv2 hjk
            have HK2 := hide (key_mk (show k < 1000000 by omega))
            go_wp2_with (first
              | (at_lookup; refine wpList_lookup_own_int _ rfl _ _ 101 rfl 3 3 .i64 lawMI Tryz.underlying101 Tryz.underlying3 (zeroMI _) w.heap.size _ _ rfl (unhide HO2) _ _ rfl (unhide HK2) ?_; intro c' hat hwc; have he := (MapsTo.val (unhide HM2) hat).trans (unhide HV2); subst he; clear hat hwc)
              | (at_mapUpdate; refine wpList_mapUpdate_own _ rfl _ _ _ 101 rfl 3 3 lawMI Tryz.underlying101 _ w.heap.size _ _ rfl (unhide HO2) (by unfold maxLen; omega) _ _ _ rfl rfl (unhide HK2) _ [] (plainElem_int Tryz.underlying3 (WalkArith.wf_i64 (by omega))) ?_; intro w4 hown4 hgrow4; have HW4 := hide (show Wts w4 w.heap.size (3 * l.length + 2 * out.length + (e + 1)) (gO l out j (e + 1)) from ⟨_, hown4, ((unhide HM2).put k _).congr (unhide HT2)⟩); have HB4 := hide (hbi.out.grown hgrow4 hbs (fun g hg => by have := Option.some.inj hg; omega)); have HR4 := hide (row_turn hRi.out hgrow4); clear hown4 hgrow4))
            go_roundw
            case rel => exact ⟨e + 1, by omega, by go_num, Lib.hid (unhide HB4), Lib.hid (unhide HW4), Lib.hid (unhide HR4)⟩
            case measure => simp [intOf]; omega
        · have HW4 := hide (show Wts wi w.heap.size (3 * l.length + 2 * (out ++ [j]).length) (wtF l (out ++ [j])) from by
            obtain rfl : e = x.exits.length := by omega
            rw [List.length_append, List.length_singleton]
            exact (hWi.out.congr (unhide HE3)).mono (by omega))
          have hlt4 : w.heap.size < wi.heap.size := by obtain ⟨D4, h4, -⟩ := hWi.out; exact World.ownsMap.lt h4
          have kl2 : ¬ (e : Int) < (x.exits.length : Int) := by omega
          have hlv : lenV v' = out.length + 1 := by
            have := lenV_own hRi.out
            rwa [List.length_append, List.length_singleton] at this
          have HLv' := hide hlv
          clear hlv
          cases hn2 : nextO l (out ++ [j]) with
          | none =>
            have HC := hide (unhide HRN (out ++ [j]) _ wi (unhide HW4) hn2)
            have HEnd := hide (show OrdW l w v' (.int .i64 0) (.bool false) (out ++ [j]) wi from ⟨⟨(unhide HGo).1, (unhide HGo).2, .inl ⟨hn2, rfl, rfl⟩⟩, hbi.out, unhide HW4, hRi.out, hlt4⟩)
            clear hn2 hlt4
            go_wp2_with (first | (go_at_call 65; refine (unhide HC).mono ?_; rintro e w5 ⟨rfl, rfl⟩))
            go_roundw
            case rel => exact ⟨_, unhide HEnd⟩
            case measure => rw [unhide HLv, unhide HLv']; omega
          | some j2 =>
            have HC := hide (unhide HRS (out ++ [j]) j2 _ wi (unhide HW4) hn2)
            have HEnd := hide (show OrdW l w v' (.int .i64 (j2 : Int)) (.bool true) (out ++ [j]) wi from ⟨⟨(unhide HGo).1, (unhide HGo).2, .inr ⟨j2, hn2, rfl, rfl⟩⟩, hbi.out, unhide HW4, hRi.out, hlt4⟩)
            clear hn2 hlt4
            go_wp2_with (first | (go_at_call 65; refine (unhide HC).mono ?_; rintro e w5 ⟨rfl, rfl⟩))
            go_roundw
            case rel => exact ⟨_, unhide HEnd⟩
            case measure => rw [unhide HLv, unhide HLv']; omega
end Go.Proofs.YtfddpdognelhmaaGreatDoor
