/-
  LayoutZones: the walk.
-/
import Derived.Test.YtmonjjffbmccjaaGreatDoorLayGf
import Derived.Test.YtmonjjffbmccjaaGreatDoorLayAw
namespace Go.Proofs.YtmonjjffbmccjaaGreatDoor
open Go.RowKit

theorem lints_later {w w' : World} {A : Option Addr} {n : Nat} (h : IntsIn w.heap.size w A n) (hb : Below w.heap.size w w') : IntsIn w'.heap.size w' A n := fun hn => by
  obtain ⟨g, off, hA, hg, hx⟩ := h hn
  have := hb.size
  refine ⟨g, off, hA, by omega, fun i hi => ?_⟩
  obtain ⟨x, hx⟩ := hx i hi
  exact ⟨x, kept hb hx⟩
theorem GenL.few {z : GSz} {x : Lay} (h : GenL z x) {i : Nat} (hi : i < z.n) : (x.nodes.getD i nd0).exits.length ≤ 2 := by
  have u := (h.u hi).ex
  unfold exOk at u
  rw [Bool.and_eq_true, decide_eq_true_eq] at u
  have := exN_le (x.nodes.getD i nd0).kind
  omega
theorem GenL.n11 {z : GSz} {x : Lay} (h : GenL z x) : z.n ≤ 11 := by have := z.eq; have := h.ok.a2; have := h.ok.b2; have := h.ok.c2; omega
theorem GenL.lay {z : GSz} {x : Lay} (h : GenL z x) {b : Nat} {w : World} {A D : Option Addr} (hN : NdsIn b w A x.nodes) (hD : DvsIn b w D x.devs) : LayIn b w x A D :=
  ⟨hN, hD, fun y hy => by
    obtain ⟨i, hi, rfl⟩ := List.getElem_of_mem hy
    have := h.few (i := i) (by rw [← h.len]; exact hi)
    rw [at_k hi] at this
    omega, by have := h.n11; have := h.len; omega, by have := h.dv.few; omega⟩
/-- Where a bag stands that came from the Entry: after i steps, behind a Gate's exit 1 or not. -/
structure ZoP (z : GSz) (i p : Nat) (b : Bool) : Prop where
  lt : p < z.n
  zone : zoG z p = if b = true then 1 else 0
  late : 30 ≤ i → i ≤ p + 30
theorem ZoP.start {z : GSz} {x : Lay} (_h : GenL z x) : ZoP z 0 0 false := ⟨by have := z.eq; omega, by unfold zoG; rw [if_pos (.inl (Nat.zero_le _))]; rfl, fun h => by omega⟩
theorem zo_step {z : GSz} {x : Lay} (h : GenL z x) {i p k : Nat} {b b' : Bool} (hP : ZoP z i p b) (hk : k < (x.nodes.getD p nd0).exits.length)
    (hl : (x.nodes.getD p nd0).kind = 5 → 30 ≤ i → k = 1) (hb : b' = (b || (decide ((x.nodes.getD p nd0).kind = 6) && decide (k = 1)))) :
    ∃ p' : Nat, (x.nodes.getD p nd0).exits.getD k 0 = (p' : Int) ∧ ZoP z (i + 1) p' b' := by
  have u := h.u hP.lt
  obtain ⟨b1, b2, b3, b4⟩ := u.beh k hk
  obtain ⟨p', hp'⟩ := Int.eq_ofNat_of_zero_le b1
  refine ⟨p', hp', by omega, ?_, fun hi => ?_⟩
  · rw [hp', Int.toNat_natCast] at b4
    rw [b4]
    unfold zBeh
    by_cases h6 : (x.nodes.getD p nd0).kind = 6 ∧ (k : Int) = 1
    · rw [if_pos h6, hb, decide_eq_true h6.1, decide_eq_true (show k = 1 by omega)]
      simp
    · rw [if_neg h6, u.zone, hP.zone]
      have : (decide ((x.nodes.getD p nd0).kind = 6) && decide (k = 1)) = false := by
        rw [Bool.and_eq_false_iff]
        by_cases e : (x.nodes.getD p nd0).kind = 6
        · exact .inr (decide_eq_false fun e2 => h6 ⟨e, by omega⟩)
        · exact .inl (decide_eq_false e)
      rw [this, Bool.or_false] at hb
      rw [hb]
  · by_cases h30 : 30 ≤ i
    · have h1 := hP.late h30
      have hmem : (p' : Int) ∈ (x.nodes.getD p nd0).exits := by rw [← hp', at_k hk]; exact List.getElem_mem _
      have : p < p' := by
        by_cases e : (p' : Int) = (p : Int)
        · exfalso
          have h5 := u.own _ hmem e
          obtain ⟨t, ht, hlt⟩ := u.loop h5
          have := hl h5 h30
          subst this
          rw [ht] at hp'
          have : t = (p' : Int) := hp'
          omega
        · have := u.up _ hmem e
          omega
      omega
    · omega
/-- What the walk keeps. -/
structure ZoS (w : World) (q s : Nat) (x : Lay) (A : Option Addr) (c : Nat) (D : Option Addr) (d : Nat) (wr : World) : Prop where
  bel : Below w.heap.size w wr
  box : wr.heap[q]? = some (lO x A c D d)
  nds : NdsIn s wr A x.nodes
  src : Src s s wr
  wq : w.heap.size ≤ q
  qs : q < s
theorem ZoS.below {w : World} {q s : Nat} {x : Lay} {A : Option Addr} {c : Nat} {D : Option Addr} {d : Nat} {wr w1 : World} (h : ZoS w q s x A c D d wr) (hb : Below wr.heap.size wr w1) : ZoS w q s x A c D d w1 :=
  ⟨onward h.bel hb, heap_below h.box hb, h.nds.keep hb, h.src.keep hb, h.wq, h.qs⟩
theorem ZoS.read {w : World} {q s : Nat} {x : Lay} {A : Option Addr} {c : Nat} {D : Option Addr} {d : Nat} {wr w1 : World} (h : ZoS w q s x A c D d wr) (hs : Src s s w1) (hg : wr.grownBy w1 (some s)) : ZoS w q s x A c D d w1 :=
  ⟨below_reads h.bel hg (by have := h.wq; have := h.qs; omega) h.bel.size, (hg.block q (Array.getElem?_eq_some_iff.1 h.box).1 (by have := h.qs; simp; omega)).trans h.box, h.nds.grown hg, hs, h.wq, h.qs⟩

set_option maxHeartbeats 8000000 in
set_option maxRecDepth 100000 in
theorem lzonesw_any (A1 : Option Addr) (n1 c1 : Nat) (A2 : Option Addr) (n2 c2 : Nat) (w : World) (hT : LTab w) (hc1 : n1 ≤ c1) (hI1 : IntsIn w.heap.size w A1 n1) (hc2 : n2 ≤ c2) (hI2 : IntsIn w.heap.size w A2 n2) :
    Calls Tryz.prog 7 #[.slice A1 n1 c1, .slice A2 n2 c2] w fun e w' => e = .returned (.bool true) ∧ Below w.heap.size w w' := by
  have HT := hide hT
  have HI2 := hide hI2
  clear hT hI2
  go_enter Tryz.func7, Tryz.ntmps7
  go_wp2_with fail
  refine (new_any A1 n1 c1 w hc1 hI1).mono ?_
  rintro e w1 ⟨rfl, hs1, hb1⟩
  go_wp2_with fail
  refine (klayout_any _ _ _ hs1).mono ?_
  rintro e w2 ⟨z, x, A, c, D, d, rfl, hG, hN, hD, hs2, hg2⟩
  have B2 := below_reads hb1 hg2 (Nat.le_refl _) hb1.size
  have b3 := (Below.refl w2.heap.size w2).alloc (Nat.le_refl _) (lO x A c D d)
  have HB3 := hide (onward B2 b3)
  have HBx3 := hide (heap_alloc_new w2 (lO x A c D d))
  have hw2 : w.heap.size < w2.heap.size := hs2.lt
  have HI3 := hide (hG.lay (hN.keep b3) (hD.keep b3))
  have HV := hide (lval_any _ x A D c d _ (unhide HI3))
  rw [hG.zero] at HV
  have HG := hide hG
  have l0 : (w2.alloc (lO x A c D d)).cell? ⟨w2.heap.size, 0, none⟩ = some (.slice A x.nodes.length c) := by rw [Lib.cell_of_heap (unhide HBx3)]; rfl
  have l1 : (w2.alloc (lO x A c D d)).cell? ⟨w2.heap.size, 1, none⟩ = some (.slice D x.devs.length d) := by rw [Lib.cell_of_heap (unhide HBx3)]; rfl
  generalize hq : w2.heap.size = q at *
  clear hb1 hs1 hg2 hN hD hs2 B2 b3 hG
  go_wp2_with fail
  refine (unhide HV).mono ?_
  rintro e w4 ⟨rfl, hb4⟩
  have HB4 := hide (onward (unhide HB3) hb4)
  have HBx4 := hide (heap_below (unhide HBx3) hb4)
  have HN4 := hide (((unhide HI3).nds.keep hb4).other (b' := w4.heap.size) (Nat.le_refl _))
  have hI4 := lints_later (unhide HI2) (unhide HB4)
  have hq4 := (Array.getElem?_eq_some_iff.1 (unhide HBx4)).1
  clear hb4 l0 l1
  go_wp2_with fail
  refine (new_any A2 n2 c2 w4 hc2 hI4).mono ?_
  rintro e w5 ⟨rfl, hs5, hb5⟩
  have hZ : ZoS w q w4.heap.size x A c D d w5 := ⟨onward (unhide HB4) hb5, heap_below (unhide HBx4) hb5, (unhide HN4).keep hb5, hs5, by omega, hq4⟩
  have HZ := hide hZ
  have HP := hide (ZoP.start (unhide HG))
  have hxl := (unhide HG).len
  have hn11 := (unhide HG).n11
  generalize hs : w4.heap.size = s at *
  clear hb5 hs5 hI4 hZ HN4 HBx4 HB4
  go_wp2
  go_loopw [7, 8, 9] (fun pv bv iv wr => ∃ (i p : Nat) (b : Bool), i ≤ 60 ∧ iv = .int .i64 i ∧ pv = .int .i64 p ∧ bv = .bool b ∧ Hid (ZoP z i p b) ∧ Hid (ZoS w q s x A c D d wr)) (fun _ _ i _ => 60 - (intOf i).toNat)
  case atStart => exact ⟨0, 0, false, Nat.zero_le _, rfl, rfl, rfl, HP, HZ⟩
  case round =>
    obtain ⟨i, p, b, hi, rfl, rfl, rfl, hP, hZ⟩ := hrel
    obtain ⟨wo, rfl⟩ : ∃ wo : World, wo = wr := ⟨_, rfl⟩
    clear HP HZ
    by_cases hlt : i < 60
    · have kl : (i : Int) < 60 := by omega
      have hp := hP.out.lt
      have hzo := hP.out.zone
      have u := (unhide HG).u hp
      have hf2 := (unhide HG).few hp
      have HU := hide u
      have huz := u.zone
      rw [hzo] at huz
      have HNo := hide u.none
      have HSt := hide fun (k : Nat) (b' : Bool) h1 h2 h3 => zo_step (unhide HG) (b' := b') (k := k) hP.out h1 h2 h3
      have hbx := hZ.out.box
      obtain ⟨g, off, hA, hgs, hcl⟩ := hZ.out.nds (by omega)
      subst hA
      obtain ⟨q0, q1, q2, q3, P, cp, q4, hcp, hnm⟩ := hcl p (by omega)
      have l0 : wo.cell? ⟨q, 0, none⟩ = some (.slice (some ⟨g, off, none⟩) x.nodes.length c) := by rw [Lib.cell_of_heap hbx]; rfl
      have l1 : wo.cell? ⟨q, 1, none⟩ = some (.slice D x.devs.length d) := by rw [Lib.cell_of_heap hbx]; rfl
      have HNm := hide hnm
      have hpl : (p : Int) < (x.nodes.length : Int) := by omega
      have HXl := hide hxl
      clear hxl
      have p0 : (0 : Int) ≤ (p : Int) := by omega
      generalize x.nodes.getD p nd0 = nd at *
      have bN := (Below.refl wo.heap.size wo).alloc (Nat.le_refl _) (ndO nd P cp)
      have HZ1 := hide (hZ.out.below bN)
      have HNx := hide (heap_alloc_new wo (ndO nd P cp))
      have HNm1 := hide ((unhide HNm).keep bN)
      have hwo : s < wo.heap.size := hZ.out.src.lt
      clear hcl hbx hnm u hzo hZ HNm bN
      have hz1 : (nd.zone == 1) = b := by rw [huz]; cases b <;> rfl
      clear huz
      by_cases hex : nd.exits.length = 0
      · have hx0 : ((nd.exits.length : Int) == 0) = true := by rw [beq_iff_eq]; omega
        have hkd := unhide HNo (List.eq_nil_of_length_eq_zero hex)
        have HAw := hide (lawake_any _ ((unhide HT).keep (unhide HZ1).bel))
        have HB1 := hide (unhide HZ1).bel
        have hkd2 : (nd.kind == 8) = true ∨ ((nd.kind == 8) = false ∧ (nd.kind == 9) = true) := by
          rcases hkd with e | e <;> rw [e] <;> decide
        clear hex hkd
        cases b
        all_goals
          rcases hkd2 with k8 | ⟨k8, k9⟩
          all_goals
            go_wp2_with fail
            refine (unhide HAw).mono ?_
            rintro e wz ⟨rfl, hbz⟩
            go_wp2
            go_ret
            exact ⟨rfl, onward (unhide HB1) hbz⟩
      · have hx0 : ((nd.exits.length : Int) == 0) = false := by rw [beq_eq_false_iff_ne]; omega
        have h1 : (1 : Int) ≤ (nd.exits.length : Int) := by omega
        have HC := hide (n_any s s (nd.exits.length : Int) _ (unhide HZ1).src h1 (by omega))
        cases b
        all_goals
          go_wp2_with fail
          refine (unhide HC).mono ?_
          rintro e w6 ⟨kk, rfl, hk1, hk2, hs6, hg6⟩
          obtain ⟨k, rfl⟩ := Int.eq_ofNat_of_zero_le hk1
          have HZ6 := hide ((unhide HZ1).read hs6 hg6)
          have hnx := (hg6.block wo.heap.size (by rw [World.size_alloc]; omega) (by simp; omega)).trans (unhide HNx)
          have m1 : w6.cell? ⟨wo.heap.size, 1, none⟩ = some (.int .i64 nd.kind) := by rw [Lib.cell_of_heap hnx]; rfl
          have m4 : w6.cell? ⟨wo.heap.size, 4, none⟩ = some (.slice P nd.exits.length cp) := by rw [Lib.cell_of_heap hnx]; rfl
          have hnm6 := (unhide HNm1).grown hg6
          obtain ⟨gg, oo, rfl, _, hce⟩ := hnm6 (by omega)
          have hkl : (k : Int) < (nd.exits.length : Int) := by omega
          have hkz : (0 : Int) ≤ (k : Int) := by omega
          have hl2 : nd.kind = 5 → 1 < nd.exits.length := fun h => by
            obtain ⟨t, ht, _⟩ := (unhide HU).loop h
            rw [ht]; simp
          have hcs : ((nd.kind == 5) = true ∧ 30 ≤ i ∧ (nd.kind == 6) = false ∧ nd.kind = 5) ∨ ((nd.kind == 5) = true ∧ ¬ 30 ≤ i ∧ (nd.kind == 6) = false) ∨ ((nd.kind == 5) = false ∧ (nd.kind == 6) = false) ∨ ((nd.kind == 5) = false ∧ (nd.kind == 6) = true ∧ k = 1) ∨ ((nd.kind == 5) = false ∧ (nd.kind == 6) = true ∧ k ≠ 1) := by
            by_cases e5 : nd.kind = 5
            · have k6 : (nd.kind == 6) = false := by rw [beq_eq_false_iff_ne]; omega
              by_cases h30 : 30 ≤ i
              · exact .inl ⟨by rw [beq_iff_eq]; exact e5, h30, k6, e5⟩
              · exact .inr (.inl ⟨by rw [beq_iff_eq]; exact e5, h30, k6⟩)
            · have k5 : (nd.kind == 5) = false := by rw [beq_eq_false_iff_ne]; exact e5
              by_cases e6 : nd.kind = 6
              · by_cases e1 : k = 1
                · exact .inr (.inr (.inr (.inl ⟨k5, by rw [beq_iff_eq]; exact e6, e1⟩)))
                · exact .inr (.inr (.inr (.inr ⟨k5, by rw [beq_iff_eq]; exact e6, e1⟩)))
              · exact .inr (.inr (.inl ⟨k5, by rw [beq_eq_false_iff_ne]; exact e6⟩))
          clear hk1 hk2 hs6 hg6 hnx hnm6 hex
          rcases hcs with ⟨k5, h30, k6, e5⟩ | ⟨k5, h30, k6⟩ | ⟨k5, k6⟩ | ⟨k5, k6, e1⟩ | ⟨k5, k6, e1⟩
          · have i30 : (30 : Int) ≤ (i : Int) := by omega
            have h12 := hl2 e5
            have hkl1 : (1 : Int) < (nd.exits.length : Int) := by omega
            obtain ⟨p', hp', hP'⟩ := unhide HSt 1 _ h12 (fun _ _ => rfl) rfl
            rw [show decide (nd.kind = 6) = false from decide_eq_false (by omega), Bool.false_and, Bool.or_false] at hP'
            have y1 := hce 1 h12
            rw [hp'] at y1
            have HP' := hide hP'
            clear hp' hP' hce e5 hl2
            go_wp2
            go_roundw
            case rel => exact ⟨i + 1, p', _, by omega, by go_num, rfl, rfl, HP', HZ6⟩
            case measure => simp [intOf]; omega
          · have i30 : ¬ (30 : Int) ≤ (i : Int) := by omega
            obtain ⟨p', hp', hP'⟩ := unhide HSt k _ (by omega) (fun _ h => absurd h h30) rfl
            rw [show decide (nd.kind = 6) = false from decide_eq_false (by rw [beq_eq_false_iff_ne] at k6; exact k6), Bool.false_and, Bool.or_false] at hP'
            have y1 := hce k (by omega)
            rw [hp'] at y1
            have HP' := hide hP'
            clear hp' hP' hce hl2
            go_wp2
            go_roundw
            case rel => exact ⟨i + 1, p', _, by omega, by go_num, rfl, rfl, HP', HZ6⟩
            case measure => simp [intOf]; omega
          · skip
            obtain ⟨p', hp', hP'⟩ := unhide HSt k _ (by omega) (fun h => by rw [beq_eq_false_iff_ne] at k5; exact absurd h k5) rfl
            rw [show decide (nd.kind = 6) = false from decide_eq_false (by rw [beq_eq_false_iff_ne] at k6; exact k6), Bool.false_and, Bool.or_false] at hP'
            have y1 := hce k (by omega)
            rw [hp'] at y1
            have HP' := hide hP'
            clear hp' hP' hce hl2
            go_wp2
            go_roundw
            case rel => exact ⟨i + 1, p', _, by omega, by go_num, rfl, rfl, HP', HZ6⟩
            case measure => simp [intOf]; omega
          · subst e1
            obtain ⟨p', hp', hP'⟩ := unhide HSt 1 _ (by omega) (fun h => by rw [beq_eq_false_iff_ne] at k5; exact absurd h k5) rfl
            rw [show decide (nd.kind = 6) = true from decide_eq_true (by rw [beq_iff_eq] at k6; exact k6), show decide ((1 : Nat) = 1) = true from rfl, Bool.true_and, Bool.or_true] at hP'
            have y1 := hce 1 (by omega)
            rw [hp'] at y1
            have HP' := hide hP'
            clear hp' hP' hce hl2
            go_wp2
            go_roundw
            case rel => exact ⟨i + 1, p', _, by omega, by go_num, rfl, rfl, HP', HZ6⟩
            case measure => simp [intOf]; omega
          · have k1 : ((k : Int) == 1) = false := by rw [beq_eq_false_iff_ne]; omega
            obtain ⟨p', hp', hP'⟩ := unhide HSt k _ (by omega) (fun h => by rw [beq_eq_false_iff_ne] at k5; exact absurd h k5) rfl
            rw [show decide (k = 1) = false from decide_eq_false e1, Bool.and_false, Bool.or_false] at hP'
            have y1 := hce k (by omega)
            rw [hp'] at y1
            have HP' := hide hP'
            clear hp' hP' hce hl2
            go_wp2
            go_roundw
            case rel => exact ⟨i + 1, p', _, by omega, by go_num, rfl, rfl, HP', HZ6⟩
            case measure => simp [intOf]; omega
    · obtain rfl : i = 60 := by omega
      exfalso
      have := hP.out.late (by omega)
      have := hP.out.lt
      omega
theorem lzones_law (A1 : Option Addr) (n1 c1 : Nat) (hc1 : n1 ≤ c1) {w : World} (hI1 : IntsIn w.heap.size w A1 n1) (A2 : Option Addr) (n2 c2 : Nat) (hc2 : n2 ≤ c2) (hI2 : IntsIn w.heap.size w A2 n2) (hT : LTab w) :
    Calls Tryz.prog 7 #[.slice A1 n1 c1, .slice A2 n2 c2] w fun e w' => e = .returned (.bool true) ∧ Below w.heap.size w w' := lzonesw_any A1 n1 c1 A2 n2 c2 w hT hc1 hI1 hc2 hI2
end Go.Proofs.YtmonjjffbmccjaaGreatDoor
