/-
  Telegrams: both Same, and what stands behind it.
-/
import Derived.Test.YtglgobmmmghdoaaGreatDoorTelQ
import Derived.Test.YtglgobmmmghdoaaGreatDoorTelR

/- TelW: Contracts: equal telegrams (Same, the program's and the document's own). -/
namespace Go.Proofs.YtglgobmmmghdoaaGreatDoor
open Go.RowKit

theorem el_eq {k k' : ByteArray} {ps qs : List ByteArray} : decide ((k, ps) = (k', qs)) = (decide (k = k') && decide (ps = qs)) := by
  by_cases h : k = k' <;> by_cases h2 : ps = qs <;> simp [h, h2]

set_option maxHeartbeats 1000000 in
theorem samel_any (b : Nat) (k k' : ByteArray) (ps qs : List ByteArray) (A A' : Option Addr) (c c' : Nat) (w : World) (hz : ps.length ≤ 3000) (h : StrsIn b w A ps) (h' : StrsIn b w A' qs) :
    Calls Tryz.prog 55 #[.agg #[.string k, .slice A ps.length c], .agg #[.string k', .slice A' qs.length c']] w fun e w' => e = .returned (.bool (decide ((k, ps) = (k', qs)))) ∧ Below w.heap.size w w' := by
  rw [el_eq]
  have b0 := ((Below.refl w.heap.size w).alloc (Nat.le_refl _) (.cells #[.string k, .slice A ps.length c] 55)).alloc (by rw [World.size_alloc]; omega) (.cells #[.string k', .slice A' qs.length c'] 55)
  have H1 := hide (h.keep b0)
  have H2 := hide (h'.keep b0)
  have B0 := Lib.hid b0
  clear h h' b0
  cases hk : (k.toList == k'.toList) with
  | true =>
    have HE := hide (show decide (k = k') = true by rw [← toList_eq]; exact hk)
    go_enter Tryz.func55, Tryz.ntmps55
    go_wp2_with fail
    refine (seq_any b ps qs A A' c c' _ hz (unhide H1) (unhide H2)).mono ?_
    rintro e w1 ⟨rfl, hb1⟩
    have HB := Lib.hid (B0.out.trans (hb1.mono B0.out.size))
    clear hb1
    go_wp2
    go_ret
    exact ⟨ret_bool (by rw [unhide HE]; rfl), HB.out⟩
  | false =>
    have HE := hide (show decide (k = k') = false by rw [← toList_eq]; exact hk)
    go_enter Tryz.func55, Tryz.ntmps55
    go_wp2
    go_ret
    exact ⟨ret_bool (by rw [unhide HE]; rfl), B0.out⟩

set_option maxHeartbeats 1000000 in
theorem eqf_any (b : Nat) (es fs : List El) (A A' : Option Addr) (c c' : Nat) (w : World) (hz : es.length ≤ 3000) (hzz : ∀ e ∈ es, SmallE e) (h : ElsIn b w A es) (h' : ElsIn b w A' fs) :
    Calls Tryz.prog 54 #[.slice A es.length c, .slice A' fs.length c', .func (.func 55) #[] #[]] w fun e w' => e = .returned (.bool (decide (es = fs))) ∧ Below w.heap.size w w' := by
  by_cases hl : es.length = fs.length
  · have z0 : ((es.length : Int) != (fs.length : Int)) = false := by rw [bne_eq_false_iff_eq, hl]
    have HH := hide h
    have HH' := hide h'
    have HL := hide hl
    have HZ := hide hzz
    clear h h' hl hzz
    go_enter Tryz.func54, Tryz.ntmps54
    go_wp2
    go_loopw [17] (fun i wr => ∃ k : Nat, k ≤ es.length ∧ i = .int .i64 k ∧ Hid (es.take k = fs.take k) ∧ Below w.heap.size w wr) (fun i _ => es.length - (intOf i).toNat)
    case atStart => exact ⟨0, Nat.zero_le _, rfl, Lib.hid rfl, Below.refl _ _⟩
    case round =>
      obtain ⟨k, hk, rfl, hd, hb⟩ := hrel
      obtain ⟨wo, rfl⟩ : ∃ wo : World, wo = wr := ⟨_, rfl⟩
      have HB := Lib.hid hb
      clear hb
      by_cases hlt : k < es.length
      · have hlt2 : k < fs.length := by have := unhide HL; omega
        obtain ⟨g, off, rfl, _, hc⟩ := ((unhide HH).keep HB.out) (by omega)
        obtain ⟨g', off', rfl, _, hc'⟩ := ((unhide HH').keep HB.out) (by omega)
        obtain ⟨q0, B1, d1, q1, hst⟩ := hc k hlt
        obtain ⟨r0, B2, d2, r1, hst'⟩ := hc' k hlt2
        clear hc hc'
        have kl : (k : Int) < (es.length : Int) := by omega
        have kl2 : (k : Int) < (fs.length : Int) := by omega
        have k0 : (0 : Int) ≤ (k : Int) := by omega
        have HP := hide fun h => take_eq_step (d := el0) hlt hlt2 hd.out h
        have HN := hide fun (h : es.getD k el0 ≠ fs.getD k el0) => ne_of_at h
        have hsm : SmallE (es.getD k el0) := by rw [at_k hlt]; exact unhide HZ _ (List.getElem_mem _)
        generalize es.getD k el0 = x at *
        generalize fs.getD k el0 = y at *
        obtain ⟨xk, ps⟩ := x
        obtain ⟨yk, qs⟩ := y
        simp only [] at q0 q1 hst r0 r1 hst'
        have b1 := (Below.refl wo.heap.size wo).alloc (Nat.le_refl _) (.cells #[.string xk, .slice B1 ps.length d1] 55)
        have b2 := b1.alloc (by rw [World.size_alloc]; omega) (.cells #[.string yk, .slice B2 qs.length d2] 55)
        have s0 := kept b1 r0
        have s1 := kept b1 r1
        have H1 := hide (hst.keep b2)
        have H2 := hide (hst'.keep b2)
        have hb2 := Lib.hid b2
        clear hst hst' b1 b2 r0 r1
        have hpz : ps.length ≤ 3000 := hsm.1
        clear hsm
        by_cases hxy : (xk, ps) = (yk, qs)
        · have HE := hide (decide_eq_true hxy)
          have HX := hide hxy
          clear hxy
          go_wp2_with fail
          refine (samel_any b xk yk ps qs B1 B2 d1 d2 _ hpz (unhide H1) (unhide H2)).mono ?_
          rw [unhide HE]
          rintro e w1 ⟨rfl, hb1⟩
          have HB1 := Lib.hid (onward HB.out (hb2.out.trans (hb1.mono hb2.out.size)))
          clear hb1 q0 q1 s0 s1 H1 H2 hb2
          go_wp2
          go_roundw
          case rel => exact ⟨k + 1, by omega, by go_num, Lib.hid (unhide HP (unhide HX)), HB1.out⟩
          case measure => simp [intOf]; omega
        · have HE := hide (decide_eq_false hxy)
          have HX := hide hxy
          clear hxy
          go_wp2_with fail
          refine (samel_any b xk yk ps qs B1 B2 d1 d2 _ hpz (unhide H1) (unhide H2)).mono ?_
          rw [unhide HE]
          rintro e w1 ⟨rfl, hb1⟩
          have HB1 := Lib.hid (onward HB.out (hb2.out.trans (hb1.mono hb2.out.size)))
          clear hb1 q0 q1 s0 s1 H1 H2 hb2
          go_wp2
          go_ret
          exact ⟨ret_bool (by rw [decide_eq_false (unhide HN (unhide HX))]), HB1.out⟩
      · have HE := hide (show es = fs by
          have := hd.out
          have := unhide HL
          rwa [List.take_of_length_le (by omega), List.take_of_length_le (by omega)] at *)
        have kl : ¬ (k : Int) < (es.length : Int) := by omega
        go_wp2
        go_ret
        exact ⟨ret_bool (by rw [decide_eq_true (unhide HE)]), HB.out⟩
  · have z0 : ((es.length : Int) != (fs.length : Int)) = true := by rw [bne_iff_ne]; omega
    have hne : es ≠ fs := fun e => hl (by rw [e])
    rw [decide_eq_false hne]
    clear h h' hl hne
    go_enter Tryz.func54, Tryz.ntmps54
    go_wp2
    go_ret
    exact ⟨rfl, Below.refl _ _⟩
end Go.Proofs.YtglgobmmmghdoaaGreatDoor

/- TelU: Contracts of Same (the program's and the document's own). -/
namespace Go.Proofs.YtglgobmmmghdoaaGreatDoor
open Go.RowKit

def sameT (t u : Tel) : Bool := decide (t.kind = u.kind) && (decide (t.change = u.change) && decide (t.els = u.els))
theorem sameT_iff {t u : Tel} : sameT t u = true ↔ t = u := by
  obtain ⟨a, b, c⟩ := t
  obtain ⟨a', b', c'⟩ := u
  simp [sameT]

set_option maxHeartbeats 1000000 in
theorem same_tel (b : Nat) (t u : Tel) (A A' : Option Addr) (c c' : Nat) (w : World) (hS : SmallT t) (h : ElsIn b w A t.els) (h' : ElsIn b w A' u.els) :
    Calls Tryz.prog 25 #[.agg #[.string t.kind, .string t.change, .slice A t.els.length c], .agg #[.string u.kind, .string u.change, .slice A' u.els.length c']] w fun e w' => e = .returned (.bool (sameT t u)) ∧ Below w.heap.size w w' := by
  have b0 := ((Below.refl w.heap.size w).alloc (Nat.le_refl _) (.cells #[.string t.kind, .string t.change, .slice A t.els.length c] 25)).alloc (by rw [World.size_alloc]; omega) (.cells #[.string u.kind, .string u.change, .slice A' u.els.length c'] 25)
  have H1 := hide (h.keep b0)
  have H2 := hide (h'.keep b0)
  have B0 := Lib.hid b0
  have HS := hide hS
  clear h h' b0 hS
  obtain ⟨K, C, es⟩ := t
  obtain ⟨K', C', fs⟩ := u
  simp only [] at *
  have HV := hide (show sameT ⟨K, C, es⟩ ⟨K', C', fs⟩ = ((K.toList == K'.toList) && ((C.toList == C'.toList) && decide (es = fs))) by
    rw [toList_eq, toList_eq]; rfl)
  cases hk : (K.toList == K'.toList) with
  | true =>
    cases hc : (C.toList == C'.toList) with
    | true =>
      have HV1 := hide (show sameT ⟨K, C, es⟩ ⟨K', C', fs⟩ = decide (es = fs) by rw [unhide HV, hk, hc]; rfl)
      go_enter Tryz.func25, Tryz.ntmps25
      go_wp2_with fail
      refine (eqf_any b es fs A A' c c' _ (unhide HS).1 (unhide HS).2.2.2 (unhide H1) (unhide H2)).mono ?_
      rintro e w1 ⟨rfl, hb1⟩
      have HB := Lib.hid (B0.out.trans (hb1.mono B0.out.size))
      clear hb1
      go_wp2
      go_ret
      exact ⟨ret_bool (by rw [unhide HV1]), HB.out⟩
    | false =>
      have HV1 := hide (show sameT ⟨K, C, es⟩ ⟨K', C', fs⟩ = false by rw [unhide HV, hk, hc]; rfl)
      go_enter Tryz.func25, Tryz.ntmps25
      go_wp2
      go_ret
      exact ⟨ret_bool (by rw [unhide HV1]), B0.out⟩
  | false =>
    have HV1 := hide (show sameT ⟨K, C, es⟩ ⟨K', C', fs⟩ = false by rw [unhide HV, hk]; rfl)
    go_enter Tryz.func25, Tryz.ntmps25
    go_wp2
    go_ret
    exact ⟨ret_bool (by rw [unhide HV1]), B0.out⟩

theorem kstr_after {b : Nat} {ps qs : List ByteArray} {A A' : Option Addr} {c c' : Nat} {W : World} (hz : ps.length ≤ 3000) (h : StrsIn b W A ps) (h' : StrsIn b W A' qs) {x : Bool} (hx : decide (ps = qs) = x) (t : After W) :
    Calls Tryz.prog 14 #[.slice A ps.length c, .slice A' qs.length c'] t.to fun e w' => e = .returned (.bool x) ∧ Below t.to.heap.size t.to w' := by
  subst hx
  exact kstr_any b ps qs A A' c c' t.to hz (h.keep t.is) (h'.keep t.is)

set_option maxHeartbeats 2000000 in
theorem rsame_any (b : Nat) (t u : Tel) (A A' : Option Addr) (c c' : Nat) (w : World) (hS : SmallT t) (h : ElsIn b w A t.els) (h' : ElsIn b w A' u.els) :
    Calls Tryz.prog 13 #[.agg #[.string t.kind, .string t.change, .slice A t.els.length c], .agg #[.string u.kind, .string u.change, .slice A' u.els.length c']] w fun e w' => e = .returned (.bool (sameT t u)) ∧ Below w.heap.size w w' := by
  have hz : t.els.length ≤ 3000 := hS.1
  have b1 := (Below.refl w.heap.size w).alloc (Nat.le_refl _) (.cells #[.string t.kind, .string t.change, .slice A t.els.length c] 25)
  have b0 := b1.alloc (by rw [World.size_alloc]; omega) (.cells #[.string u.kind, .string u.change, .slice A' u.els.length c'] 25)
  have X1 := hide ((TBox.new w t.kind t.change (.slice A t.els.length c) 25).alloc (.cells #[.string u.kind, .string u.change, .slice A' u.els.length c'] 25))
  have X2 := TBox.new (w.alloc (.cells #[.string t.kind, .string t.change, .slice A t.els.length c] 25)) u.kind u.change (.slice A' u.els.length c') 25
  rw [World.size_alloc] at X2
  have HX2 := hide X2
  have H1 := hide (h.keep b0)
  have H2 := hide (h'.keep b0)
  have B0 := Lib.hid b0
  have HS := hide hS
  clear h h' b0 hS b1 X2
  obtain ⟨K, C, es⟩ := t
  obtain ⟨K', C', fs⟩ := u
  simp only [] at *
  have HV := hide (show sameT ⟨K, C, es⟩ ⟨K', C', fs⟩ = ((K.toList == K'.toList) && ((C.toList == C'.toList) && decide (es = fs))) by
    rw [toList_eq, toList_eq]; rfl)
  cases hk : (K.toList == K'.toList) with
  | true =>
    cases hc : (C.toList == C'.toList) with
    | true =>
      have HV1 := hide (show sameT ⟨K, C, es⟩ ⟨K', C', fs⟩ = decide (es = fs) by rw [unhide HV, hk, hc]; rfl)
      by_cases hl : es.length = fs.length
      · have z0 : ((es.length : Int) != (fs.length : Int)) = false := by rw [bne_eq_false_iff_eq, hl]
        have HL := hide hl
        clear hl
        go_enter Tryz.func13, Tryz.ntmps13
        go_wp2
        generalize (w.alloc (.cells #[.string K, .string C, .slice A es.length c] 25)).alloc (.cells #[.string K', .string C', .slice A' fs.length c'] 25) = W1 at *
        go_loopw [5] (fun i wr => ∃ k : Nat, k ≤ es.length ∧ i = .int .i64 k ∧ Hid (es.take k = fs.take k) ∧ Below W1.heap.size W1 wr) (fun i _ => es.length - (intOf i).toNat)
        case atStart => exact ⟨0, Nat.zero_le _, rfl, Lib.hid rfl, Below.refl _ _⟩
        case round =>
          obtain ⟨k, hk2, rfl, hd, hb⟩ := hrel
          obtain ⟨wo, rfl⟩ : ∃ wo : World, wo = wr := ⟨_, rfl⟩
          have HB := Lib.hid hb
          clear hb
          obtain ⟨x0, x1, x2⟩ := (unhide X1).keep HB.out
          obtain ⟨y0, y1, y2⟩ := (unhide HX2).keep HB.out
          by_cases hlt : k < es.length
          · have hlt2 : k < fs.length := by have := unhide HL; omega
            obtain ⟨g, off, rfl, _, hcx⟩ := ((unhide H1).keep HB.out) (by omega)
            obtain ⟨g', off', rfl, _, hcy⟩ := ((unhide H2).keep HB.out) (by omega)
            obtain ⟨q0, B1, d1, q1, hst⟩ := hcx k hlt
            obtain ⟨r0, B2, d2, r1, hst'⟩ := hcy k hlt2
            clear hcx hcy
            have kl : (k : Int) < (es.length : Int) := by omega
            have kl2 : (k : Int) < (fs.length : Int) := by omega
            have k0 : (0 : Int) ≤ (k : Int) := by omega
            have HP := hide fun h => take_eq_step (d := el0) hlt hlt2 hd.out h
            have HN := hide fun (h : es.getD k el0 ≠ fs.getD k el0) => ne_of_at h
            have hsm := (unhide HS).at hlt
            simp only [] at hsm
            generalize es.getD k el0 = x at *
            generalize fs.getD k el0 = y at *
            obtain ⟨xk, ps⟩ := x
            obtain ⟨yk, qs⟩ := y
            simp only [] at q0 q1 hst r0 r1 hst'
            have hpz : ps.length ≤ 3000 := hsm.1
            clear hsm
            have HD := hide (el_eq (k := xk) (k' := yk) (ps := ps) (qs := qs))
            cases hxk : (xk.toList == yk.toList) <;> cases hps : decide (ps = qs)
            all_goals
              rw [toList_eq] at hxk
              have HD1 := hide (unhide HD)
              rw [hxk, hps] at HD1
              rw [← toList_eq] at hxk
              have HK := hide (kstr_after (c := d1) (c' := d2) hpz hst hst' hps)
              have hxk' := hide hxk
              clear hps HD
              have v2 := After.cell x2
              have v2' := After.cell y2
              have v0 := After.cell q0
              have v1 := After.cell q1
              have s0 := After.cell r0
              have s1 := After.cell r1
              go_wp2_with fail
              refine wp_region_after (by kernel_rfl) (by kernel_rfl) ?_
              repeat (go_big_quiet_step ((first | (go_at_call 14; exact After.call (unhide HK _)))))
              refine wpQuiet_nil ?_
              rintro _ ⟨tt, rfl⟩
              have HB1 := Lib.hid (onward HB.out tt.is)
              clear v2 v2' v0 v1 s0 s1 x0 x1 x2 y0 y1 y2 q0 q1 r0 r1
              go_wp2
              first
                | (go_ret; exact ⟨ret_bool (by rw [unhide HV1, decide_eq_false (unhide HN (of_decide_eq_false (by rw [unhide HD1]; rfl)))]), B0.out.trans (HB1.out.mono B0.out.size)⟩)
                | (go_roundw
                   case rel => exact ⟨k + 1, by omega, by go_num, Lib.hid (unhide HP (of_decide_eq_true (by rw [unhide HD1]; rfl))), HB1.out⟩
                   case measure => simp [intOf]; omega)
          · have HE := hide (show es = fs by
              have := hd.out
              have := unhide HL
              rwa [List.take_of_length_le (by omega), List.take_of_length_le (by omega)] at *)
            have kl : ¬ (k : Int) < (es.length : Int) := by omega
            go_wp2
            go_ret
            exact ⟨ret_bool (by rw [unhide HV1, decide_eq_true (unhide HE)]), B0.out.trans (HB.out.mono B0.out.size)⟩
      · have z0 : ((es.length : Int) != (fs.length : Int)) = true := by rw [bne_iff_ne]; omega
        have HV2 := hide (show sameT ⟨K, C, es⟩ ⟨K', C', fs⟩ = false by rw [unhide HV1, decide_eq_false (fun e => hl (by rw [e]))])
        clear hl
        go_enter Tryz.func13, Tryz.ntmps13
        go_wp2
        go_ret
        exact ⟨ret_bool (by rw [unhide HV2]), B0.out⟩
    | false =>
      have HV1 := hide (show sameT ⟨K, C, es⟩ ⟨K', C', fs⟩ = false by rw [unhide HV, hk, hc]; rfl)
      go_enter Tryz.func13, Tryz.ntmps13
      go_wp2
      go_ret
      exact ⟨ret_bool (by rw [unhide HV1]), B0.out⟩
  | false =>
    have HV1 := hide (show sameT ⟨K, C, es⟩ ⟨K', C', fs⟩ = false by rw [unhide HV, hk]; rfl)
    go_enter Tryz.func13, Tryz.ntmps13
    go_wp2
    go_ret
    exact ⟨ret_bool (by rw [unhide HV1]), B0.out⟩
end Go.Proofs.YtglgobmmmghdoaaGreatDoor
