/-
  Contracts of Same of layouts, and of Leads of the document's own.
-/
import Derived.Test.YtmonjjffbmccjaaGreatDoorLayH
namespace Go.Proofs.YtmonjjffbmccjaaGreatDoor
open Go.RowKit

theorem Nd.ext_iff' {x y : Nd} : x = y ↔ x.name = y.name ∧ x.kind = y.kind ∧ x.len = y.len ∧ x.zone = y.zone ∧ x.exits = y.exits := by
  cases x; cases y; simp
instance : DecidableEq Nd := fun _ _ => decidable_of_iff _ Nd.ext_iff'.symm
theorem Dv.ext_iff' {x y : Dv} : x = y ↔ x.kind = y.kind ∧ x.node = y.node ∧ x.win = y.win := by
  cases x; cases y; simp
instance : DecidableEq Dv := fun _ _ => decidable_of_iff _ Dv.ext_iff'.symm
theorem dvEq_iff {x y : Dv} : dvEq x y = true ↔ x = y := by rw [Dv.ext_iff']; unfold dvEq; simp
theorem dev_neq (g h : Dv) (w : World) : (Go.binOp .neq 66 (dvV g) (dvV h)).run Tryz.prog w = .ok (.bool (!dvEq g h)) w := by
  unfold dvEq
  cases h0 : (g.kind == h.kind)
  · go_simp
  · cases h1 : (g.node == h.node)
    · go_simp
    · cases h2 : (g.win == h.win)
      · go_simp
      · go_simp
theorem nd_eq (x y : Nd) : decide (x = y) = (decide (x.name = y.name) && ((x.kind == y.kind) && ((x.len == y.len) && ((x.zone == y.zone) && decide (x.exits = y.exits))))) := by
  rw [Bool.eq_iff_iff]
  simp only [decide_eq_true_eq, Bool.and_eq_true, beq_iff_eq]
  exact Nd.ext_iff'

set_option maxHeartbeats 2000000 in
theorem leqdevs_any (b : Nat) (l m : List Dv) (A A' : Option Addr) (c c' : Nat) (w : World) (hz : l.length ≤ 1000000000) (h : DvsIn b w A l) (h' : DvsIn b w A' m) :
    Calls Tryz.prog 61 #[.slice A l.length c, .slice A' m.length c'] w fun e w' => e = .returned (.bool (decide (l = m))) ∧ Below w.heap.size w w' := by
  by_cases hl : l.length = m.length
  · have z0 : ((l.length : Int) != (m.length : Int)) = false := by rw [bne_eq_false_iff_eq, hl]
    have HH := hide h
    have HH' := hide h'
    have HL := hide hl
    clear h h' hl
    go_enter Tryz.func61, Tryz.ntmps61
    go_wp2
    go_loopw [5, 13] (fun _ i wr => ∃ k : Nat, k ≤ l.length ∧ i = .int .i64 k ∧ Hid (l.take k = m.take k) ∧ Below w.heap.size w wr) (fun _ i _ => l.length - (intOf i).toNat)
    case atStart => exact ⟨0, Nat.zero_le _, rfl, Lib.hid rfl, Below.refl _ _⟩
    case round =>
      obtain ⟨k, hk, rfl, hd, hb⟩ := hrel
      obtain ⟨wo, rfl⟩ : ∃ wo : World, wo = wr := ⟨_, rfl⟩
      have HB := Lib.hid hb
      clear hb
      by_cases hlt : k < l.length
      · have hlt2 : k < m.length := by have := unhide HL; omega
        obtain ⟨g, off, rfl, _, hc⟩ := ((unhide HH).keep HB.out) (by omega)
        obtain ⟨g', off', rfl, _, hc'⟩ := ((unhide HH').keep HB.out) (by omega)
        obtain ⟨c0, c1, c2⟩ := hc k hlt
        obtain ⟨d0, d1, d2⟩ := hc' k hlt2
        clear hc hc'
        have kl : (k : Int) < (l.length : Int) := by omega
        have kl2 : (k : Int) < (m.length : Int) := by omega
        have k0 : (0 : Int) ≤ (k : Int) := by omega
        have HP := hide fun h => take_eq_step (d := dv0) hlt hlt2 hd.out h
        have HN := hide fun (h : l.getD k dv0 ≠ m.getD k dv0) => ne_of_at h
        generalize l.getD k dv0 = x at *
        generalize m.getD k dv0 = y at *
        have hop := dev_neq x y
        cases hxy : dvEq x y with
        | true =>
          have HX := hide (dvEq_iff.1 hxy)
          go_wp2_with fail
          go_quiet (fail)
          go_wp2
          go_roundw
          case rel => exact ⟨k + 1, by omega, by go_num, Lib.hid (unhide HP (unhide HX)), draws HB.out _⟩
          case measure => simp [intOf]; omega
        | false =>
          have HX := hide (show x ≠ y from fun e => Bool.noConfusion (hxy.symm.trans (dvEq_iff.2 e)))
          go_wp2_with fail
          go_quiet (fail)
          go_wp2
          go_ret
          exact ⟨ret_bool (by rw [decide_eq_false (unhide HN (unhide HX))]), draws HB.out _⟩
      · have HE := hide (show l = m by
          have := hd.out
          have := unhide HL
          rwa [List.take_of_length_le (by omega), List.take_of_length_le (by omega)] at *)
        have kl : ¬ (k : Int) < (l.length : Int) := by omega
        go_wp2
        go_ret
        exact ⟨ret_bool (by rw [decide_eq_true (unhide HE)]), HB.out⟩
  · have z0 : ((l.length : Int) != (m.length : Int)) = true := by rw [bne_iff_ne]; omega
    have hne : l ≠ m := fun e => hl (by rw [e])
    rw [decide_eq_false hne]
    clear h h' hl hne
    go_enter Tryz.func61, Tryz.ntmps61
    go_wp2
    go_ret
    exact ⟨rfl, Below.refl _ _⟩

set_option maxHeartbeats 2000000 in
theorem lsamend_any (b : Nat) (x y : Nd) (A A' : Option Addr) (c c' : Nat) (w : World) (hz : x.exits.length ≤ 1000000000) (h : NumsIn b w A x.exits) (h' : NumsIn b w A' y.exits) :
    Calls Tryz.prog 60 #[ndV x A c, ndV y A' c'] w fun e w' => e = .returned (.bool (decide (x = y))) ∧ Below w.heap.size w w' := by
  have HV := hide (nd_eq x y)
  have b0 := ((Below.refl w.heap.size w).alloc (Nat.le_refl _) (ndO x A c)).alloc (by rw [World.size_alloc]; omega) (ndO y A' c')
  have H1 := hide (h.keep b0)
  have H2 := hide (h'.keep b0)
  have B0 := Lib.hid b0
  clear h h' b0
  obtain ⟨n1, k1, l1, z1, e1⟩ := x
  obtain ⟨n2, k2, l2, z2, e2⟩ := y
  simp only [] at *
  have HV' := hide ((unhide HV).trans (by rw [← toList_eq]))
  clear HV
  cases hk : (n1.toList == n2.toList) <;> cases hk2 : (k1 == k2) <;> cases hk3 : (l1 == l2) <;> cases hk4 : (z1 == z2)
  all_goals
    rw [hk, hk2, hk3, hk4] at HV'
    go_enter Tryz.func60, Tryz.ntmps60
  all_goals first
    | (go_wp2
       go_ret
       exact ⟨ret_bool (by rw [unhide HV']; rfl), B0.out⟩)
    | (go_wp2_with fail
       refine (eqints_any b e1 e2 A A' c c' _ hz (unhide H1) (unhide H2)).mono ?_
       rintro e w1 ⟨rfl, hb1⟩
       have HB := Lib.hid (B0.out.trans (hb1.mono B0.out.size))
       clear hb1
       go_wp2
       go_ret
       exact ⟨ret_bool (by rw [unhide HV']; rfl), HB.out⟩)

set_option maxHeartbeats 2000000 in
theorem leqf_any (b : Nat) (es fs : List Nd) (A A' : Option Addr) (c c' : Nat) (w : World) (hz : es.length ≤ 1000000) (hzz : FewX es) (h : NdsIn b w A es) (h' : NdsIn b w A' fs) :
    Calls Tryz.prog 59 #[.slice A es.length c, .slice A' fs.length c', .func (.func 60) #[] #[]] w fun e w' => e = .returned (.bool (decide (es = fs))) ∧ Below w.heap.size w w' := by
  by_cases hl : es.length = fs.length
  · have z0 : ((es.length : Int) != (fs.length : Int)) = false := by rw [bne_eq_false_iff_eq, hl]
    have HH := hide h
    have HH' := hide h'
    have HL := hide hl
    have HZ := hide hzz
    clear h h' hl hzz
    go_enter Tryz.func59, Tryz.ntmps59
    go_wp2
    go_loopw [17] (fun i wr => ∃ k : Nat, k ≤ es.length ∧ i = .int .i64 k ∧ Hid (es.take k = fs.take k) ∧ Below w.heap.size w wr) (fun i _ => es.length - (intOf i).toNat)
    case atStart => exact ⟨0, Nat.zero_le _, rfl, Lib.hid rfl, Below.refl _ _⟩
    case round =>
      obtain ⟨k, hk, rfl, hd, hb⟩ := hrel
      obtain ⟨wo, rfl⟩ : ∃ wo : World, wo = wr := ⟨_, rfl⟩
      have HB := Lib.hid hb
      clear hb
      by_cases hlt : k < es.length
      · have hlt2 : k < fs.length := by have := unhide HL; omega
        obtain ⟨g, off, rfl, _, hc⟩ := ((unhide HH).keep HB.out) (by omega)
        obtain ⟨g', off', rfl, _, hc'⟩ := ((unhide HH').keep HB.out) (by omega)
        obtain ⟨q0, q1, q2, q3, B1, d1, q4, _, hst⟩ := hc k hlt
        obtain ⟨r0, r1, r2, r3, B2, d2, r4, _, hst'⟩ := hc' k hlt2
        clear hc hc'
        have kl : (k : Int) < (es.length : Int) := by omega
        have kl2 : (k : Int) < (fs.length : Int) := by omega
        have k0 : (0 : Int) ≤ (k : Int) := by omega
        have HP := hide fun h => take_eq_step (d := nd0) hlt hlt2 hd.out h
        have HN := hide fun (h : es.getD k nd0 ≠ fs.getD k nd0) => ne_of_at h
        have hpz : (es.getD k nd0).exits.length ≤ 1000000000 := by have := (unhide HZ).at hlt; omega
        generalize es.getD k nd0 = x at *
        generalize fs.getD k nd0 = y at *
        have b1 := (Below.refl wo.heap.size wo).alloc (Nat.le_refl _) (ndO x B1 d1)
        have b2 := b1.alloc (by rw [World.size_alloc]; omega) (ndO y B2 d2)
        have s0 := kept b1 r0
        have s1 := kept b1 r1
        have s2 := kept b1 r2
        have s3 := kept b1 r3
        have s4 := kept b1 r4
        have H1 := hide (hst.keep b2)
        have H2 := hide (hst'.keep b2)
        have hb2 := Lib.hid b2
        have HC := hide (lsamend_any b x y B1 B2 d1 d2 _ hpz (unhide H1) (unhide H2))
        clear hst hst' b1 b2 r0 r1 r2 r3 r4 hpz
        by_cases hxy : x = y
        · have HE := hide (decide_eq_true hxy)
          have HX := hide hxy
          clear hxy
          go_wp2_with fail
          refine (unhide HC).mono ?_
          rw [unhide HE]
          rintro e w1 ⟨rfl, hb1⟩
          have HB1 := Lib.hid (onward HB.out (hb2.out.trans (hb1.mono hb2.out.size)))
          clear hb1 q0 q1 q2 q3 q4 s0 s1 s2 s3 s4 H1 H2 hb2
          go_wp2
          go_roundw
          case rel => exact ⟨k + 1, by omega, by go_num, Lib.hid (unhide HP (unhide HX)), HB1.out⟩
          case measure => simp [intOf]; omega
        · have HE := hide (decide_eq_false hxy)
          have HX := hide hxy
          clear hxy
          go_wp2_with fail
          refine (unhide HC).mono ?_
          rw [unhide HE]
          rintro e w1 ⟨rfl, hb1⟩
          have HB1 := Lib.hid (onward HB.out (hb2.out.trans (hb1.mono hb2.out.size)))
          clear hb1 q0 q1 q2 q3 q4 s0 s1 s2 s3 s4 H1 H2 hb2
          go_wp2
          go_ret
          exact ⟨ret_bool (by rw [decide_eq_false (unhide HN (unhide HX))]), HB1.out⟩
      · have HE := hide (show es = fs by
          have := hd.out
          have := unhide HL
          rwa [List.take_of_length_le (by omega), List.take_of_length_le (by omega)] at *)
        have kl : ¬ (k : Int) < (es.length : Int) := by omega
        go_wp2
        go_ret
        exact ⟨ret_bool (by rw [decide_eq_true (unhide HE)]), HB.out⟩
  · have z0 : ((es.length : Int) != (fs.length : Int)) = true := by rw [bne_iff_ne]; omega
    have hne : es ≠ fs := fun e => hl (by rw [e])
    rw [decide_eq_false hne]
    clear h h' hl hne
    go_enter Tryz.func59, Tryz.ntmps59
    go_wp2
    go_ret
    exact ⟨rfl, Below.refl _ _⟩

theorem heap_later {w : World} {m : Nat} {o : Obj} (h : w.heap[m]? = some o) (o' : Obj) : (w.alloc o').heap[m]? = some o :=
  (((Below.refl w.heap.size w).alloc (Nat.le_refl _) o').block _ (Array.getElem?_eq_some_iff.1 h).1).trans h
theorem heap_keep2 {w w1 : World} {m : Nat} {o : Obj} (h : w.heap[m]? = some o) (hb : Below w.heap.size w w1) : w1.heap[m]? = some o := (hb.block _ (Array.getElem?_eq_some_iff.1 h).1).trans h
/-- Two layouts are equal. -/
def sameL (x y : Lay) : Bool := decide (x.nodes = y.nodes) && decide (x.devs = y.devs)
theorem sameL_self (x : Lay) : sameL x x = true := by simp [sameL]
set_option maxHeartbeats 2000000 in
theorem lsame_any (b : Nat) (x y : Lay) (A D A' D' : Option Addr) (c d c' d' : Nat) (w : World) (h : LayIn b w x A D) (h' : LayIn b w y A' D') :
    Calls Tryz.prog 30 #[lV x A c D d, lV y A' c' D' d'] w fun e w' => e = .returned (.bool (sameL x y)) ∧ Below w.heap.size w w' := by
  have b1 := (Below.refl w.heap.size w).alloc (Nat.le_refl _) (lO x A c D d)
  have b0 := b1.alloc (by rw [World.size_alloc]; omega) (lO y A' c' D' d')
  have HB1 := hide (show (((w.alloc (lO x A c D d)).alloc (lO y A' c' D' d')).heap[w.heap.size]? = some (lO x A c D d)) from heap_later (heap_alloc_new w (lO x A c D d)) _)
  have HB2 := hide (heap_alloc_new (w.alloc (lO x A c D d)) (lO y A' c' D' d'))
  have H1 := hide (h.keep b0)
  have H2 := hide (h'.keep b0)
  have B0 := Lib.hid b0
  clear h h' b0 b1
  have HV := hide (show sameL x y = (decide (x.nodes = y.nodes) && decide (x.devs = y.devs)) from rfl)
  cases hn : decide (x.nodes = y.nodes) with
  | true =>
    rw [hn] at HV
    have HC := hide fun W hb => leqf_any b x.nodes y.nodes A A' c c' W (unhide H1).nn (unhide H1).few ((unhide H1).nds.keep hb) ((unhide H2).nds.keep hb)
    have HC0 := hide (unhide HC _ (Below.refl _ _))
    rw [hn] at HC0
    have HD := hide fun W hb => leqdevs_any b x.devs y.devs D D' d d' W (by have := (unhide H1).nd; omega) ((unhide H1).dvs.keep hb) ((unhide H2).dvs.keep hb)
    clear HC
    go_enter Tryz.func30, Tryz.ntmps30
    go_wp2_with fail
    refine (unhide HC0).mono ?_
    rintro e w1 ⟨rfl, hb1⟩
    have l1 : w1.cell? ⟨w.heap.size, 1, none⟩ = some (.slice D x.devs.length d) := by rw [Lib.cell_of_heap (heap_keep2 (unhide HB1) hb1)]; rfl
    have m1 : w1.cell? ⟨w.heap.size + 1, 1, none⟩ = some (.slice D' y.devs.length d') := by
      have := heap_keep2 (unhide HB2) hb1
      rw [World.size_alloc] at this
      rw [Lib.cell_of_heap this]; rfl
    have HB := Lib.hid (B0.out.trans (hb1.mono B0.out.size))
    have HD1 := hide (unhide HD w1 hb1)
    clear hb1
    go_wp2_with fail
    refine (unhide HD1).mono ?_
    rintro e w2 ⟨rfl, hb2⟩
    have HB2 := Lib.hid (onward HB.out hb2)
    clear hb2 l1 m1
    go_wp2
    go_ret
    exact ⟨ret_bool (by rw [unhide HV]; rfl), HB2.out⟩
  | false =>
    rw [hn] at HV
    have HC0 := hide (leqf_any b x.nodes y.nodes A A' c c' _ (unhide H1).nn (unhide H1).few (unhide H1).nds (unhide H2).nds)
    rw [hn] at HC0
    go_enter Tryz.func30, Tryz.ntmps30
    go_wp2_with fail
    refine (unhide HC0).mono ?_
    rintro e w1 ⟨rfl, hb1⟩
    have HB := Lib.hid (B0.out.trans (hb1.mono B0.out.size))
    clear hb1
    go_wp2
    go_ret
    exact ⟨ret_bool (by rw [unhide HV]; rfl), HB.out⟩
end Go.Proofs.YtmonjjffbmccjaaGreatDoor
