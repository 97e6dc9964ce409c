/-
  Contract of the document's own order of the nodes.
-/
import Derived.Test.YtfddpdognelhmaaGreatDoorLayRa
import Derived.BigQuiet
namespace Go.Proofs.YtfddpdognelhmaaGreatDoor
open Go.RowKit

set_option maxHeartbeats 2000000 in
theorem rleads2_any (b : Nat) (x : Lay) (i j : Nat) (A D : Option Addr) (c d : Nat) (w : World) (hi : i < x.nodes.length) (hx : FewX x.nodes) (h : NdsIn b w A x.nodes) :
    Calls Tryz.prog 63 #[lV x A c D d, .int .i64 (i : Int), .int .i64 (j : Int)] w fun e w' => e = .returned (.bool (leadB x.nodes i j)) ∧ Below w.heap.size w w' := by
  have b1 := (Below.refl w.heap.size w).alloc (Nat.le_refl _) (lO x A c D d)
  have B1 := hide b1
  obtain ⟨g, off, rfl, _, hc⟩ := h.keep b1 (by omega)
  obtain ⟨q0, q1, q2, q3, P, cp, q4, _, hn⟩ := hc i hi
  have hz := hx.at hi
  have HIn := hide (kin_any b (x.nodes.getD i nd0).exits (j : Int) P cp _ (by omega) hn)
  have HV := hide (show leadB x.nodes i j = (decide (i ≠ j) && (x.nodes.getD i nd0).exits.contains (j : Int)) from rfl)
  have il : (i : Int) < (x.nodes.length : Int) := by omega
  have i0 : (0 : Int) ≤ (i : Int) := by omega
  generalize x.nodes.getD i nd0 = nd at *
  clear hc hn h b1 hx
  by_cases e : i = j
  · have h0 : ((i : Int) != (j : Int)) = false := by rw [bne_eq_false_iff_eq]; omega
    have HE := hide ((unhide HV).trans (by rw [show decide (i ≠ j) = false by simp [e], Bool.false_and]))
    clear e
    go_enter Tryz.func63, Tryz.ntmps63
    go_wp2
    go_ret
    exact ⟨ret_bool (unhide HE).symm, unhide B1⟩
  · have h0 : ((i : Int) != (j : Int)) = true := by rw [bne_iff_ne]; omega
    have HE := hide (show leadB x.nodes i j = decide ((j : Int) ∈ nd.exits) by
      rw [unhide HV, show decide (i ≠ j) = true by simp [e], Bool.true_and, Bool.eq_iff_iff, List.contains_iff_mem, decide_eq_true_eq])
    clear e
    go_enter Tryz.func63, Tryz.ntmps63
    go_wp2_with fail
    refine (unhide HIn).mono ?_
    rintro e w1 ⟨rfl, rfl⟩
    go_wp2
    go_ret
    exact ⟨ret_bool (unhide HE).symm, unhide B1⟩

/-- A node may stand next. -/
def rdB (l : List Nd) (o : List Nat) (m j : Nat) : Bool := !o.contains j && (List.range m).all fun k => !(leadB l k j && !o.contains k)
theorem rdB_zero (l : List Nd) (o : List Nat) (j : Nat) : rdB l o 0 j = !o.contains j := by unfold rdB; simp
theorem rdB_succ (l : List Nd) (o : List Nat) (m j : Nat) : rdB l o (m + 1) j = (rdB l o m j && !(leadB l m j && !o.contains m)) := by
  unfold rdB; rw [List.range_succ, List.all_append, Bool.and_assoc]; simp
theorem rdB_all {l : List Nd} {o : List Nat} {j : Nat} (hj : j < l.length) : rdB l o l.length j = decide (wtF l o j = some 0) := by
  rw [Bool.eq_iff_iff, decide_eq_true_eq]
  unfold rdB wtF cntM
  constructor
  · intro h
    rw [Bool.and_eq_true, List.all_eq_true] at h
    have h1 : o.contains j = false := by simpa using h.1
    rw [if_pos ⟨hj, h1⟩]
    have : (List.range l.length).filter (fun k => leadB l k j && !o.contains k) = [] := by
      rw [List.filter_eq_nil_iff]
      intro k hk
      have h3 := h.2 k hk
      cases hc : leadB l k j <;> cases hd : o.contains k <;> simp_all
    rw [this]; rfl
  · intro h
    split at h
    · rename_i h1
      have h2 : ((List.range l.length).filter fun k => leadB l k j && !o.contains k).length = 0 := by have := Option.some.inj h; omega
      rw [List.length_eq_zero_iff, List.filter_eq_nil_iff] at h2
      rw [Bool.and_eq_true, List.all_eq_true]
      refine ⟨by rw [h1.2]; rfl, fun k hk => ?_⟩
      have h3 := h2 k hk
      cases hc : leadB l k j <;> cases hd : o.contains k <;> simp_all
    · exact absurd h (by simp)
/-- The least node of those from m on that may stand next, or -1. -/
def NxI (l : List Nd) (o : List Nat) (m : Nat) (v : Int) : Prop :=
  (v = -1 ∧ ∀ j, m ≤ j → j < l.length → wtF l o j ≠ some 0) ∨ ∃ n : Nat, v = n ∧ m ≤ n ∧ n < l.length ∧ wtF l o n = some 0 ∧ ∀ j, m ≤ j → j < n → wtF l o j ≠ some 0
theorem NxI.start (l : List Nd) (o : List Nat) : NxI l o l.length (-1) := .inl ⟨rfl, fun j h1 h2 => by omega⟩
theorem NxI.yes {l : List Nd} {o : List Nat} {m : Nat} (hm : m < l.length) (h : wtF l o m = some 0) : NxI l o m m := .inr ⟨m, rfl, Nat.le_refl _, hm, h, fun j h1 h2 => by omega⟩
theorem NxI.no {l : List Nd} {o : List Nat} {m : Nat} {v : Int} (hv : NxI l o (m + 1) v) (h : wtF l o m ≠ some 0) : NxI l o m v := by
  rcases hv with ⟨h1, h2⟩ | ⟨n, h1, h2, h3, h4, h5⟩
  · refine .inl ⟨h1, fun j a b => ?_⟩
    by_cases e : j = m
    · rw [e]; exact h
    · exact h2 j (by omega) b
  · refine .inr ⟨n, h1, by omega, h3, h4, fun j a b => ?_⟩
    by_cases e : j = m
    · rw [e]; exact h
    · exact h5 j (by omega) b
theorem NxI.none {l : List Nd} {o : List Nat} {v : Int} (hv : NxI l o 0 v) (h : v < 0) : nextO l o = none := by
  rcases hv with ⟨_, h2⟩ | ⟨n, h1, _⟩
  · exact nextO_no fun j hj => h2 j (Nat.zero_le _) hj
  · omega
theorem NxI.some {l : List Nd} {o : List Nat} {v : Int} (hv : NxI l o 0 v) (h : ¬ v < 0) : ∃ n : Nat, v = n ∧ nextO l o = some n := by
  rcases hv with ⟨h1, _⟩ | ⟨n, h1, _, h3, h4, h5⟩
  · omega
  · exact ⟨n, h1, nextO_eq h3 h4 fun j hj => h5 j (Nat.zero_le _) hj⟩
theorem mem_ofNat (o : List Nat) (j : Nat) : decide ((j : Int) ∈ o.map Int.ofNat) = o.contains j := by
  rw [Bool.eq_iff_iff, decide_eq_true_eq, List.contains_iff_mem, List.mem_map]
  constructor
  · rintro ⟨k, hk, e⟩
    have : k = j := Int.ofNat.inj e
    rw [← this]; exact hk
  · intro h
    exact ⟨j, h, rfl⟩
/-- The row of the nodes that are ordered. -/
structure RoS (H : Nat) (v : Value) (o : List Nat) (W wr : World) : Prop where
  bel : Below H W wr
  row : wr.ownsRow H 3 1 v o.length ((o.map Int.ofNat).map (Value.int .i64))
theorem RoS.below {H : Nat} {v : Value} {o : List Nat} {W wr w1 : World} (h : RoS H v o W wr) (hH : W.heap.size = H) (hb : Below wr.heap.size wr w1) : RoS H v o W w1 :=
  ⟨h.bel.trans (hb.mono (by have := h.bel.size; omega)), owns_later h.row hb⟩

set_option maxHeartbeats 8000000 in
set_option maxRecDepth 100000 in
theorem rorder_any (b : Nat) (x : Lay) (A D : Option Addr) (c d : Nat) (w : World) (h : LayIn b w x A D) (hbw : b < w.heap.size) (hz : x.nodes.length ≤ 1000) :
    Calls Tryz.prog 40 #[lV x A c D d] w (IntsO (ordF x.nodes) w) := by
  obtain ⟨i0, hi1, hz0, hz1, hz2⟩ := info_parts linfo_int
  have Hi := hide hi1
  have Hz0 := hide hz0
  have Hz1 := hide hz1
  have Hz2 := hide hz2
  have b1 := (Below.refl w.heap.size w).alloc (Nat.le_refl _) (lO x A c D d)
  have HX := hide (heap_alloc_new w (lO x A c D d))
  have HI := hide (h.keep b1)
  have HF := hide h.few
  obtain ⟨W1, hW1⟩ : ∃ W1 : World, w.alloc (lO x A c D d) = W1 := ⟨_, rfl⟩
  obtain ⟨H, hH⟩ : ∃ H : Nat, W1.heap.size = H := ⟨_, rfl⟩
  rw [hW1] at b1 HX HI
  have hwH : w.heap.size < H := by rw [← hH, ← hW1, World.size_alloc]; omega
  have B1 := hide b1
  have HH := hide hH
  clear b1 h hi1 hz0 hz1 hz2
  go_enter Tryz.func40, Tryz.ntmps40
  go_wp2
  clear hH
  go_loopw [3] (fun v wr => ∃ o : List Nat, o.length ≤ x.nodes.length ∧ RoS H v o W1 wr ∧ Hid (Ord x.nodes o) ∧ Hid (ordN x.nodes = ordG x.nodes (x.nodes.length - o.length) o)) (fun v _ => x.nodes.length - (match v with | .slice _ n _ => n | _ => 0))
  case atStart => exact ⟨[], Nat.zero_le _, ⟨Below.refl _ _, rfl, .inl ⟨rfl, rfl⟩⟩, Lib.hid (Ord.nil _), Lib.hid rfl⟩
  case round =>
    obtain ⟨o, hol, hS, hO, hG⟩ := hrel
    obtain ⟨wo, rfl⟩ : ∃ wo : World, wo = wr := ⟨_, rfl⟩
    obtain ⟨P, cp, rfl⟩ := own_form hS.row
    have HS := hide hS
    have hbl := (unhide HH ▸ hS.bel : Below W1.heap.size W1 wo)
    have l0 : wo.cell? ⟨w.heap.size, 0, none⟩ = some (.slice A x.nodes.length c) := by rw [Lib.cell_of_heap (heap_below (unhide HX) hbl)]; rfl
    clear hS hbl
    by_cases hlt : o.length < x.nodes.length
    · have ol : (o.length : Int) < (x.nodes.length : Int) := by omega
      have s1 : IntKind.i64.wrap ((x.nodes.length : Int) - 1) = (x.nodes.length : Int) - 1 := IntWalk.i64_in _ (by omega)
      go_wp2
      go_loopw [4, 5] (fun nv iv wr => ∃ (m : Nat) (v : Int), m ≤ x.nodes.length ∧ iv = .int .i64 ((m : Int) - 1) ∧ nv = .int .i64 v ∧ Hid (NxI x.nodes o m v) ∧ RoS H (.slice P o.length cp) o W1 wr) (fun _ iv _ => (intOf iv + 1).toNat)
      case atStart => exact ⟨x.nodes.length, -1, Nat.le_refl _, rfl, rfl, Lib.hid (NxI.start _ _), unhide HS⟩
      case round =>
        obtain ⟨m, v, hm, rfl, rfl, hv, hS2⟩ := hrel
        obtain ⟨wi, rfl⟩ : ∃ wi : World, wi = wr := ⟨_, rfl⟩
        have HV := hide hv.out
        have HS2 := hide hS2
        clear hv hS2
        rcases Nat.eq_zero_or_pos m with rfl | hmp
        · have m0 : ¬ (0 : Int) ≤ ((0 : Nat) : Int) - 1 := by omega
          by_cases hv0 : v < 0
          · have HE := hide (show ordF x.nodes = o.map Int.ofNat from by
              unfold ordF
              rw [hG.out, ordG_stop ((unhide HV).none hv0)])
            clear hO hG
            go_wp2
            go_ret
            refine ⟨_, rfl, ?_, (unhide B1).trans ((unhide HS2).bel.mono (Nat.le_of_lt hwH))⟩
            rw [unhide HE, List.length_map]
            exact own_base (unhide HS2).row (Nat.le_of_lt hwH)
          · obtain ⟨n, hvn, hn⟩ := (unhide HV).some hv0
            subst hvn
            have HO2 := hide (hO.out.snoc hn)
            have HG2 := hide (show ordN x.nodes = ordG x.nodes (x.nodes.length - (o.length + 1)) (o ++ [n]) from by
              rw [hG.out, show x.nodes.length - o.length = (x.nodes.length - (o.length + 1)) + 1 by omega, ordG_go hn])
            have hwi : H ≤ wi.heap.size := by have := (unhide HS2).bel.size; have := unhide HH; omega
            clear hO hG hn
            go_wp2_with (first
              | (at_builtin; refine wpList_append_own _ rfl _ _ 26 rfl H 3 i0 (.int .i64 0) 1 8 Tryz.underlying26 (unhide Hi) (unhide Hz0) (unhide Hz1) (unhide Hz2) rfl (by decide) _ _ _ rfl ((unhide HS2).row.alloc _) ⟨wi.heap.size, 0, none⟩ 1 1 [.int .i64 (n : Int)] rfl rfl ?c1 ?c2 ?c3 ?c4 ?c5 ?_))
            case c2 => rfl
            case c3 => unfold maxLen; omega
            case c4 => omega
            case c5 => omega
            intro v' w2 hown2 hgrow _
            have HR2 := hide (show RoS H v' (o ++ [n]) W1 w2 from
              ⟨((unhide HS2).bel.alloc hwi _).grown hgrow (by rw [World.size_alloc]; omega) (fun g hg => ((unhide HS2).row.lt g hg).1), by
                rw [List.length_append, List.length_singleton, show ((o ++ [n]).map Int.ofNat).map (Value.int .i64) = o.map (Value.int .i64 ∘ Int.ofNat) ++ [Value.int .i64 (n : Int)] from by rw [List.map_append, List.map_append, List.map_map]; rfl]; exact hown2⟩)
            clear hown2 hgrow
            obtain ⟨P', cp', hv'⟩ := own_form (unhide HR2).row
            subst hv'
            go_wp2
            go_roundw
            case rel => exact ⟨o ++ [n], by rw [List.length_append, List.length_singleton]; omega, unhide HR2, Lib.hid (unhide HO2), Lib.hid (by rw [List.length_append, List.length_singleton]; exact unhide HG2)⟩
            case measure => simp; omega
        · obtain ⟨j, rfl⟩ : ∃ j, m = j + 1 := ⟨m - 1, by omega⟩
          have hj : j < x.nodes.length := by omega
          have ej : ((j + 1 : Nat) : Int) - 1 = (j : Int) := by omega
          rw [ej]
          have j0 : (0 : Int) ≤ (j : Int) := by omega
          have HIn := hide fun (W : World) (k : Nat) (hS : RoS H (.slice P o.length cp) o W1 W) => (show Calls Tryz.prog 25 #[.slice P o.length cp, .int .i64 (k : Int)] W fun e w' => e = .returned (.bool (o.contains k)) ∧ W = w' from by
            have h1 := kin_any b (o.map Int.ofNat) (k : Int) P cp W (by rw [List.length_map]; omega) (IntRow.own (b := b) (cap := cp) (base := H) (by rw [List.length_map]; exact hS.row) (by omega)).nums
            rw [List.length_map, mem_ofNat] at h1
            exact h1)
          have HRa := hide (rdB_all (o := o) hj)
          have HR0 := hide (rdB_zero x.nodes o j)
          clear ej hmp
          go_wp2_with fail
          refine (unhide HIn wi j (unhide HS2)).mono ?_
          rintro e w3 ⟨rfl, rfl⟩
          go_wp2
          go_loopw [6, 7] (fun rv kv wr => ∃ k : Nat, k ≤ x.nodes.length ∧ kv = .int .i64 k ∧ rv = .bool (rdB x.nodes o k j) ∧ RoS H (.slice P o.length cp) o W1 wr) (fun _ kv _ => x.nodes.length - (intOf kv).toNat)
          case atStart => exact ⟨0, Nat.zero_le _, rfl, by rw [unhide HR0]; simp, unhide HS2⟩
          case round =>
            obtain ⟨k, hk, rfl, rfl, hS3⟩ := hrel
            obtain ⟨wk, rfl⟩ : ∃ wk : World, wk = wr := ⟨_, rfl⟩
            have HS3 := hide hS3
            by_cases hlt3 : k < x.nodes.length
            · have hbl := (unhide HH ▸ hS3.bel : Below W1.heap.size W1 wk)
              have g0 : wk.cell? ⟨w.heap.size, 0, none⟩ = some (.slice A x.nodes.length c) := by rw [Lib.cell_of_heap (heap_below (unhide HX) hbl)]; rfl
              have g1 : wk.cell? ⟨w.heap.size, 1, none⟩ = some (.slice D x.devs.length d) := by rw [Lib.cell_of_heap (heap_below (unhide HX) hbl)]; rfl
              have HLd := hide (rleads2_any b x k j A D c d wk hlt3 (unhide HF) ((unhide HI).nds.keep hbl))
              have kl : (k : Int) < (x.nodes.length : Int) := by omega
              have HSu := hide (rdB_succ x.nodes o k j)
              generalize rdB x.nodes o k j = r0 at *
              clear hS3 hbl
              go_wp2_with fail
              refine (unhide HLd).mono ?_
              rintro e w4 ⟨rfl, hb4⟩
              have HS4 := hide ((unhide HS3).below (unhide HH) hb4)
              clear hb4 g0 g1 l0
              cases hld : leadB x.nodes k j
              · have HR1 := hide (show rdB x.nodes o (k + 1) j = r0 from by rw [unhide HSu, hld]; simp)
                go_wp2
                go_roundw
                case rel => exact ⟨k + 1, by omega, by go_num, by rw [unhide HR1], unhide HS4⟩
                case measure => simp [intOf]; omega
              · cases hcn : o.contains k
                · have HR1 := hide (show rdB x.nodes o (k + 1) j = false from by rw [unhide HSu, hld, hcn]; simp)
                  have HIk := hide (unhide HIn w4 k (unhide HS4))
                  rw [hcn] at HIk
                  go_wp2_with (first | (go_at_call 25; refine (unhide HIk).mono ?_; rintro e w5 ⟨rfl, rfl⟩))
                  go_roundw
                  case rel => exact ⟨k + 1, by omega, by go_num, by rw [unhide HR1], unhide HS4⟩
                  case measure => simp [intOf]; omega
                · have HR1 := hide (show rdB x.nodes o (k + 1) j = r0 from by rw [unhide HSu, hld, hcn]; simp)
                  have HIk := hide (unhide HIn w4 k (unhide HS4))
                  rw [hcn] at HIk
                  go_wp2_with (first | (go_at_call 25; refine (unhide HIk).mono ?_; rintro e w5 ⟨rfl, rfl⟩))
                  go_roundw
                  case rel => exact ⟨k + 1, by omega, by go_num, by rw [unhide HR1], unhide HS4⟩
                  case measure => simp [intOf]; omega
            · obtain rfl : k = x.nodes.length := by omega
              have kl : ¬ ((x.nodes.length : Int) < (x.nodes.length : Int)) := by omega
              have s2 : IntKind.i64.wrap ((j : Int) - 1) = (j : Int) - 1 := IntWalk.i64_in _ (by omega)
              have g0 : wk.cell? ⟨w.heap.size, 0, none⟩ = some (.slice A x.nodes.length c) := by rw [Lib.cell_of_heap (heap_below (unhide HX) (unhide HH ▸ hS3.bel : Below W1.heap.size W1 wk))]; rfl
              rw [unhide HRa]
              clear hS3
              by_cases hw0 : wtF x.nodes o j = some 0
              · have HN := hide (NxI.yes (o := o) hj hw0)
                rw [decide_eq_true hw0]
                clear hw0 l0
                go_wp2
                go_roundw
                case rel => exact ⟨j, (j : Int), by omega, rfl, rfl, Lib.hid (unhide HN), unhide HS3⟩
                case measure => simp [intOf] <;> omega
              · have HN := hide ((unhide HV).no hw0)
                rw [decide_eq_false hw0]
                clear hw0 l0
                go_wp2
                go_roundw
                case rel => exact ⟨j, v, by omega, rfl, rfl, Lib.hid (unhide HN), unhide HS3⟩
                case measure => simp [intOf] <;> omega
    · have ol : ¬ (o.length : Int) < (x.nodes.length : Int) := by omega
      have HE := hide (show ordF x.nodes = o.map Int.ofNat from by
        unfold ordF
        rw [hG.out, show x.nodes.length - o.length = 0 by omega]; rfl)
      clear hO hG
      go_wp2
      go_ret
      refine ⟨_, rfl, ?_, (unhide B1).trans ((unhide HS).bel.mono (Nat.le_of_lt hwH))⟩
      rw [unhide HE, List.length_map]
      exact own_base (unhide HS).row (Nat.le_of_lt hwH)
end Go.Proofs.YtfddpdognelhmaaGreatDoor
