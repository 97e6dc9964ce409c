/-
  Contract of the reader's Layout.
-/
import Derived.Test.YtfddpdognelhmaaGreatDoorLayGd
import Derived.Deep.CutRange
import Derived.Deep.CutBlock
namespace Go.Proofs.YtfddpdognelhmaaGreatDoor
open Go.RowKit

theorem grown_bel {B b : Nat} {w w1 w2 : World} (h : Rd w B b w1) (hb : Below w1.heap.size w1 w2) : Rd w B b w2 := ⟨h.src.keep hb, Lib.grownBy_trans h.gr (grown_below hb _)⟩
/-- What Layout comes to. -/
def MadeTo (B b : Nat) (w : World) (e : Ending) (w' : World) : Prop :=
  ∃ (z : GSz) (x : Lay) (A : Option Addr) (c : Nat) (D : Option Addr) (d : Nat), e = .returned (lV x A c D d) ∧ GenL z x ∧ NdsIn b w' A x.nodes ∧ DvsIn b w' D x.devs ∧ Src B b w' ∧ w.grownBy w' (some b)
set_option maxHeartbeats 8000000 in
set_option maxRecDepth 100000 in
theorem klayout_any (B b : Nat) (w : World) (hS : Src B b w) :
    Calls Tryz.prog 7 #[.pointer (some ⟨b, 0, none⟩)] w (MadeTo B b w) := by
  obtain ⟨i0, hi1, hz0, hz1, hz2⟩ := info_parts linfo_int
  have Hi := hide hi1
  have Hz0 := hide hz0
  have Hz1 := hide hz1
  have Hz2 := hide hz2
  obtain ⟨j0, hj1, hy0, hy1, hy2⟩ := info_parts linfo_node
  have Hj := hide hj1
  have Hy0 := hide hy0
  have Hy1 := hide hy1
  have Hy2 := hide hy2
  have hbl := hS.lt
  have HR0 := hide ((Rd.start hS).alloc (.cells zL 25))
  have HRes0 := hide (heap_alloc_new w (.cells zL 25))
  clear hi1 hz0 hz1 hz2 hj1 hy0 hy1 hy2 hS
  go_enter Tryz.func7, Tryz.ntmps7
  go_wp2_with fail
  refine (range_any B b 1 3 _ (unhide HR0).src (by omega) (by omega) (by omega)).mono ?_
  rintro e w1 ⟨a, rfl, ha1, ha2, hs1, hg1⟩
  have HR1 := hide ((unhide HR0).step hs1 hg1)
  have HRes1 := hide ((hg1.block _ (Array.getElem?_eq_some_iff.1 (unhide HRes0)).1 (by simp; omega)).trans (unhide HRes0))
  clear hs1 hg1 HR0 HRes0
  go_wp2_with fail
  refine (range_any B b 0 3 _ (unhide HR1).src (by omega) (by omega) (by omega)).mono ?_
  rintro e w2 ⟨bb, rfl, hb1, hb2, hs2, hg2⟩
  have HR2 := hide ((unhide HR1).step hs2 hg2)
  have HRes2 := hide ((hg2.block _ (Array.getElem?_eq_some_iff.1 (unhide HRes1)).1 (by simp; omega)).trans (unhide HRes1))
  clear hs2 hg2 HR1 HRes1
  go_wp2_with fail
  refine (range_any B b 1 2 _ (unhide HR2).src (by omega) (by omega) (by omega)).mono ?_
  rintro e w3 ⟨cc, rfl, hc1, hc2, hs3, hg3⟩
  have HR3 := hide ((unhide HR2).step hs3 hg3)
  have HRes3 := hide ((hg3.block _ (Array.getElem?_eq_some_iff.1 (unhide HRes2)).1 (by simp; omega)).trans (unhide HRes2))
  clear hs3 hg3 HR2 HRes2
  obtain ⟨a, rfl⟩ := Int.eq_ofNat_of_zero_le (show 0 ≤ a by omega)
  obtain ⟨bb, rfl⟩ := Int.eq_ofNat_of_zero_le hb1
  obtain ⟨cc, rfl⟩ := Int.eq_ofNat_of_zero_le (show 0 ≤ cc by omega)
  obtain ⟨z, hz⟩ : ∃ z : GSz, z = ⟨a, bb, cc⟩ := ⟨_, rfl⟩
  have HZ := hide hz
  have hzok : z.Ok := by rw [hz]; exact ⟨by show 1 ≤ a; omega, by show a ≤ 3; omega, by show bb ≤ 3; omega, by show 1 ≤ cc; omega, by show cc ≤ 2; omega⟩
  have hzn : z.n = a + 1 + bb + cc + 2 := by rw [hz]; rfl
  have hza : z.a = a := by rw [hz]
  have hzb : z.b = bb := by rw [hz]
  generalize hn : z.n = n at *
  have s1 : IntKind.i64.wrap ((a : Int) + 1) = (a : Int) + 1 := IntWalk.i64_in _ (by omega)
  have HOk := hide hzok
  have HN := hide hn
  have HA := hide hza
  have HB := hide hzb
  have hq : w.heap.size < w3.heap.size := (Array.getElem?_eq_some_iff.1 (unhide HRes3)).1
  have HS0 := hide (show GyS B b w w3.heap.size none 0 [] (w3.alloc (.cells zL 25)) from
    ⟨(unhide HR3).alloc _, heap_below (unhide HRes3) (below_new (Below.refl _ _) _), heap_alloc_new w3 _, ⟨rfl, .inl ⟨rfl, rfl⟩⟩, fun u hu => (nomatch hu), hq⟩)
  clear hz hzok hn hza hzb
  go_wp2
  generalize hMi : ((a : Int) + 1 + (bb : Int) + (cc : Int)) = Mi
  obtain ⟨M, rfl⟩ := Int.eq_ofNat_of_zero_le (show 0 ≤ Mi by omega)
  have hnM : n = M + 2 := by omega
  have haM : a + 2 ≤ M := by omega
  have hM9 : M ≤ 9 := by omega
  have hbM : a + 1 + bb < M := by omega
  clear s1 HRes3 HR3 hq
  go_loopw [10] (fun i wr => ∃ (A : Option Addr) (c : Nat) (us : List NdS), us.length ≤ n ∧ i = .int .i64 us.length ∧ GyS B b w w3.heap.size A c us wr ∧ Hid (∀ j, j < us.length → GenN z j (us.getD j nds0).x)) (fun i _ => n - (intOf i).toNat)
  case atStart => exact ⟨none, 0, [], Nat.zero_le _, rfl, unhide HS0, Lib.hid fun j hj => absurd hj (Nat.not_lt_zero _)⟩
  case round =>
    obtain ⟨A, c, us, hul, rfl, hS, hG⟩ := hrel
    obtain ⟨wo, rfl⟩ : ∃ wo : World, wo = wr := ⟨_, rfl⟩
    have HS := hide hS
    have HG := hide hG.out
    clear hS hG
    by_cases hlt : us.length < n
    · generalize hi : us.length = i at *
      have HIl := hide hi
      clear hi
      have hil : (i : Int) < (M : Int) + 2 := by omega
      go_wp2
      go_loopw [11, 13] (fun v k wr => ∃ (m : Nat) (zs : List Int), i + 1 ≤ m ∧ m ≤ 12 ∧ k = .int .i64 m ∧ zs.length ≤ m ∧ Hid (wr.ownsRow wo.heap.size 3 1 v zs.length (zs.map (Value.int .i64))) ∧ Hid (Below wo.heap.size wo wr) ∧ Hid (∀ t ∈ zs, (i : Int) < t ∧ t ≤ a)) (fun _ k _ => 13 - (intOf k).toNat)
      case atStart => exact ⟨i + 1, [], Nat.le_refl _, by omega, by go_num, Nat.zero_le _, Lib.hid ⟨rfl, .inl ⟨rfl, rfl⟩⟩, Lib.hid (Below.refl _ _), Lib.hid fun t h => (nomatch h)⟩
      case round =>
        obtain ⟨m, zs, hm1, hm12, rfl, hzl, ho, hb, hel⟩ := hrel
        obtain ⟨wi, rfl⟩ : ∃ wi : World, wi = wr := ⟨_, rfl⟩
        have hbs := hb.out.size
        by_cases hma : m ≤ a
        · have hma' : (m : Int) ≤ (a : Int) := by omega
          go_wp2_with (first
            | (at_builtin; refine wpList_append_own _ rfl _ _ 26 rfl wo.heap.size 3 i0 (.int .i64 0) 1 8 Tryz.underlying26 (unhide Hi) (unhide Hz0) (unhide Hz1) (unhide Hz2) rfl (by decide) _ _ _ rfl (ho.out.alloc _) ⟨wi.heap.size, 0, none⟩ 1 1 [.int .i64 (m : Int)] rfl rfl ?c1 ?c2 ?c3 ?c4 ?c5 ?_))
          case c1 => exact lone_new wi _ _
          case c2 =>
            intro u hu
            simp at hu
            subst hu
            rfl
          case c3 => unfold maxLen; omega
          case c4 => omega
          case c5 => rw [World.size_alloc]; omega
          intro v' w5 hown5 hgrow5 _
          have HB5 := hide ((hb.out.alloc hbs _).grown hgrow5 (by rw [World.size_alloc]; omega) (fun g hg => (ho.out.lt g hg).1))
          have HO5 := hide hown5
          clear hown5 hgrow5
          go_wp2
          go_roundw
          case rel => exact ⟨m + 1, zs ++ [(m : Int)], by omega, by omega, by go_num, by rw [List.length_append, List.length_singleton]; omega, Lib.hid (by rw [List.length_append, List.map_append]; exact unhide HO5), Lib.hid (unhide HB5), Lib.hid fun t ht => by
            rcases List.mem_append.1 ht with ht | ht
            · exact hel.out t ht
            · rw [List.mem_singleton.1 ht]; omega⟩
          case measure => simp [intOf]; omega
        · have hma' : ¬ (m : Int) ≤ (a : Int) := by omega
          go_wp2_with (first
            | (at_builtin; refine wpList_append_own _ rfl _ _ 26 rfl wo.heap.size 3 i0 (.int .i64 0) 1 8 Tryz.underlying26 (unhide Hi) (unhide Hz0) (unhide Hz1) (unhide Hz2) rfl (by decide) _ _ _ rfl (ho.out.alloc _) ⟨wi.heap.size, 0, none⟩ 1 1 [.int .i64 (M : Int)] rfl rfl ?d1 ?d2 ?d3 ?d4 ?d5 ?_))
          all_goals first | (case d1 => exact lone_new wi _ _) | skip
          case d2 => first | (intro u hu; simp at hu; subst hu; rfl) | simp [Value.oneCell']
          case d3 => unfold maxLen; omega
          case d4 => omega
          case d5 => first | omega | (rw [World.size_alloc]; omega)
          intro v' w6 hown6 hgrow6 _
          obtain ⟨Az, cz, rfl⟩ := own_form hown6
          have HB6 := hide ((hb.out.alloc hbs _).grown hgrow6 (by rw [World.size_alloc]; omega) (fun g hg => (ho.out.lt g hg).1))
          obtain ⟨zl, hzl2⟩ : ∃ zl : List Int, zs ++ [(M : Int)] = zl := ⟨_, rfl⟩
          have hzlen : zl.length = zs.length + 1 := by rw [← hzl2]; simp
          have HZr := hide (show IntRow b w6 Az zl from IntRow.own (base := wo.heap.size) (cap := cz) (by
            rw [hzlen, ← hzl2, List.map_append]; exact hown6) (by have := (unhide HS).lt; have := (unhide HS).qlt; omega))
          have HZe := hide (show ∀ t ∈ zl, toZ z i t from fun t ht => by
            rw [← hzl2] at ht
            rcases List.mem_append.1 ht with ht | ht
            · have := hel.out t ht
              exact .inl ⟨this.1, by rw [unhide HA]; exact this.2⟩
            · rw [List.mem_singleton.1 ht]; exact .inr (by rw [unhide HN]; omega))
          rw [show zs.length + 1 = zl.length from hzlen.symm]
          have hzl3 : zl.length ≤ 13 := by omega
          have hzl4 : 0 < zl.length := by omega
          clear hown6 hgrow6 hzl2 hzlen hel ho hb hma hma'
          go_wp2
          rw [show max (i : Int) (a : Int) = ((max i a : Nat) : Int) by omega]
          obtain ⟨X, hX⟩ : ∃ X : Nat, max i a = X := ⟨_, rfl⟩
          have hX1 : i ≤ X ∧ a ≤ X ∧ X ≤ M + 1 := by omega
          rw [hX]
          clear hX
          have hw6s : wo.heap.size ≤ w6.heap.size := (unhide HB6).size
          go_loopw [12, 14] (fun v k wr => ∃ (m : Nat) (os : List Int), X + 1 ≤ m ∧ m ≤ 12 ∧ k = .int .i64 m ∧ os.length ≤ m ∧ Hid (wr.ownsRow w6.heap.size 3 1 v os.length (os.map (Value.int .i64))) ∧ Hid (Below w6.heap.size w6 wr) ∧ Hid (∀ t ∈ os, (X : Int) < t ∧ t < M)) (fun _ k _ => 13 - (intOf k).toNat)
          case atStart => exact ⟨X + 1, [], Nat.le_refl _, by omega, by go_num, Nat.zero_le _, Lib.hid ⟨rfl, .inl ⟨rfl, rfl⟩⟩, Lib.hid (Below.refl _ _), Lib.hid fun t h => (nomatch h)⟩
          case round =>
            obtain ⟨m2, os, hm1, hm12, rfl, hzl, ho, hb, hel⟩ := hrel
            obtain ⟨wj, rfl⟩ : ∃ wj : World, wj = wr := ⟨_, rfl⟩
            have hbs := hb.out.size
            by_cases hma : m2 < M
            · have hma' : (m2 : Int) < (M : Int) := by omega
              go_wp2_with (first
                | (at_builtin; refine wpList_append_own _ rfl _ _ 26 rfl w6.heap.size 3 i0 (.int .i64 0) 1 8 Tryz.underlying26 (unhide Hi) (unhide Hz0) (unhide Hz1) (unhide Hz2) rfl (by decide) _ _ _ rfl (ho.out.alloc _) ⟨wj.heap.size, 0, none⟩ 1 1 [.int .i64 (m2 : Int)] rfl rfl ?e1 ?e2 ?e3 ?e4 ?e5 ?_))
              all_goals first | (case e1 => exact lone_new wj _ _) | skip
              case e2 => first | (intro u hu; simp at hu; subst hu; rfl) | simp [Value.oneCell']
              case e3 => unfold maxLen; omega
              case e4 => omega
              case e5 => first | omega | (rw [World.size_alloc]; omega)
              intro v' w5 hown5 hgrow5 _
              have HB5 := hide ((hb.out.alloc hbs _).grown hgrow5 (by rw [World.size_alloc]; omega) (fun g hg => (ho.out.lt g hg).1))
              have HO5 := hide hown5
              clear hown5 hgrow5
              go_wp2
              go_roundw
              case rel => exact ⟨m2 + 1, os ++ [(m2 : Int)], by omega, by omega, by go_num, by rw [List.length_append, List.length_singleton]; omega, Lib.hid (by rw [List.length_append, List.map_append]; exact unhide HO5), Lib.hid (unhide HB5), Lib.hid fun t ht => by
                rcases List.mem_append.1 ht with ht | ht
                · exact hel.out t ht
                · rw [List.mem_singleton.1 ht]; omega⟩
              case measure => simp [intOf]; omega
            · have hma' : ¬ (m2 : Int) < (M : Int) := by omega
              go_wp2_with (first
                | (at_builtin; refine wpList_append_own _ rfl _ _ 26 rfl w6.heap.size 3 i0 (.int .i64 0) 1 8 Tryz.underlying26 (unhide Hi) (unhide Hz0) (unhide Hz1) (unhide Hz2) rfl (by decide) _ _ _ rfl (ho.out.alloc _) ⟨wj.heap.size, 0, none⟩ 1 1 [.int .i64 ((M : Int) + 2 - 1)] rfl rfl ?f1 ?f2 ?f3 ?f4 ?f5 ?_))
              all_goals first | (case f1 => exact lone_new wj _ _) | skip
              case f2 => first | (intro u hu; simp at hu; subst hu; rfl) | simp [Value.oneCell']
              case f3 => unfold maxLen; omega
              case f4 => omega
              case f5 => first | omega | (rw [World.size_alloc]; omega)
              intro v' w7 hown7 hgrow7 _
              obtain ⟨Ao, co, rfl⟩ := own_form hown7
              have HB7 := hide ((hb.out.alloc hbs _).grown hgrow7 (by rw [World.size_alloc]; omega) (fun g hg => (ho.out.lt g hg).1))
              obtain ⟨ol, hol2⟩ : ∃ ol : List Int, os ++ [(M : Int) + 2 - 1] = ol := ⟨_, rfl⟩
              have holen : ol.length = os.length + 1 := by rw [← hol2]; simp
              have HOr := hide (show IntRow b w7 Ao ol from IntRow.own (base := w6.heap.size) (cap := co) (by
                rw [holen, ← hol2, List.map_append]; exact hown7) (by have := (unhide HS).lt; have := (unhide HS).qlt; omega))
              have HOe := hide (show ∀ t ∈ ol, toO z i t from fun t ht => by
                rw [← hol2] at ht
                rcases List.mem_append.1 ht with ht | ht
                · have := hel.out t ht
                  exact .inl ⟨by omega, by rw [unhide HA]; omega, by rw [unhide HN]; omega⟩
                · rw [List.mem_singleton.1 ht]; exact .inr (by rw [unhide HN]; omega))
              rw [show os.length + 1 = ol.length from holen.symm]
              have hol3 : ol.length ≤ 13 := by omega
              have hol4 : 0 < ol.length := by omega
              have bD := (Below.refl w7.heap.size w7).alloc (Nat.le_refl _) (.cells ndZ 45)
              have hBB : Below wo.heap.size wo (w7.alloc (.cells ndZ 45)) := onward (onward (unhide HB6) (unhide HB7)) bD
              have HS1 := hide ((unhide HS).below hBB)
              have HZn := hide (((unhide HZr).step (KeepTy.below (onward (unhide HB7) bD))).nums)
              have HOn := hide (((unhide HOr).step (KeepTy.below bD)).nums)
              have HBx := hide (heap_alloc_new w7 (.cells ndZ 45))
              have HBz := hide (show w3.heap.size < w7.heap.size from Nat.lt_of_lt_of_le (unhide HS).lt (Nat.le_trans (unhide HB6).size (unhide HB7).size))
              have HNe := hide (show ∀ g, (Value.slice A us.length c).ownBlock = some g → g ≠ w7.heap.size from fun g hg => by have := ((unhide HS).nrow.lt g hg).2; have := (unhide HB6).size; have := (unhide HB7).size; omega)
              clear hown7 hgrow7 hol2 holen hel ho hb hma hma' bD hBB HB6 HB7 HZr HOr hw6s
              have hqw := (unhide HS).qlt
              have hbz := unhide HBz
              have HZ0 := hide (show ∀ t ∈ zl, 0 ≤ t from fun t ht => by
                have := unhide HZe t ht
                rcases this with h | h
                · omega
                · rw [h, unhide HN]; omega)
              have HO0 := hide (show ∀ t ∈ ol, 0 ≤ t from fun t ht => by
                have := unhide HOe t ht
                rcases this with h | h
                · omega
                · rw [h, unhide HN]; omega)
              go_upto_block 6 with fail
              go_cut [10] from 33 to 140 (fun s10 wx => s10 = .int .i64 (i : Int) ∧ ∃ (x : Nd) (P : Option Addr) (cp : Nat), GyS B b w w3.heap.size A c us wx ∧ wx.heap[w7.heap.size]? = some (.cells (ndA x P cp) 45 (0, 0)) ∧ x.name = ⟨#[]⟩ ∧ GenN z i { x with name := nmG i } ∧ IntRow b wx P x.exits ∧ x.exits.length ≤ cp)
              case first =>
                by_cases c0 : i = 0
                · have t0 : ((i : Int) == 0) = true := by rw [beq_iff_eq]; omega
                  have bK := (Below.refl (w7.alloc (.cells ndZ 45)).heap.size (w7.alloc (.cells ndZ 45))).alloc (Nat.le_refl _) (.cells #[.int .i64 1] 3)
                  have hS2 := (unhide HS1).below bK
                  have hbx2 := heap_below (unhide HBx) bK
                  have HSt := hide (strip_any B b (w7.heap.size + 1) 1 i (fun j => ([1] : List Int).getD j 0) 0 zl Az cz _ hS2.rd.src (by omega) (by omega) (by omega) (fun j hj => by
                    rw [show w7.heap.size + 1 = (w7.alloc (.cells ndZ 45)).heap.size from (World.size_alloc _ _).symm, Lib.cell_of_heap (heap_alloc_new _ _)]
                    match j, hj with
                    | 0, _ => rfl) (by omega) hzl4 (unhide HZ0) ((unhide HZn).keep bK))
                  rw [show ((i : Nat) : Int) = 0 by omega] at HSt
                  have HS2 := hide hS2
                  have HBx2 := hide hbx2
                  clear bK hS2 hbx2
                  go_wp2_with fail
                  refine (unhide HSt).mono ?_
                  rintro e w8 ⟨x, P, cp, rfl, hx1, hx2, hx3, ⟨j, hj, hxk⟩, hx5, hx6, hs8, hg8⟩
                  have hS8 := (unhide HS2).read hbl hs8 hg8
                  have hbx8 := (hg8.block _ (Array.getElem?_eq_some_iff.1 (unhide HBx2)).1 (by simp; omega)).trans (unhide HBx2)
                  have HS9 := hide (hS8.setBox hbl hbx8 (unhide HBz) (unhide HNe) (cs' := ndA x P cp))
                  have HR := hide (setRow_heap w8 w7.heap.size _ (ndA x P cp) _ _ hbx8)
                  have HIr := hide (hx5.step (keepTy_setRow hbx8 (by decide) (cs' := ndA x P cp)))
                  have HBx8 := hide hbx8
                  have HX3 := hide hx3
                  have HX6 := hide hx6
                  have HX1 := hide hx1
                  have HX2 := hide hx2
                  have hk5 : x.kind = 1 := by
                    rcases hxk with h | ⟨h, h'⟩
                    · match j, hj, h with
                      | 0, _, h => simp at h; omega
                    · match j, hj, h with
                      | 0, _, h => simp at h <;> omega
                  have HGn := hide (show GenN z i { x with name := nmG i } from ⟨rfl, .inl ⟨c0, hx2, hk5, hx3.mono (unhide HZe)⟩⟩)
                  clear hk5
                  clear hx1 hx2 hx3 hx5 hx6 hs8 hg8 hS8 hbx8 hxk hj
                  go_wp2_with (first
                    | (refine wpList_store_row rfl _ _ _ rfl w7.heap.size (ndA x P cp) rfl rfl 45 _ (unhide HBx8) linfo_node5 rfl (by simp [Value.oneCell']) ?_))
                  go_meet
                  exact ⟨by first | rfl | (congr 1; omega), x, P, cp, unhide HS9, unhide HR, unhide HX1, unhide HGn, unhide HIr, unhide HX6⟩
                · have t0 : ((i : Int) == 0) = false := by rw [beq_eq_false_iff_ne]; omega
                  by_cases c1 : i < a
                  · have t1 : (i : Int) < (a : Int) := by omega
                    have bK := (Below.refl (w7.alloc (.cells ndZ 45)).heap.size (w7.alloc (.cells ndZ 45))).alloc (Nat.le_refl _) (.cells #[.int .i64 2, .int .i64 3, .int .i64 4, .int .i64 5, .int .i64 3] 3)
                    have hS2 := (unhide HS1).below bK
                    have hbx2 := heap_below (unhide HBx) bK
                    have HSt := hide (strip_any B b (w7.heap.size + 1) 5 i (fun j => ([2, 3, 4, 5, 3] : List Int).getD j 0) 0 zl Az cz _ hS2.rd.src (by omega) (by omega) (by omega) (fun j hj => by
                      rw [show w7.heap.size + 1 = (w7.alloc (.cells ndZ 45)).heap.size from (World.size_alloc _ _).symm, Lib.cell_of_heap (heap_alloc_new _ _)]
                      match j, hj with
                      | 0, _ | 1, _ | 2, _ | 3, _ | 4, _ => rfl) (by omega) hzl4 (unhide HZ0) ((unhide HZn).keep bK))
                    have HS2 := hide hS2
                    have HBx2 := hide hbx2
                    clear bK hS2 hbx2
                    go_wp2_with fail
                    refine (unhide HSt).mono ?_
                    rintro e w8 ⟨x, P, cp, rfl, hx1, hx2, hx3, ⟨j, hj, hxk⟩, hx5, hx6, hs8, hg8⟩
                    have hS8 := (unhide HS2).read hbl hs8 hg8
                    have hbx8 := (hg8.block _ (Array.getElem?_eq_some_iff.1 (unhide HBx2)).1 (by simp; omega)).trans (unhide HBx2)
                    have HS9 := hide (hS8.setBox hbl hbx8 (unhide HBz) (unhide HNe) (cs' := ndA x P cp))
                    have HR := hide (setRow_heap w8 w7.heap.size _ (ndA x P cp) _ _ hbx8)
                    have HIr := hide (hx5.step (keepTy_setRow hbx8 (by decide) (cs' := ndA x P cp)))
                    have HBx8 := hide hbx8
                    have HX3 := hide hx3
                    have HX6 := hide hx6
                    have HX1 := hide hx1
                    have HX2 := hide hx2
                    have hk5 : x.kind = 2 ∨ x.kind = 3 ∨ x.kind = 4 ∨ x.kind = 5 := by
                      rcases hxk with h | ⟨h, h'⟩
                      · match j, hj, h with
                        | 0, _, h | 1, _, h | 2, _, h | 3, _, h | 4, _, h => simp at h; omega
                      · match j, hj, h with
                        | 0, _, h | 1, _, h | 2, _, h | 3, _, h | 4, _, h => simp at h <;> omega
                    have HGn := hide (show GenN z i { x with name := nmG i } from ⟨rfl, .inr (.inl ⟨by omega, by rw [unhide HA]; exact c1, hx2, hk5, hx3.mono (unhide HZe)⟩)⟩)
                    clear hk5
                    clear hx1 hx2 hx3 hx5 hx6 hs8 hg8 hS8 hbx8 hxk hj
                    go_wp2_with (first
                      | (refine wpList_store_row rfl _ _ _ rfl w7.heap.size (ndA x P cp) rfl rfl 45 _ (unhide HBx8) linfo_node5 rfl (by simp [Value.oneCell']) ?_))
                    go_meet
                    exact ⟨by first | rfl | (congr 1; omega), x, P, cp, unhide HS9, unhide HR, unhide HX1, unhide HGn, unhide HIr, unhide HX6⟩
                  · have t1 : ¬ (i : Int) < (a : Int) := by omega
                    by_cases c2 : i = a
                    · have t2 : ((i : Int) == (a : Int)) = true := by rw [beq_iff_eq]; omega
                      go_wp2_with fail
                      refine (range_any B b 1 3 _ (unhide HS1).rd.src (by omega) (by omega) (by omega)).mono ?_
                      rintro e w8 ⟨ln, rfl, hl1, hl2, hs8, hg8⟩
                      have HS8 := hide ((unhide HS1).read hbl hs8 hg8)
                      have HBx8 := hide ((hg8.block _ (Array.getElem?_eq_some_iff.1 (unhide HBx)).1 (by simp; omega)).trans (unhide HBx))
                      have HO8 := hide ((unhide HOn).grown hg8)
                      clear hs8 hg8
                      go_wp2_with fail
                      refine (n_any B b (ol.length : Int) _ (unhide HS8).rd.src (by omega) (by omega)).mono ?_
                      rintro e w9 ⟨kx, rfl, hk1, hk2, hs9, hg9⟩
                      obtain ⟨k, rfl⟩ := Int.eq_ofNat_of_zero_le hk1
                      have hkl : k < ol.length := by omega
                      have hkl' : (k : Int) < (ol.length : Int) := by omega
                      have HS9 := hide ((unhide HS8).read hbl hs9 hg9)
                      have HBx9 := hide ((hg9.block _ (Array.getElem?_eq_some_iff.1 (unhide HBx8)).1 (by simp; omega)).trans (unhide HBx8))
                      have HO9 := hide ((unhide HO8).grown hg9)
                      obtain ⟨go, oo, rfl, -, hco⟩ := (unhide HO9) hol4
                      have yk := hco k hkl
                      have HT := hide (unhide HOe (ol.getD k 0) (by rw [at_k hkl]; exact List.getElem_mem _))
                      generalize ol.getD k 0 = t at *
                      have bQ := (Below.refl w9.heap.size w9).alloc (Nat.le_refl _) (.cells #[.int .i64 (M : Int), .int .i64 t] 3)
                      have HSA := hide ((unhide HS9).below bQ)
                      have hbxA := heap_below (unhide HBx9) bQ
                      have HBxA := hide hbxA
                      have hw9 : b < w9.heap.size := by have := (unhide HS9).lt; omega
                      have HIr := hide ((introw_two hw9 (M : Int) t).step (keepTy_setRow hbxA (by decide) (cs' := ndA ⟨⟨#[]⟩, 6, ln, 0, [(M : Int), t]⟩ (some ⟨w9.heap.size, 0, none⟩) 2)))
                      have HSB := hide ((unhide HSA).setBox hbl hbxA (unhide HBz) (unhide HNe) (cs' := ndA ⟨⟨#[]⟩, 6, ln, 0, [(M : Int), t]⟩ (some ⟨w9.heap.size, 0, none⟩) 2))
                      have HR := hide (setRow_heap _ w7.heap.size _ (ndA ⟨⟨#[]⟩, 6, ln, 0, [(M : Int), t]⟩ (some ⟨w9.heap.size, 0, none⟩) 2) _ _ hbxA)
                      have HGn := hide (show GenN z i ⟨nmG i, 6, ln, 0, [(M : Int), t]⟩ from ⟨rfl, .inr (.inr (.inl ⟨by rw [unhide HA]; exact c2, rfl, rfl, hl1, hl2, t, by show [(M : Int), t] = [(z.n : Int) - 2, t]; rw [unhide HN, show ((n : Nat) : Int) - 2 = (M : Int) by omega], unhide HT⟩))⟩)
                      clear hco hs9 hg9 bQ hbxA
                      go_wp2_with (first
                        | (refine wpList_store_row rfl _ _ _ rfl w7.heap.size (ndA ⟨⟨#[]⟩, 6, ln, 0, [(M : Int), t]⟩ (some ⟨w9.heap.size, 0, none⟩) 2) rfl rfl 45 _ (unhide HBxA) linfo_node5 rfl (by simp [Value.oneCell']) ?_))
                      go_meet
                      exact ⟨by first | rfl | (congr 1; omega), ⟨⟨#[]⟩, 6, ln, 0, [(M : Int), t]⟩, some ⟨w9.heap.size, 0, none⟩, 2, unhide HSB, unhide HR, rfl, unhide HGn, unhide HIr, Nat.le_refl _⟩
                    · have t2 : ((i : Int) == (a : Int)) = false := by rw [beq_eq_false_iff_ne]; omega
                      by_cases c3 : i < a + 1 + bb
                      · have t3 : (i : Int) < (a : Int) + 1 + (bb : Int) := by omega
                        have bK := (Below.refl (w7.alloc (.cells ndZ 45)).heap.size (w7.alloc (.cells ndZ 45))).alloc (Nat.le_refl _) (.cells #[.int .i64 2, .int .i64 4, .int .i64 5, .int .i64 7] 3)
                        have hS2 := (unhide HS1).below bK
                        have hbx2 := heap_below (unhide HBx) bK
                        have HSt := hide (strip_any B b (w7.heap.size + 1) 4 i (fun j => ([2, 4, 5, 7] : List Int).getD j 0) 1 ol Ao co _ hS2.rd.src (by omega) (by omega) (by omega) (fun j hj => by
                          rw [show w7.heap.size + 1 = (w7.alloc (.cells ndZ 45)).heap.size from (World.size_alloc _ _).symm, Lib.cell_of_heap (heap_alloc_new _ _)]
                          match j, hj with
                          | 0, _ | 1, _ | 2, _ | 3, _ => rfl) (by omega) hol4 (unhide HO0) ((unhide HOn).keep bK))
                        have HS2 := hide hS2
                        have HBx2 := hide hbx2
                        clear bK hS2 hbx2
                        go_wp2_with fail
                        refine (unhide HSt).mono ?_
                        rintro e w8 ⟨x, P, cp, rfl, hx1, hx2, hx3, ⟨j, hj, hxk⟩, hx5, hx6, hs8, hg8⟩
                        have hS8 := (unhide HS2).read hbl hs8 hg8
                        have hbx8 := (hg8.block _ (Array.getElem?_eq_some_iff.1 (unhide HBx2)).1 (by simp; omega)).trans (unhide HBx2)
                        have HS9 := hide (hS8.setBox hbl hbx8 (unhide HBz) (unhide HNe) (cs' := ndA x P cp))
                        have HR := hide (setRow_heap w8 w7.heap.size _ (ndA x P cp) _ _ hbx8)
                        have HIr := hide (hx5.step (keepTy_setRow hbx8 (by decide) (cs' := ndA x P cp)))
                        have HBx8 := hide hbx8
                        have HX3 := hide hx3
                        have HX6 := hide hx6
                        have HX1 := hide hx1
                        have HX2 := hide hx2
                        have hk5 : x.kind = 2 ∨ x.kind = 4 ∨ x.kind = 5 ∨ x.kind = 7 := by
                          rcases hxk with h | ⟨h, h'⟩
                          · match j, hj, h with
                            | 0, _, h | 1, _, h | 2, _, h | 3, _, h => simp at h; omega
                          · match j, hj, h with
                            | 0, _, h | 1, _, h | 2, _, h | 3, _, h => simp at h <;> omega
                        by_cases k7 : x.kind = 7
                        · have b7 : (x.kind == 7) = true := by rw [beq_iff_eq]; exact k7
                          have HS10 := hide ((unhide HS9).setBoxC (i := 2) hbl (unhide HR) (unhide HBz) (unhide HNe) (.int .i64 0))
                          have HR10 := hide (heap_set (i := 2) (unhide HR) (.int .i64 0))
                          have HIr10 := hide ((unhide HIr).step (keepTy_set (i := 2) (unhide HR) (by decide) (.int .i64 0)))
                          have HGn := hide (show GenN z i { { x with len := 0 } with name := nmG i } from ⟨rfl, .inr (.inr (.inr (.inr (.inl ⟨by rw [unhide HA]; omega, by rw [unhide HA, unhide HB]; exact c3, hx2, k7, rfl, by
                            rcases (hx3.mono (unhide HOe)).len (k := 0) k7 with h | h
                            · rcases h with ⟨_, _, h, _⟩ | ⟨h, _⟩ | ⟨h, _⟩
                              · exact absurd h (by show ¬ (1 : Int) ≤ 0; omega)
                              · have : x.kind = 4 := h
                                omega
                              · have : x.kind = 5 := h
                                omega
                            · exact h⟩))))⟩)
                          obtain ⟨y0, y1, y2, y3, y4⟩ := nd_cells (unhide HR)
                          have f2 : (w8.setRow w7.heap.size (ndA x P cp)).frozen? ⟨w7.heap.size, 2, none⟩ = false := Lib.frozen_of_heap (unhide HR) 2
                          clear hk5
                          clear hx1 hx2 hx3 hx5 hx6 hs8 hg8 hS8 hbx8 hxk hj
                          go_wp2_with (first
                            | (refine wpList_store_row rfl _ _ _ rfl w7.heap.size (ndA x P cp) rfl rfl 45 _ (unhide HBx8) linfo_node5 rfl (by simp [Value.oneCell']) ?_))
                          go_meet
                          exact ⟨by first | rfl | (congr 1; omega), { x with len := 0 }, P, cp, unhide HS10, unhide HR10, unhide HX1, unhide HGn, unhide HIr10, unhide HX6⟩
                        · have b7 : (x.kind == 7) = false := by rw [beq_eq_false_iff_ne]; exact k7
                          have HGn := hide (show GenN z i { x with name := nmG i } from ⟨rfl, .inr (.inr (.inr (.inl ⟨by rw [unhide HA]; omega, by rw [unhide HA, unhide HB]; exact c3, hx2, by show x.kind = 2 ∨ x.kind = 4 ∨ x.kind = 5; omega, hx3.mono (unhide HOe)⟩)))⟩)
                          obtain ⟨y0, y1, y2, y3, y4⟩ := nd_cells (unhide HR)
                          clear hk5
                          clear hx1 hx2 hx3 hx5 hx6 hs8 hg8 hS8 hbx8 hxk hj
                          go_wp2_with (first
                            | (refine wpList_store_row rfl _ _ _ rfl w7.heap.size (ndA x P cp) rfl rfl 45 _ (unhide HBx8) linfo_node5 rfl (by simp [Value.oneCell']) ?_))
                          go_meet
                          exact ⟨by first | rfl | (congr 1; omega), x, P, cp, unhide HS9, unhide HR, unhide HX1, unhide HGn, unhide HIr, unhide HX6⟩
                      · have t3 : ¬ (i : Int) < (a : Int) + 1 + (bb : Int) := by omega
                        by_cases c4 : i < M
                        · have t4 : (i : Int) < (M : Int) := by omega
                          have HSB := hide ((unhide HS1).setBox hbl (unhide HBx) (unhide HBz) (unhide HNe) (cs' := ndA ⟨⟨#[]⟩, 8, 0, 1, []⟩ none 0))
                          have HR := hide (setRow_heap _ w7.heap.size _ (ndA ⟨⟨#[]⟩, 8, 0, 1, []⟩ none 0) _ _ (unhide HBx))
                          have HGn := hide (show GenN z i ⟨nmG i, 8, 0, 1, []⟩ from ⟨rfl, .inr (.inr (.inr (.inr (.inr (.inl ⟨by rw [unhide HA, unhide HB]; omega, by rw [unhide HN]; omega, rfl, rfl, rfl, rfl⟩)))))⟩)
                          go_wp2_with (first
                            | (refine wpList_store_row rfl _ _ _ rfl w7.heap.size (ndA ⟨⟨#[]⟩, 8, 0, 1, []⟩ none 0) rfl rfl 45 _ (unhide HBx) linfo_node5 rfl (by simp [Value.oneCell']) ?_))
                          go_meet
                          exact ⟨by first | rfl | (congr 1; omega), ⟨⟨#[]⟩, 8, 0, 1, []⟩, none, 0, unhide HSB, unhide HR, rfl, unhide HGn, fun h => absurd h (Nat.lt_irrefl 0), Nat.le_refl _⟩
                        · have t4 : ¬ (i : Int) < (M : Int) := by omega
                          have HSB := hide ((unhide HS1).setBox hbl (unhide HBx) (unhide HBz) (unhide HNe) (cs' := ndA ⟨⟨#[]⟩, 9, 0, (i : Int) - (M : Int), []⟩ none 0))
                          have HR := hide (setRow_heap _ w7.heap.size _ (ndA ⟨⟨#[]⟩, 9, 0, (i : Int) - (M : Int), []⟩ none 0) _ _ (unhide HBx))
                          have HGn := hide (show GenN z i ⟨nmG i, 9, 0, (i : Int) - (M : Int), []⟩ from ⟨rfl, .inr (.inr (.inr (.inr (.inr (.inr ⟨by rw [unhide HN]; omega, by rw [unhide HN]; omega, by show (i : Int) - (M : Int) = (i : Int) + 2 - z.n; rw [unhide HN]; omega, rfl, rfl, rfl⟩)))))⟩)
                          go_wp2_with (first
                            | (refine wpList_store_row rfl _ _ _ rfl w7.heap.size (ndA ⟨⟨#[]⟩, 9, 0, (i : Int) - (M : Int), []⟩ none 0) rfl rfl 45 _ (unhide HBx) linfo_node5 rfl (by simp [Value.oneCell']) ?_))
                          go_meet
                          exact ⟨by first | rfl | (congr 1; omega), ⟨⟨#[]⟩, 9, 0, (i : Int) - (M : Int), []⟩, none, 0, unhide HSB, unhide HR, rfl, unhide HGn, fun h => absurd h (Nat.lt_irrefl 0), Nat.le_refl _⟩
              case rest =>
                obtain ⟨rfl, x, P, cp, hS5, hbx5, hx1, hgn, hir, hcp⟩ := hcut
                have hbz := unhide HBz
                have bN := (Below.refl wc.heap.size wc).alloc (Nat.le_refl _) (.cells #[.int .u8 (65 + (i : Int))] 5)
                have hS6 := hS5.below bN
                have hbx6 := heap_below hbx5 bN
                have hir6 := hir.step (KeepTy.below bN)
                have fx0 := Lib.frozen_of_heap hbx6 0
                obtain ⟨x0, x1, x2, x3, x4⟩ := nd_cells hbx6
                obtain ⟨V, hV⟩ : ∃ V : World, (wc.alloc (.cells #[.int .u8 (65 + (i : Int))] 5)).setCell ⟨w7.heap.size, 0, none⟩ (.string (nmG i)) = V := ⟨_, rfl⟩
                have hS7 : GyS B b w w3.heap.size A c us V := by rw [← hV]; exact hS6.setBoxC (i := 0) hbl hbx6 hbz (unhide HNe) (.string (nmG i))
                have hbx7 : V.heap[w7.heap.size]? = some (.cells (ndA { x with name := nmG i } P cp) 45 (0, 0)) := by rw [← hV]; exact heap_set (i := 0) hbx6 (.string (nmG i))
                have hir7 : IntRow b V P x.exits := by rw [← hV]; exact hir6.step (keepTy_set (i := 0) hbx6 (by decide) (.string (nmG i)))
                have hcv := conv_nmG wc i
                obtain ⟨v0, v1, v2, v3, v4⟩ := nd_cells hbx7
                have l0 : V.cell? ⟨w3.heap.size, 0, none⟩ = some (.slice A us.length c) := by rw [Lib.cell_of_heap hS7.box]; rfl
                have bM := (Below.refl V.heap.size V).alloc (Nat.le_refl _) (.cells (ndA { x with name := nmG i } P cp) 45)
                have HS8 := hide (hS7.below bM)
                have HIr8 := hide (hir7.step (KeepTy.below bM))
                have HGn := hide hgn
                have hsz7 := hS7.lt
                have husz : us.length ≤ 11 := by have := unhide HIl; omega
                have hqw := (unhide HS8).qlt
                clear hS5 hbx5 hgn hir hx1 hS6 hS7 hbx7 hbx6 hir6 hir7 bN bM
                go_wp2_with (first
                  | (at_builtin; refine wpList_append_own _ rfl _ _ 22 rfl (w3.heap.size + 1) 45 j0 (.agg #[.string ⟨#[]⟩, .int .i64 0, .int .i64 0, .int .i64 0, .slice none 0 0]) 5 64 Tryz.underlying22 (unhide Hj) (unhide Hy0) (unhide Hy1) (unhide Hy2) rfl (by decide) _ _ _ rfl (unhide HS8).nrow ⟨V.heap.size, 0, none⟩ 1 1 [.string (nmG i), .int .i64 x.kind, .int .i64 x.len, .int .i64 x.zone, .slice P x.exits.length cp] rfl rfl ?g1 ?g2 ?g3 ?g4 ?g5 ?_))
                all_goals first | (case g1 => exact World.news_of_block (heap_alloc_new V _)) | skip
                case g2 => simp [Value.oneCell']
                case g3 => unfold maxLen; omega
                case g4 => omega
                case g5 => first | omega | (rw [World.size_alloc]; omega)
                intro v' w10 hown10 hgrow10 _
                obtain ⟨A10, c10, rfl⟩ := own_form hown10
                have hbx10 := (hgrow10.block _ (unhide HS8).lt (fun e => by have := ((unhide HS8).nrow.lt _ e.symm).1; omega)).trans (unhide HS8).box
                have l10 : w10.cell? ⟨w3.heap.size, 0, none⟩ = some (.slice A us.length c) := by rw [Lib.cell_of_heap hbx10]; rfl
                have f10 : w10.frozen? ⟨w3.heap.size, 0, none⟩ = false := Lib.frozen_of_heap hbx10 0
                have HS11 := hide ((unhide HS8).pushN (u := ⟨{ x with name := nmG i }, P, cp⟩) hbl ⟨unhide HIr8, hcp⟩ hgrow10 hown10)
                clear hown10 hgrow10 hbx10 hV x0 x1 x2 x3 x4 v0 v1 v2 v3 v4 fx0 hcv l0
                go_wp2
                go_roundw
                have hiu := unhide HIl
                case rel => exact ⟨A10, c10, us ++ [⟨{ x with name := nmG i }, P, cp⟩], by rw [List.length_append, List.length_singleton]; omega, by rw [List.length_append, List.length_singleton, hiu]; go_num, unhide HS11, Lib.hid fun j hj => by
                  rw [List.length_append, List.length_singleton, hiu] at hj
                  by_cases e : j < us.length
                  · rw [getD_snoc_lt e]; exact unhide HG j (by omega)
                  · obtain rfl : j = us.length := by omega
                    rw [getD_snoc_eq, hiu]; exact unhide HGn⟩
                case measure => simp [intOf]; omega
    · obtain rfl : us.length = n := by omega
      have il : ¬ ((us.length : Int) < (M : Int) + 2) := by omega
      have hil : us.length = M + 2 := by omega
      have HIl := hide hil
      clear hil
      go_wp2_with fail
      refine (n_any B b 4 _ (unhide HS).rd.src (by omega) (by omega)).mono ?_
      rintro e w4 ⟨r, rfl, hr1, hr2, hs4, hg4⟩
      have HS4 := hide ((unhide HS).read hbl hs4 hg4)
      clear hs4 hg4
      obtain ⟨gN, rfl, hgN, -⟩ := own_cell (unhide HS4).nrow (by omega)
      have HIl2 := hide hnM
      clear hnM
      go_upto_if 143 with fail
      generalize decide (0 < r) = rb
      go_cut [10] from 33 to 188 (fun _ wx => ∃ vs : List NdS, vs.length = M + 2 ∧ GyS B b w w3.heap.size (some ⟨gN, 0, none⟩) c vs wx ∧ ∀ j, j < M + 2 → GenN z j (vs.getD j nds0).x)
      case first =>
        cases rb with
        | true =>
          go_wp2
          go_loopw [16] (fun i wr => ∃ (k : Nat) (vs : List NdS), k ≤ a ∧ i = .int .i64 k ∧ Hid (vs.length = M + 2) ∧ GyS B b w w3.heap.size (some ⟨gN, 0, none⟩) c vs wr ∧ Hid (∀ j, j < M + 2 → GenN z j (vs.getD j nds0).x)) (fun i _ => a - (intOf i).toNat)
          case atStart => exact ⟨0, us, Nat.zero_le _, rfl, Lib.hid (unhide HIl), unhide HS4, Lib.hid fun j hj => unhide HG j (by have := unhide HIl; omega)⟩
          case round =>
            obtain ⟨k, vs, hk, rfl, hvl, hS5, hG5⟩ := hrel
            obtain ⟨wi, rfl⟩ : ∃ wi : World, wi = wr := ⟨_, rfl⟩
            have HVl := hide hvl.out
            have HG5 := hide hG5.out
            have HS5 := hide hS5
            have hkv : k ≤ M + 1 := by omega
            clear hvl hG5 hS5
            by_cases hka : k < a
            · have hka' : (k : Int) < (a : Int) := by omega
              have hkl : k < vs.length := by have := unhide HVl; omega
              have hkl' : (k : Int) < (vs.length : Int) := by omega
              have k0 : (0 : Int) ≤ (k : Int) := by omega
              obtain ⟨g', hA', -, hcell⟩ := own_cell (unhide HS5).nrow (by omega)
              obtain rfl : gN = g' := by injection hA' with hA'; injection hA'
              have l0 : wi.cell? ⟨w3.heap.size, 0, none⟩ = some (.slice (some ⟨gN, 0, none⟩) vs.length c) := by rw [Lib.cell_of_heap (unhide HS5).box]; rfl
              have q1 : wi.cell? ⟨gN, k * 5 + 1, none⟩ = some (.int .i64 (vs.getD k nds0).x.kind) := hcell _ _ (by rw [ndsV_at vs k hkl 1 (by omega)]; rfl)
              have q4 : wi.cell? ⟨gN, k * 5 + 4, none⟩ = some (.slice (vs.getD k nds0).P (vs.getD k nds0).x.exits.length (vs.getD k nds0).c) := hcell _ _ (by rw [ndsV_at vs k hkl 4 (by omega)]; rfl)
              have hlies := (unhide HS5).lies (vs.getD k nds0) (by rw [at_k hkl]; exact List.getElem_mem _)
              have hgn := unhide HG5 k (by omega)
              have HSet := hide (show ∀ (W : World) (es : List Int) (P : Option Addr) (cp : Nat), Below wi.heap.size wi W → IntRow b W P es ∧ es.length ≤ cp → GyS B b w w3.heap.size (some ⟨gN, 0, none⟩) c (vs.set k ⟨{ (vs.getD k nds0).x with exits := es }, P, cp⟩) (W.setCell ⟨gN, k * 5 + 4, none⟩ (.slice P es.length cp)) from fun W es P cp hb hu => ((unhide HS5).below hb).setExits (k := k) (es := es) (P := P) (cp := cp) hbl hkl hu)
              have hf4 : wi.frozen? ⟨gN, k * 5 + 4, none⟩ = false := by
                obtain ⟨g9, cap9, cur9, hv9, _, hgg9, _⟩ := (unhide HS5).nrow.2.resolve_left (fun e => by cases e.1)
                have : gN = g9 := by injection hv9 with hv9; injection hv9 with hv9; injection hv9
                subst this
                exact Lib.frozen_of_heap hgg9 _
              have HSt := hide (show StG k (toZ z k) (vs.getD k nds0).x ∧ (vs.getD k nds0).x.zone = 0 ∧ (vs.getD k nds0).x.name = nmG k ∧ ((k = 0 ∧ (vs.getD k nds0).x.kind = 1) ∨ (0 < k ∧ ((vs.getD k nds0).x.kind = 2 ∨ (vs.getD k nds0).x.kind = 3 ∨ (vs.getD k nds0).x.kind = 4 ∨ (vs.getD k nds0).x.kind = 5))) from by
                have ha9 := unhide HA
                obtain ⟨h0, h | h | h | h | h | h | h⟩ := hgn
                · exact ⟨h.2.2.2, h.2.1, h0, .inl ⟨h.1, h.2.2.1⟩⟩
                · exact ⟨h.2.2.2.2, h.2.2.1, h0, .inr ⟨h.1, h.2.2.2.1⟩⟩
                · have := h.1; omega
                · have := h.1; omega
                · have := h.1; omega
                · have := h.1; omega
                · have := h.1; have := z.eq; omega)
              have HGset := hide (show ∀ es P cp, StG k (toZ z k) { (vs.getD k nds0).x with exits := es } → ∀ j, j < M + 2 → GenN z j ((vs.set k ⟨{ (vs.getD k nds0).x with exits := es }, P, cp⟩).getD j nds0).x from fun es P cp hst j hj => by
                by_cases e : j = k
                · subst e
                  rw [at_k (by rw [List.length_set]; exact hkl), List.getElem_set_self]
                  have h9 := unhide HSt
                  refine ⟨h9.2.2.1, ?_⟩
                  rcases h9.2.2.2 with h | h
                  · exact .inl ⟨h.1, h9.2.1, h.2, hst⟩
                  · exact .inr (.inl ⟨h.1, by rw [unhide HA]; exact hka, h9.2.1, h.2, hst⟩)
                · have hjl : j < vs.length := by have := unhide HVl; omega
                  rw [at_k (by rw [List.length_set]; exact hjl), List.getElem_set_ne (fun e2 => e e2.symm)]
                  have := unhide HG5 j hj
                  rwa [at_k hjl] at this)
              have HLset := hide (show ∀ u : NdS, (vs.set k u).length = M + 2 from fun u => by rw [List.length_set]; exact unhide HVl)
              clear hcell hA' hgn
              generalize vs.getD k nds0 = u at *
              obtain ⟨x, P, cp⟩ := u
              by_cases k5 : x.kind = 5
              · have b5 : (x.kind != 5) = false := by rw [bne_eq_false_iff_eq]; exact k5
                go_wp2
                go_roundw
                case rel => exact ⟨k + 1, vs, by omega, by go_num, Lib.hid (unhide HVl), unhide HS5, Lib.hid (unhide HG5)⟩
                case measure => simp [intOf]; omega
              · have b5 : (x.kind != 5) = true := by rw [bne_iff_ne]; exact k5
                have hexl : 1 ≤ x.exits.length ∧ x.exits.length ≤ 2 := by
                  rcases (unhide HSt).1 with ⟨_, _, _, _, t, h, _⟩ | ⟨_, _, _, t, u, h, _⟩ | ⟨_, _, _, t, h, _⟩ <;> (have h' : x.exits = _ := h; rw [h']; simp)
                have HIn := hide (kin_any b x.exits ((k : Int) + 1) P cp wi (by omega) hlies.1.nums)
                have HLies := hide hlies
                clear hlies
                by_cases hin : ((k : Int) + 1) ∈ x.exits
                · rw [decide_eq_true hin] at HIn
                  clear hin
                  go_wp2_with (first | (go_at_call 25; refine (unhide HIn).mono ?_; rintro e w6 ⟨rfl, rfl⟩))
                  go_roundw
                  case rel => exact ⟨k + 1, vs, by omega, by go_num, Lib.hid (unhide HVl), unhide HS5, Lib.hid (unhide HG5)⟩
                  case measure => simp [intOf]; omega
                · rw [decide_eq_false hin] at HIn
                  have HNin := hide hin
                  clear hin
                  go_wp2_with (first | (go_at_call 25; refine (unhide HIn).mono ?_; rintro e w6 ⟨rfl, rfl⟩))
                  have bX := (Below.refl wi.heap.size wi).drew
                  have dl0 := kept bX l0
                  have dq4 := kept bX q4
                  have hk1 : IntKind.i64.wrap ((k : Int) + 1) = (k : Int) + 1 := IntWalk.i64_in _ (by omega)
                  have bA := ((Below.refl wi.heap.size wi).alloc (Nat.le_refl _) (.cells #[.int .i64 ((k : Int) + 1)] 3)).drew
                  have al0 := kept bA l0
                  have aq4 := kept bA q4
                  have hgk : b < wi.heap.size := by have := (unhide HS5).lt; have := (unhide HS5).qlt; omega
                  obtain ⟨gp, csp, fzp, rfl, hgpb, hgph, hgpc⟩ := (unhide HLies).1 (by omega)
                  have hcl := (unhide HLies).2
                  have af4 : ((wi.alloc (.cells #[.int .i64 ((k : Int) + 1)] 3)).drew).frozen? ⟨gN, k * 5 + 4, none⟩ = false := frz bA (World.block_lt_of_cell? wi _ q4) hf4
                  have hgq : w3.heap.size ≠ gN := by omega
                  rcases (unhide HSt).1 with ⟨k4, k5', hl1, hl2, t, hex, ht⟩ | ⟨k4, hl1, hl2, t, u, hex, htu, ht, hu⟩ | ⟨h5, _⟩
                  · have hL : x.exits.length = 1 := by rw [show x.exits = [t] from hex]; rfl
                    have HSN := hide (unhide HSet ((wi.alloc (.cells #[.int .i64 ((k : Int) + 1)] 3)).drew) [(k : Int) + 1] (some ⟨wi.heap.size, 0, none⟩) 1 bA ⟨(introw_one hgk ((k : Int) + 1)).step (KeepTy.below ((Below.refl _ _).drew)), Nat.le_refl _⟩)
                    have HST := hide (show StG k (toZ z k) { x with exits := [(k : Int) + 1] } from .inl ⟨k4, k5', hl1, hl2, _, rfl, .inl ⟨by omega, by rw [unhide HA]; omega⟩⟩)
                    clear hex ht
                    by_cases hc1 : cp = 1
                    · subst hc1
                      refine wp_region_held (S := fun Z => Z.cell? ⟨w3.heap.size, 0, none⟩ = some (.slice (some ⟨gN, 0, none⟩) vs.length c)) (by kernel_rfl) ?_
                      refine wpAnyH_take (i := 0) (v := .pointer (some ⟨w3.heap.size, 0, none⟩)) rfl (by kernel_rfl) (by kernel_rfl) (by kernel_rfl) (fun _ _ _ h => h) (Or.inl ⟨by rfl, by intro w hs; go_simp⟩) dl0 ?_
                      refine wpAnyH_take (i := 1) (v := .slice (some ⟨gN, 0, none⟩) vs.length c) rfl (by kernel_rfl) (by kernel_rfl) (by kernel_rfl) (fun _ _ _ h => h) (Or.inl ⟨by rfl, by intro w hs; go_simp⟩) dl0 ?_
                      refine wpAnyH_take (i := 2) (v := .int .i64 (k : Int)) rfl (by kernel_rfl) (by kernel_rfl) (by kernel_rfl) (fun _ _ _ h => h) (Or.inl ⟨by rfl, by intro w hs; go_simp⟩) dl0 ?_
                      refine wpAnyH_take (i := 3) (v := .int .i64 (k : Int)) rfl (by kernel_rfl) (by kernel_rfl) (by kernel_rfl) (fun _ _ _ h => h) (Or.inl ⟨by rfl, by intro w hs; go_simp⟩) dl0 ?_
                      refine wpAnyH_take (i := 4) (v := .int .i64 ((k : Int) + 1)) rfl (by kernel_rfl) (by kernel_rfl) (by kernel_rfl) (fun _ _ _ h => h) (Or.inl ⟨by rfl, by intro w hs; go_simp⟩) dl0 ?_
                      refine wpAnyH_take (i := 6) (v := .pointer (some ⟨w3.heap.size, 0, none⟩)) rfl (by kernel_rfl) (by kernel_rfl) (by kernel_rfl) (fun _ _ _ h => h) (Or.inl ⟨by rfl, by intro w hs; go_simp⟩) dl0 ?_
                      refine wpAnyH_take (i := 7) (v := .slice (some ⟨gN, 0, none⟩) vs.length c) rfl (by kernel_rfl) (by kernel_rfl) (by kernel_rfl) (fun _ _ _ h => h) (Or.inl ⟨by rfl, by intro w hs; go_simp⟩) dl0 ?_
                      refine wpAnyH_take (i := 8) (v := .int .i64 (k : Int)) rfl (by kernel_rfl) (by kernel_rfl) (by kernel_rfl) (fun _ _ _ h => h) (Or.inl ⟨by rfl, by intro w hs; go_simp⟩) dl0 ?_
                      refine wpAnyH_take (i := 9) (v := .pointer (some ⟨gN, k * 5, none⟩)) rfl (by kernel_rfl) (by kernel_rfl) (by kernel_rfl) (fun _ _ _ h => h) (Or.inl ⟨by rfl, by intro w hs; go_simp⟩) dl0 ?_
                      refine wpAnyH_take (i := 10) (v := .pointer (some ⟨gN, k * 5 + 4, none⟩)) rfl (by kernel_rfl) (by kernel_rfl) (by kernel_rfl) (fun _ _ _ h => h) (Or.inl ⟨by rfl, by intro w hs; go_simp⟩) dl0 ?_
                      refine wpAnyH_two (i := 5) (j := 11) (by kernel_rfl) rfl rfl (fun K hK => ?_) (fun K hK => ?_)
                      case' refine_1 =>
                        go_simp
                        refine hK _ _ ⟨al0, ?_⟩
                        clear hK K
                        refine wpAnyH_one (i := 11) (by kernel_rfl) rfl (fun K hK => ?_)
                        go_simp
                        refine hK _ _ ⟨al0, ?_⟩
                        clear hK K
                        refine wpAnyH_take (i := 12) (v := .slice (some ⟨gp, 0, none⟩) 0 0) rfl (by kernel_rfl) (by kernel_rfl) (by kernel_rfl) (fun _ _ _ h => h) (Or.inl ⟨by rfl, by intro w hs; go_simp⟩) al0 ?_
                      case' refine_2 =>
                        go_simp
                        refine hK _ _ ⟨dl0, ?_⟩
                        clear hK K
                        refine wpAnyH_take (i := 12) (v := .slice (some ⟨gp, 0, none⟩) 0 0) rfl (by kernel_rfl) (by kernel_rfl) (by kernel_rfl) (fun _ _ _ h => h) (Or.inl ⟨by rfl, by intro w hs; go_simp⟩) dl0 ?_
                        refine wpAnyH_one (i := 5) (by kernel_rfl) rfl (fun K hK => ?_)
                        go_simp
                        refine hK _ _ ⟨al0, ?_⟩
                        clear hK K
                      all_goals
                        refine wpAnyH_one (i := 13) (by kernel_rfl) rfl (fun K hK => ?_)
                        go_simp
                        refine hK _ _ ⟨al0, ?_⟩
                        clear hK K
                        refine wpAnyH_take (i := 14) (v := .pointer (some ⟨gN, k * 5, none⟩)) rfl (by kernel_rfl) (by kernel_rfl) (by kernel_rfl) (fun _ _ _ h => h) (Or.inl ⟨by rfl, by intro w hs; go_simp⟩) al0 ?_
                        refine wpAnyH_take (i := 15) (v := .pointer (some ⟨gN, k * 5 + 4, none⟩)) rfl (by kernel_rfl) (by kernel_rfl) (by kernel_rfl) (fun _ _ _ h => h) (Or.inl ⟨by rfl, by intro w hs; go_simp⟩) al0 ?_
                        refine wpAnyH_one (i := 16) (by kernel_rfl) rfl (fun K hK => ?_)
                        go_simp
                        refine hK _ _ ⟨by first | (rw [World.cell?_setCell_other _ _ _ _ (fun e => by have := congrArg Addr.block e; simp at this; omega)]; exact al0) | (show (World.setCell _ _ _).cell? _ = _; rw [World.cell?_setCell_other _ _ _ _ (fun e => by have := congrArg Addr.block e; simp at this; omega)]; exact al0), ?_⟩
                        clear hK K
                        refine wpAnyH_done (by kernel_rfl) ?_ _
                        go_simp
                        clear dl0 dq4 al0 aq4 l0 q1 q4
                        go_wp2
                        go_roundw
                        case rel => exact ⟨k + 1, vs.set k ⟨{ x with exits := [(k : Int) + 1] }, some ⟨wi.heap.size, 0, none⟩, 1⟩, by omega, by go_num, Lib.hid (unhide HLset _), unhide HSN, Lib.hid (unhide HGset [(k : Int) + 1] _ _ (unhide HST))⟩
                        case measure => simp [intOf]; omega
                    · refine wp_region_held (S := fun Z => Z.cell? ⟨w3.heap.size, 0, none⟩ = some (.slice (some ⟨gN, 0, none⟩) vs.length c)) (by kernel_rfl) ?_
                      refine wpAnyH_take (i := 0) (v := .pointer (some ⟨w3.heap.size, 0, none⟩)) rfl (by kernel_rfl) (by kernel_rfl) (by kernel_rfl) (fun _ _ _ h => h) (Or.inl ⟨by rfl, by intro w hs; go_simp⟩) dl0 ?_
                      refine wpAnyH_take (i := 1) (v := .slice (some ⟨gN, 0, none⟩) vs.length c) rfl (by kernel_rfl) (by kernel_rfl) (by kernel_rfl) (fun _ _ _ h => h) (Or.inl ⟨by rfl, by intro w hs; go_simp⟩) dl0 ?_
                      refine wpAnyH_take (i := 2) (v := .int .i64 (k : Int)) rfl (by kernel_rfl) (by kernel_rfl) (by kernel_rfl) (fun _ _ _ h => h) (Or.inl ⟨by rfl, by intro w hs; go_simp⟩) dl0 ?_
                      refine wpAnyH_take (i := 3) (v := .int .i64 (k : Int)) rfl (by kernel_rfl) (by kernel_rfl) (by kernel_rfl) (fun _ _ _ h => h) (Or.inl ⟨by rfl, by intro w hs; go_simp⟩) dl0 ?_
                      refine wpAnyH_take (i := 4) (v := .int .i64 ((k : Int) + 1)) rfl (by kernel_rfl) (by kernel_rfl) (by kernel_rfl) (fun _ _ _ h => h) (Or.inl ⟨by rfl, by intro w hs; go_simp⟩) dl0 ?_
                      refine wpAnyH_take (i := 6) (v := .pointer (some ⟨w3.heap.size, 0, none⟩)) rfl (by kernel_rfl) (by kernel_rfl) (by kernel_rfl) (fun _ _ _ h => h) (Or.inl ⟨by rfl, by intro w hs; go_simp⟩) dl0 ?_
                      refine wpAnyH_take (i := 7) (v := .slice (some ⟨gN, 0, none⟩) vs.length c) rfl (by kernel_rfl) (by kernel_rfl) (by kernel_rfl) (fun _ _ _ h => h) (Or.inl ⟨by rfl, by intro w hs; go_simp⟩) dl0 ?_
                      refine wpAnyH_take (i := 8) (v := .int .i64 (k : Int)) rfl (by kernel_rfl) (by kernel_rfl) (by kernel_rfl) (fun _ _ _ h => h) (Or.inl ⟨by rfl, by intro w hs; go_simp⟩) dl0 ?_
                      refine wpAnyH_take (i := 9) (v := .pointer (some ⟨gN, k * 5, none⟩)) rfl (by kernel_rfl) (by kernel_rfl) (by kernel_rfl) (fun _ _ _ h => h) (Or.inl ⟨by rfl, by intro w hs; go_simp⟩) dl0 ?_
                      refine wpAnyH_take (i := 10) (v := .pointer (some ⟨gN, k * 5 + 4, none⟩)) rfl (by kernel_rfl) (by kernel_rfl) (by kernel_rfl) (fun _ _ _ h => h) (Or.inl ⟨by rfl, by intro w hs; go_simp⟩) dl0 ?_
                      refine wpAnyH_two (i := 5) (j := 11) (by kernel_rfl) rfl rfl (fun K hK => ?_) (fun K hK => ?_)
                      case' refine_1 =>
                        go_simp
                        refine hK _ _ ⟨al0, ?_⟩
                        clear hK K
                        refine wpAnyH_one (i := 11) (by kernel_rfl) rfl (fun K hK => ?_)
                        go_simp
                        refine hK _ _ ⟨al0, ?_⟩
                        clear hK K
                        refine wpAnyH_take (i := 12) (v := .slice (some ⟨gp, 1, none⟩) 0 (cp - 1)) rfl (by kernel_rfl) (by kernel_rfl) (by kernel_rfl) (fun _ _ _ h => h) (Or.inl ⟨by rfl, by intro w hs; go_simp⟩) al0 ?_
                      case' refine_2 =>
                        go_simp
                        refine hK _ _ ⟨dl0, ?_⟩
                        clear hK K
                        refine wpAnyH_take (i := 12) (v := .slice (some ⟨gp, 1, none⟩) 0 (cp - 1)) rfl (by kernel_rfl) (by kernel_rfl) (by kernel_rfl) (fun _ _ _ h => h) (Or.inl ⟨by rfl, by intro w hs; go_simp⟩) dl0 ?_
                        refine wpAnyH_one (i := 5) (by kernel_rfl) rfl (fun K hK => ?_)
                        go_simp
                        refine hK _ _ ⟨al0, ?_⟩
                        clear hK K
                      all_goals
                        refine wpAnyH_one (i := 13) (by kernel_rfl) rfl (fun K hK => ?_)
                        go_simp
                        refine hK _ _ ⟨al0, ?_⟩
                        clear hK K
                        refine wpAnyH_take (i := 14) (v := .pointer (some ⟨gN, k * 5, none⟩)) rfl (by kernel_rfl) (by kernel_rfl) (by kernel_rfl) (fun _ _ _ h => h) (Or.inl ⟨by rfl, by intro w hs; go_simp⟩) al0 ?_
                        refine wpAnyH_take (i := 15) (v := .pointer (some ⟨gN, k * 5 + 4, none⟩)) rfl (by kernel_rfl) (by kernel_rfl) (by kernel_rfl) (fun _ _ _ h => h) (Or.inl ⟨by rfl, by intro w hs; go_simp⟩) al0 ?_
                        refine wpAnyH_one (i := 16) (by kernel_rfl) rfl (fun K hK => ?_)
                        go_simp
                        refine hK _ _ ⟨by first | (rw [World.cell?_setCell_other _ _ _ _ (fun e => by have := congrArg Addr.block e; simp at this; omega)]; exact al0) | (show (World.setCell _ _ _).cell? _ = _; rw [World.cell?_setCell_other _ _ _ _ (fun e => by have := congrArg Addr.block e; simp at this; omega)]; exact al0), ?_⟩
                        clear hK K
                        refine wpAnyH_done (by kernel_rfl) ?_ _
                        go_simp
                        clear dl0 dq4 al0 aq4 l0 q1 q4
                        go_wp2
                        go_roundw
                        case rel => exact ⟨k + 1, vs.set k ⟨{ x with exits := [(k : Int) + 1] }, some ⟨wi.heap.size, 0, none⟩, 1⟩, by omega, by go_num, Lib.hid (unhide HLset _), unhide HSN, Lib.hid (unhide HGset [(k : Int) + 1] _ _ (unhide HST))⟩
                        case measure => simp [intOf]; omega
                  · have hL : x.exits.length = 2 := by rw [show x.exits = [t, u] from hex]; rfl
                    have hc1 : cp ≠ 1 := by omega
                    have hune : u ≠ (k : Int) + 1 := fun e => unhide HNin (by rw [show x.exits = [t, u] from hex, ← e]; simp)
                    have hyu : ((wi.alloc (.cells #[.int .i64 ((k : Int) + 1)] 3)).drew).cell? ⟨gp, 1, none⟩ = some (.int .i64 u) := kept bA (by
                      rw [Lib.cell_of_heap hgph]
                      have := hgpc 1 (by show 1 < x.exits.length; omega)
                      rw [show (⟨x, some ⟨gp, 0, none⟩, cp⟩ : NdS).x.exits = [t, u] from hex] at this
                      exact this)
                    have HO1 := hide (owns_later (own_built (w := wi) (.int .i64 ((k : Int) + 1)) 3 (Nat.le_refl _)) ((Below.refl _ _).drew))
                    have HST := hide (show StG k (toZ z k) { x with exits := [(k : Int) + 1, u] } from .inr (.inl ⟨k4, hl1, hl2, _, _, rfl, fun e => hune e.symm, .inl ⟨by omega, by rw [unhide HA]; omega⟩, hu⟩))
                    have hwz : wi.heap.size < ((wi.alloc (.cells #[.int .i64 ((k : Int) + 1)] 3)).drew).heap.size := by show _ < (wi.alloc _).heap.size; rw [World.size_alloc]; omega
                    have HHyu := hide hyu
                    clear hex ht
                    refine wp_region_held (S := fun Z => Z.cell? ⟨w3.heap.size, 0, none⟩ = some (.slice (some ⟨gN, 0, none⟩) vs.length c)) (by kernel_rfl) ?_
                    refine wpAnyH_take (i := 0) (v := .pointer (some ⟨w3.heap.size, 0, none⟩)) rfl (by kernel_rfl) (by kernel_rfl) (by kernel_rfl) (fun _ _ _ h => h) (Or.inl ⟨by rfl, by intro w hs; go_simp⟩) dl0 ?_
                    refine wpAnyH_take (i := 1) (v := .slice (some ⟨gN, 0, none⟩) vs.length c) rfl (by kernel_rfl) (by kernel_rfl) (by kernel_rfl) (fun _ _ _ h => h) (Or.inl ⟨by rfl, by intro w hs; go_simp⟩) dl0 ?_
                    refine wpAnyH_take (i := 2) (v := .int .i64 (k : Int)) rfl (by kernel_rfl) (by kernel_rfl) (by kernel_rfl) (fun _ _ _ h => h) (Or.inl ⟨by rfl, by intro w hs; go_simp⟩) dl0 ?_
                    refine wpAnyH_take (i := 3) (v := .int .i64 (k : Int)) rfl (by kernel_rfl) (by kernel_rfl) (by kernel_rfl) (fun _ _ _ h => h) (Or.inl ⟨by rfl, by intro w hs; go_simp⟩) dl0 ?_
                    refine wpAnyH_take (i := 4) (v := .int .i64 ((k : Int) + 1)) rfl (by kernel_rfl) (by kernel_rfl) (by kernel_rfl) (fun _ _ _ h => h) (Or.inl ⟨by rfl, by intro w hs; go_simp⟩) dl0 ?_
                    refine wpAnyH_take (i := 6) (v := .pointer (some ⟨w3.heap.size, 0, none⟩)) rfl (by kernel_rfl) (by kernel_rfl) (by kernel_rfl) (fun _ _ _ h => h) (Or.inl ⟨by rfl, by intro w hs; go_simp⟩) dl0 ?_
                    refine wpAnyH_take (i := 7) (v := .slice (some ⟨gN, 0, none⟩) vs.length c) rfl (by kernel_rfl) (by kernel_rfl) (by kernel_rfl) (fun _ _ _ h => h) (Or.inl ⟨by rfl, by intro w hs; go_simp⟩) dl0 ?_
                    refine wpAnyH_take (i := 8) (v := .int .i64 (k : Int)) rfl (by kernel_rfl) (by kernel_rfl) (by kernel_rfl) (fun _ _ _ h => h) (Or.inl ⟨by rfl, by intro w hs; go_simp⟩) dl0 ?_
                    refine wpAnyH_take (i := 9) (v := .pointer (some ⟨gN, k * 5, none⟩)) rfl (by kernel_rfl) (by kernel_rfl) (by kernel_rfl) (fun _ _ _ h => h) (Or.inl ⟨by rfl, by intro w hs; go_simp⟩) dl0 ?_
                    refine wpAnyH_take (i := 10) (v := .pointer (some ⟨gN, k * 5 + 4, none⟩)) rfl (by kernel_rfl) (by kernel_rfl) (by kernel_rfl) (fun _ _ _ h => h) (Or.inl ⟨by rfl, by intro w hs; go_simp⟩) dl0 ?_
                    refine wpAnyH_two (i := 5) (j := 11) (by kernel_rfl) rfl rfl (fun K hK => ?_) (fun K hK => ?_)
                    case' refine_1 =>
                      go_simp
                      refine hK _ _ ⟨al0, ?_⟩
                      clear hK K
                      refine wpAnyH_one (i := 11) (by kernel_rfl) rfl (fun K hK => ?_)
                      go_simp
                      refine hK _ _ ⟨al0, ?_⟩
                      clear hK K
                      refine wpAnyH_take (i := 12) (v := .slice (some ⟨gp, 1, none⟩) 1 (cp - 1)) rfl (by kernel_rfl) (by kernel_rfl) (by kernel_rfl) (fun _ _ _ h => h) (Or.inl ⟨by rfl, by intro w hs; go_simp⟩) al0 ?_
                    case' refine_2 =>
                      go_simp
                      refine hK _ _ ⟨dl0, ?_⟩
                      clear hK K
                      refine wpAnyH_take (i := 12) (v := .slice (some ⟨gp, 1, none⟩) 1 (cp - 1)) rfl (by kernel_rfl) (by kernel_rfl) (by kernel_rfl) (fun _ _ _ h => h) (Or.inl ⟨by rfl, by intro w hs; go_simp⟩) dl0 ?_
                      refine wpAnyH_one (i := 5) (by kernel_rfl) rfl (fun K hK => ?_)
                      go_simp
                      refine hK _ _ ⟨al0, ?_⟩
                      clear hK K
                    all_goals
                      refine wpAnyH_one (i := 13) (by kernel_rfl) rfl (fun K hK => ?_)
                      refine step_append_lies _ rfl _ _ 26 rfl wi.heap.size 3 i0 (.int .i64 0) 1 8 Tryz.underlying26 (unhide Hi) (unhide Hz0) (unhide Hz1) (unhide Hz2) rfl (by decide) _ _ _ rfl (unhide HO1) ⟨gp, 1, none⟩ 1 (cp - 1) [.int .i64 u] rfl rfl (fun j v hj => by
                        obtain rfl : j = 0 := by
                          rcases Nat.eq_zero_or_pos j with h | h
                          · exact h
                          · rw [List.getElem?_eq_none (by show 1 ≤ j; omega)] at hj; cases hj
                        have : v = .int .i64 u := (Option.some.inj hj).symm
                        rw [this]; exact unhide HHyu) (by intro v hv; simp at hv; subst hv; rfl) (by omega) (by unfold maxLen; omega) (by omega) (Nat.le_of_lt hwz) _ rfl ?_
                      intro g9 cap9 w9 hown9 hgrow9 hat9 hlt9
                      have b9 : Below wi.heap.size wi w9 := bA.grown hgrow9 (Nat.le_of_lt hwz) (fun g hg => ((unhide HO1).lt g hg).1)
                      have ml0 := kept b9 l0
                      have mq4 := kept b9 q4
                      have mf4 := frz b9 (World.block_lt_of_cell? wi _ q4) hf4
                      have HSN := hide (unhide HSet w9 [(k : Int) + 1, u] (some ⟨g9, 0, none⟩) cap9 b9 ⟨IntRow.own (l := [(k : Int) + 1, u]) hown9 hgk, own_cap hown9⟩)
                      clear hown9 hgrow9 hat9 hlt9
                      refine hK _ _ ⟨ml0, ?_⟩
                      clear hK K
                      refine wpAnyH_take (i := 14) (v := .pointer (some ⟨gN, k * 5, none⟩)) rfl (by kernel_rfl) (by kernel_rfl) (by kernel_rfl) (fun _ _ _ h => h) (Or.inl ⟨by rfl, by intro w hs; go_simp⟩) ml0 ?_
                      refine wpAnyH_take (i := 15) (v := .pointer (some ⟨gN, k * 5 + 4, none⟩)) rfl (by kernel_rfl) (by kernel_rfl) (by kernel_rfl) (fun _ _ _ h => h) (Or.inl ⟨by rfl, by intro w hs; go_simp⟩) ml0 ?_
                      refine wpAnyH_one (i := 16) (by kernel_rfl) rfl (fun K hK => ?_)
                      go_simp
                      refine hK _ _ ⟨by first | (rw [World.cell?_setCell_other _ _ _ _ (fun e => by have := congrArg Addr.block e; simp at this; omega)]; exact ml0) | (show (World.setCell _ _ _).cell? _ = _; rw [World.cell?_setCell_other _ _ _ _ (fun e => by have := congrArg Addr.block e; simp at this; omega)]; exact ml0), ?_⟩
                      clear hK K
                      refine wpAnyH_done (by kernel_rfl) ?_ _
                      go_simp
                      clear dl0 dq4 al0 aq4 l0 q1 q4
                      go_wp2
                      go_roundw
                      case rel => exact ⟨k + 1, vs.set k ⟨{ x with exits := [(k : Int) + 1, u] }, some ⟨g9, 0, none⟩, cap9⟩, by omega, by go_num, Lib.hid (unhide HLset _), unhide HSN, Lib.hid (unhide HGset [(k : Int) + 1, u] _ _ (unhide HST))⟩
                      case measure => simp [intOf]; omega
                  · exact absurd h5 k5
            · have hka' : ¬ (k : Int) < (a : Int) := by omega
              go_wp2
              go_meet
              exact ⟨vs, unhide HVl, unhide HS5, unhide HG5⟩
        | false =>
          go_wp2
          go_meet
          exact ⟨us, unhide HIl, unhide HS4, fun j hj => unhide HG j (by have := unhide HIl; omega)⟩
      case rest =>
        obtain ⟨vs, hvl, hS5, hG5⟩ := hcut
        have HVl := hide hvl
        have hvn : (vs.map (·.x)).length = vs.length := List.length_map _
        have hzn2 : z.n = M + 2 := by rw [unhide HN]; exact unhide HIl2
        have hgu : ∀ j, j < vs.length → GenN z j ((vs.map (·.x)).getD j nd0) := fun j hj => by
          have := hG5 j (by omega)
          rw [at_k hj] at this
          rw [at_k (by rw [hvn]; exact hj), List.getElem_map]
          exact this
        have hgg : ∀ j, j < vs.length → GenU z j ((vs.map (·.x)).getD j nd0) := fun j hj => gen_u (unhide HOk) (by omega) (hgu j hj)
        have HGu := hide hgu
        have hnd : NdsIn b wc (some ⟨gN, 0, none⟩) (vs.map (·.x)) := nds_own hS5.nrow (by have := hS5.qlt; omega) hS5.lies
        have hdc := devices_any B b (vs.map (·.x)) (some ⟨gN, 0, none⟩) none c 0 0 wc hS5.rd.src (by rw [hvn]; omega) (fun j hj => by have := (hgg j (by rw [← hvn]; exact hj)).len; omega) hnd
        rw [hvn] at hdc
        have HDc := hide hdc
        have HNd := hide hnd
        have HS5 := hide hS5
        have l0 : wc.cell? ⟨w3.heap.size, 0, none⟩ = some (.slice (some ⟨gN, 0, none⟩) vs.length c) := by rw [Lib.cell_of_heap hS5.box]; rfl
        have l1 : wc.cell? ⟨w3.heap.size, 1, none⟩ = some (.slice none 0 0) := by rw [Lib.cell_of_heap hS5.box]; rfl
        clear hdc hnd hgg hgu hS5 hG5 HG HS HIl hvl
        generalize hL : vs.map (·.x) = l at *
        have HLl := hide hvn
        clear hvn hL
        go_wp2_with fail
        refine (unhide HDc).mono ?_
        rintro e w6 ⟨v, ds, rfl, hown6, hgd6, hs6, hg6⟩
        obtain ⟨Ad, cd, rfl⟩ := own_form hown6
        have hS6 := (unhide HS5).read hbl hs6 hg6
        have hbx6 := hS6.box
        have hq6 := hS6.qlt
        have k0 : w6.cell? ⟨w3.heap.size, 0, none⟩ = some (.slice (some ⟨gN, 0, none⟩) vs.length c) := by rw [Lib.cell_of_heap hbx6]; rfl
        have k1 : w6.cell? ⟨w3.heap.size, 1, none⟩ = some (.slice none 0 0) := by rw [Lib.cell_of_heap hbx6]; rfl
        have kf1 : w6.frozen? ⟨w3.heap.size, 1, none⟩ = false := Lib.frozen_of_heap hbx6 1
        obtain ⟨V, hV⟩ : ∃ V : World, w6.setCell ⟨w3.heap.size, 1, none⟩ (.slice Ad ds.length cd) = V := ⟨_, rfl⟩
        have hbxV : V.heap[w3.heap.size]? = some (.cells #[.slice (some ⟨gN, 0, none⟩) vs.length c, .slice Ad ds.length cd] 25 (0, 0)) := by rw [← hV]; exact heap_set hbx6 _
        have hresV : V.heap[w.heap.size]? = some (.cells zL 25 (0, 0)) := by rw [← hV]; exact heap_setOther hS6.res (by omega) _
        have m0 : V.cell? ⟨w3.heap.size, 0, none⟩ = some (.slice (some ⟨gN, 0, none⟩) vs.length c) := by rw [Lib.cell_of_heap hbxV]; rfl
        have m1 : V.cell? ⟨w3.heap.size, 1, none⟩ = some (.slice Ad ds.length cd) := by rw [Lib.cell_of_heap hbxV]; rfl
        have hsl := SlB.cell (i := 1) hbx6 (.slice Ad ds.length cd)
        rw [hV] at hsl
        have hsr := SlB.row hresV #[.slice (some ⟨gN, 0, none⟩) vs.length c, .slice Ad ds.length cd]
        have HNV := hide (hsr.nds (hsl.nds ((unhide HNd).grown hg6)))
        have HDV := hide (hsr.dvs (hsl.dvs (dvs_own (b := b) hown6 (by have := (unhide HS5).lt; omega))))
        have hRV : Rd w B b V := by rw [← hV]; exact hS6.rd.new (grown_set w6 w3.heap.size 1 _) (by omega) hbl
        have HRW := hide (hRV.new (grown_setRow V w.heap.size #[.slice (some ⟨gN, 0, none⟩) vs.length c, .slice Ad ds.length cd]) (Nat.le_refl _) hbl)
        have HGd := hide hgd6
        have HResV := hide hresV
        clear hs6 hg6 hown6 hS6 hbx6 hbxV hsl hsr hRV hgd6 hresV l0 l1
        go_wp2_with (first
          | (refine wpList_store_row rfl _ _ _ rfl w.heap.size #[.slice (some ⟨gN, 0, none⟩) vs.length c, .slice Ad ds.length cd] rfl rfl 25 _ (unhide HResV) linfo_lay rfl (by simp [Value.oneCell']) ?_))
        have hR := setRow_heap V w.heap.size _ #[.slice (some ⟨gN, 0, none⟩) vs.length c, .slice Ad ds.length cd] _ _ (unhide HResV)
        have z0 : (V.setRow w.heap.size #[.slice (some ⟨gN, 0, none⟩) vs.length c, .slice Ad ds.length cd]).cell? ⟨w.heap.size, 0, none⟩ = some (.slice (some ⟨gN, 0, none⟩) vs.length c) := by rw [Lib.cell_of_heap hR]; rfl
        have z1 : (V.setRow w.heap.size #[.slice (some ⟨gN, 0, none⟩) vs.length c, .slice Ad ds.length cd]).cell? ⟨w.heap.size, 1, none⟩ = some (.slice Ad ds.length cd) := by rw [Lib.cell_of_heap hR]; rfl
        exact bodyPost_ret (v := .agg #[.slice (some ⟨gN, 0, none⟩) vs.length c, .slice Ad ds.length cd]) (by simp [results, go_sem, z0, z1]) rfl ⟨z, ⟨l, ds⟩, some ⟨gN, 0, none⟩, c, Ad, cd, by show _ = Ending.returned (.agg #[.slice (some ⟨gN, 0, none⟩) l.length c, .slice Ad ds.length cd]); rw [unhide HLl], ⟨unhide HOk, by show l.length = z.n; rw [unhide HLl, hzn2]; exact unhide HVl, fun j hj => unhide HGu j (by have := unhide HVl; omega), unhide HGd⟩, unhide HNV, unhide HDV, (unhide HRW).src, (unhide HRW).gr⟩
end Go.Proofs.YtfddpdognelhmaaGreatDoor
