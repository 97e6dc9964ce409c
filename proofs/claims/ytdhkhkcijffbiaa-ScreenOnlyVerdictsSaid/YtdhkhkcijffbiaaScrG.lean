/-
  Screening (layer 15): ScreenOnlyVerdicts: its walk.
-/
import Derived.Test.YtdhkhkcijffbiaaScrF
import Derived.Deep.CutRange
import Derived.Deep.CutBlock
namespace Go.Proofs.Ytdhkhkcijffbiaa
open Go.RowKit

/-- Behind a step: the screening of before in its box, the one of now, and what became of each bag. -/
structure OvA (w0 : World) (R X G : Nat) (s : Scr) (A : Option Addr) (c : Nat) (s' : Scr) (A' : Option Addr) (c' : Nat) (image : Int) (clear : Bool) (now : Int) (W : World) : Prop where
  st : OvS w0 R X s' A' c' W
  old : W.heap[G]? = some (scrO s A c)
  cks : CksIn R W A s.l
  cap : s.l.length ≤ c
  val : ValS s
  step : ∀ b, StepB image clear now s s' b
  next : s'.next ≤ s.next + 50

/-- Behind the start's call: what it gave lies in box Gn. -/
structure OvN (w0 : World) (R X G Gn : Nat) (s : Scr) (A : Option Addr) (c : Nat) (o : Scr) (A' : Option Addr) (c' : Nat) (W : World) : Prop where
  st : OvS w0 R X s A c W
  old : W.heap[G]? = some (scrO s A c)
  box : W.heap[Gn]? = some (scrO o A' c')
  nR : CksIn R W A' o.l
  nX : CksIn X W A' o.l
  cap : o.l.length ≤ c'
section
variable {w0 W W' : World} {R X G : Nat} {s o : Scr} {A A' : Option Addr} {c c' : Nat}
theorem heap_reads {k : Nat} {ob : Obj} (h : W.heap[k]? = some ob) (hg : W.grownBy W' (some R)) (hk : k ≠ R) : W'.heap[k]? = some ob :=
  (hg.block _ (Array.getElem?_eq_some_iff.1 h).1 (fun e => hk (by injection e))).trans h
/-- The result's box comes behind the call. -/
theorem OvN.late (h : OvS w0 R X s A c W) (hG : W.heap[G]? = some (scrO s A c)) (hb : Below W.heap.size W W') (hC : ∀ b, b < W.heap.size → CksIn b W' A' o.l) (hc : o.l.length ≤ c') : OvN w0 R X G W'.heap.size s A c o A' c' (W'.alloc (scrO o A' c')) :=
  have b1 := (Below.refl W'.heap.size W').alloc (Nat.le_refl _) (scrO o A' c')
  ⟨(h.below hb).below b1, heap_below (heap_below hG hb) b1, heap_alloc_new W' _, (hC R h.szR).keep b1, (hC X h.szX).keep b1, hc⟩
/-- The result's box came before the call. -/
theorem OvN.early {Gn : Nat} {old : Array Value} (h : OvS w0 R X s A c W) (hG : W.heap[G]? = some (scrO s A c)) (hN : W.heap[Gn]? = some (.cells old 28 (0, 0))) (hX : X < Gn) (hGn : G < Gn) (hA : CksIn Gn W A s.l) (hb : Below W.heap.size W W') (hC : ∀ b, b < W.heap.size → CksIn b W' A' o.l) (hc : o.l.length ≤ c') : OvN w0 R X G Gn s A c o A' c' (W'.setRow Gn (scrA o A' c')) :=
  have hn := (Array.getElem?_eq_some_iff.1 hN).1
  have h1 := h.below hb
  have hr := h.lt
  have key : ∀ {b : Nat} {A2 : Option Addr} {l : List Ck}, CksIn b W' A2 l → CksIn Gn W' A2 l → CksIn b (W'.setRow Gn (scrA o A' c')) A2 l := fun k1 k2 => RowIn.row2 k1 k2 _
  ⟨⟨h1.src.grown (row := some Gn) (grown_row W' Gn _) (fun k hk => by injection hk with hk; omega), by rw [setRow_other _ _ _ _ (by omega)]; exact h1.box, key h1.ckR (hA.keep hb), key h1.ckX (hA.keep hb), h1.cap, below_row h1.bel (by have := h.lo; omega) _, h1.lo, h1.lt, h1.val⟩,
    by rw [setRow_other _ _ _ _ (by omega)]; exact heap_below hG hb, setRow_heap W' Gn _ _ _ _ (heap_below hN hb), key (hC R h.szR) (hC Gn hn), key (hC X h.szX) (hC Gn hn), hc⟩
end

theorem exp_ok {s : Scr} {t : Int} (hv : ValS s) (h0 : 0 ≤ t) (h1 : t ≤ 1048576) (hn : s.next ≤ 2000) : expE s t = 0 := by
  have h := expG_next s t s.l s.next
  have hl := hv.len
  unfold expE
  rw [if_pos ⟨h0, h1⟩, if_neg (by omega)]
theorem expS_next {s : Scr} {t : Int} (hv : ValS s) (he : expE s t = 0) : (expS s t).next ≤ s.next + 50 := by
  have h := expG_next s t s.l s.next
  have hl := hv.len
  unfold expS
  rw [if_pos he]
  show (expG s t s.l s.next).2 ≤ s.next + 50
  omega
theorem verS_next {s : Scr} {im t : Int} {cl : Bool} (hv : ValS s) (he : verE s im cl t = 0) : (verS s im cl t).next ≤ s.next + 50 := by
  have h := expG_next s t s.l s.next
  have hl := hv.len
  have e : (expT s t).next = (expG s t s.l s.next).2 := rfl
  unfold verS
  rw [if_pos he]
  show (vNew s cl t ((expT s t).l.getD (vIdx s im t) ck0)).2 ≤ s.next + 50
  unfold vNew
  split
  · show (expT s t).next ≤ s.next + 50
    omega
  · have := failF_next ((expT s t).l.getD (vIdx s im t) ck0) (expT s t).next t
    omega
theorem startS_next {s : Scr} {bag now : Int} (he : startE s bag now = 0) : (startS s bag now).next ≤ s.next + 50 := by
  unfold startS
  rw [if_pos he]
  show s.next + 1 ≤ s.next + 50
  omega
section
variable {w0 W : World} {R X G Gn : Nat} {s o : Scr} {A A' : Option Addr} {c c' : Nat} {image : Int} {clear : Bool} {now : Int}
theorem clr_len (s : Scr) : (clrL s).length ≤ s.l.length := by unfold clrL; rw [List.length_map]; exact List.length_filter_le _ _
theorem OvA.below {s' : Scr} {W' : World} (h : OvA w0 R X G s A c s' A' c' image clear now W) (hb : Below W.heap.size W W') : OvA w0 R X G s A c s' A' c' image clear now W' :=
  ⟨h.st.below hb, heap_below h.old hb, h.cks.keep hb, h.cap, h.val, h.step, h.next⟩
theorem find_ok {s : Scr} {b : Int} (hv : ValS s) (h : findB s b = true) : okC s.next (findX s b) := by
  cases hf : findO s b with
  | none => rw [findB_none hf] at h; cases h
  | some y =>
    rw [(findB_some hf).2]
    obtain ⟨k, hk, e, _⟩ := find_some hf
    exact hv.ok y (by rw [← e]; exact getD_mem hk)
theorem OvA.none (h : OvS w0 R X s A c W) (hG : W.heap[G]? = some (scrO s A c)) : OvA w0 R X G s A c s A c image clear now W :=
  ⟨h, hG, h.ckR, h.cap, h.val, fun b => stepB_same _ _ _ _ b, by omega⟩
theorem OvA.put (h : OvN w0 R X G Gn s A c o A' c' W) (hv : ValS o) (hs : ∀ b, StepB image clear now s o b) (hn : o.next ≤ s.next + 50) (hXG : X ≠ G) : OvA w0 R X G s A c o A' c' image clear now (W.setRow X (scrA o A' c')) :=
  ⟨h.st.put h.nR h.nX h.cap hv, by rw [setRow_other _ _ _ _ (Ne.symm hXG)]; exact h.old, h.st.ckR.row2 h.st.ckX _, h.st.cap, h.st.val, hs, hn⟩
end

set_option maxRecDepth 100000 in
set_option maxHeartbeats 8000000 in
theorem onlyv_any (P : ScrOk) (A0 : Option Addr) (n0 c0 : Nat) (w : World) (hc : n0 ≤ c0) (hA : IntsIn w.heap.size w A0 n0) :
    Calls Try.prog 4 #[.slice A0 n0 c0] w fun e w' => e = .returned (.bool true) ∧ Below w.heap.size w w' := by
  have HP := hide P
  have HNew := hide (new_any A0 n0 c0 w hc hA)
  clear P hA
  go_enter Try.func4, Try.ntmps4
  go_wp2_with fail
  refine (unhide HNew).mono ?_
  rintro e w1 ⟨rfl, hs1, hb1⟩
  have HS1 := hide hs1
  have HB1 := hide hb1
  clear hs1 hb1 HNew
  go_wp2_with fail
  refine (n_any _ _ 5 _ (unhide HS1) (by omega) (by omega)).mono ?_
  rintro e w2 ⟨l0, rfl, a0, a1, hs2, hg2⟩
  have HB2 := hide (below_reads (unhide HB1) hg2 (Nat.le_refl _) (unhide HB1).size)
  have HS2 := hide hs2
  clear hs2 hg2 HS1 HB1
  go_wp2_with fail
  refine (n_any _ _ 5 _ (unhide HS2) (by omega) (by omega)).mono ?_
  rintro e w3 ⟨l1, rfl, b0, b1, hs2, hg2⟩
  have HB3 := hide (below_reads (unhide HB2) hg2 (Nat.le_refl _) (unhide HB2).size)
  have HS3 := hide hs2
  clear hs2 hg2 HS2 HB2
  go_wp2_with fail
  refine (n_any _ _ 5 _ (unhide HS3) (by omega) (by omega)).mono ?_
  rintro e w4 ⟨l2, rfl, q0, q1, hs2, hg2⟩
  have HB4 := hide (below_reads (unhide HB3) hg2 (Nat.le_refl _) (unhide HB3).size)
  have HS4 := hide hs2
  clear hs2 hg2 HS3 HB3
  go_wp2_with fail
  refine (n_any _ _ 5 _ (unhide HS4) (by omega) (by omega)).mono ?_
  rintro e w5 ⟨l3, rfl, d0, d1, hs2, hg2⟩
  have HB5 := hide (below_reads (unhide HB4) hg2 (Nat.le_refl _) (unhide HB4).size)
  have HS5 := hide hs2
  clear hs2 hg2 HS4 HB4
  have he0 : newE l0 l1 l2 l3 = 0 := by
    rw [new_lims]
    simp only [limB, decide_eq_true_eq]
    omega
  have HNw := hide (show newS l0 l1 l2 l3 = ⟨l0, l1, l2, l3, 1, []⟩ by unfold newS; rw [if_pos he0])
  have HE0 := hide he0
  clear he0
  go_wp2_with fail
  refine ((unhide HP).new l0 l1 l2 l3 _).mono ?_
  rw [unhide HE0]
  rintro e w6 ⟨A1, k1, rfl, hb6⟩
  obtain ⟨s1, hs1⟩ : ∃ s1 : Scr, newS l0 l1 l2 l3 = s1 := ⟨_, rfl⟩
  have hv1 : ValS s1 := by rw [← hs1]; exact newS_valid (unhide HE0)
  have hl1 : s1.l = [] := by rw [← hs1, unhide HNw]
  have hn1 : s1.next = 1 := by rw [← hs1, unhide HNw]
  rw [hs1]
  have b7 := (Below.refl w6.heap.size w6).alloc (Nat.le_refl _) (scrO s1 A1 k1)
  have HO0 := hide (show OvS w w.heap.size w6.heap.size s1 A1 k1 (w6.alloc (scrO s1 A1 k1)) from
    ⟨((unhide HS5).keep hb6).keep b7, heap_alloc_new w6 _, by rw [hl1]; exact RowIn.nil, by rw [hl1]; exact RowIn.nil, by rw [hl1]; exact Nat.zero_le _, onward (onward (unhide HB5) hb6) b7, Nat.le_refl _, by have := ((unhide HS5).keep hb6).lt; omega, hv1⟩)
  have hn1' : s1.next ≤ 1 := by omega
  clear hb6 b7 HS5 HB5 hs1 hv1 hl1 hn1 HNw HE0
  go_wp2_with fail
  go_loopw [6, 7] (fun nw iv wr => ∃ (i : Nat) (now : Int) (s : Scr) (A : Option Addr) (c : Nat), i ≤ 30 ∧ 0 ≤ now ∧ now ≤ 3 * (i : Int) ∧ nw = .int .i64 now ∧ iv = .int .i64 i ∧ s.next ≤ 1 + 50 * (i : Int) ∧ Hid (OvS w w.heap.size w6.heap.size s A c wr)) (fun _ iv _ => 30 - (intOf iv).toNat)
  case atStart => exact ⟨0, 0, s1, A1, k1, Nat.zero_le _, Int.le_refl _, by omega, rfl, rfl, by omega, HO0⟩
  case round =>
    obtain ⟨i, now, s, A, c, hi, t0, t1, rfl, rfl, hnx, HO⟩ := hrel
    obtain ⟨wo, rfl⟩ : ∃ wo : World, wo = wr := ⟨_, rfl⟩
    clear HO0 hn1'
    by_cases hlt : i < 30
    · have il : (i : Int) < 30 := by omega
      by_cases h4 : (i : Int) < 4
      case' pos =>
        go_upto_region 9 with fail
        obtain ⟨wm, hwm⟩ : ∃ wm : World, wm = wo := ⟨_, rfl⟩
        rw [← hwm] at HO ⊢
        have HOm := hide (unhide HO)
        clear hwm HO
      case' neg =>
        go_wp2_with fail
        refine (moreq_any _ _ _ (unhide HO).src).mono ?_
        rintro e wm ⟨v, rfl, hbm⟩
        have HOm := hide ((unhide HO).below hbm)
        clear hbm HO
        cases v
        case' false =>
          go_wp2_with (go_at_call 29; refine (awake_scr (unhide HP) _).mono ?_; rintro e wz ⟨rfl, hbz⟩; have HBZ := hide (onward (unhide HOm).bel hbz); clear hbz)
          go_ret
          exact ⟨rfl, unhide HBZ⟩
        go_upto_region 9 with fail
      · go_wp2_with fail
        refine (n_any _ _ 4 _ (unhide HOm).src (by omega) (by omega)).mono ?_
        rintro e wn ⟨v, rfl, v0, v1, hs, hg⟩
        have HOn := hide ((unhide HOm).reads hs hg)
        clear hs hg HOm
        go_wp2_with (refine wpList_loadS (unhide HOn).box rfl _ rfl rfl ?_)
        have b10 := (Below.refl wn.heap.size wn).alloc (Nat.le_refl _) (scrO s A c)
        have HO10 := hide ((unhide HOn).below b10)
        have HG10 := hide (heap_alloc_new wn (scrO s A c))
        have HXG := hide ((unhide HOn).szX)
        clear b10 HOn
        refine (n_any _ _ 4 _ (unhide HO10).src (by omega) (by omega)).mono ?_
        rintro e wq ⟨u, rfl, u0, u1, hs, hg⟩
        have HOq := hide ((unhide HO10).reads hs hg)
        have HGq := hide (heap_reads (unhide HG10) hg (by have := unhide HXG; have := (unhide HOq).lt; omega))
        clear hs hg HO10 HG10
        generalize wn.heap.size = G at *
        obtain ⟨t, ht⟩ : ∃ t, now + v = t := ⟨_, rfl⟩
        rw [ht]
        have ht0 : 0 ≤ t := by omega
        have ht1 : t ≤ 3 * (i : Int) + 3 := by omega
        have htm : t ≤ 1048576 := by omega
        clear ht
        go_upto_block 2 with fail
        go_cut [9, 10, 11, 12, 13, 14, 15, 16, 17] from 40 to 190 (fun im cl s11 s12 s13 s14 s15 s16 s17 wx => ∃ (image : Int) (clear : Bool) (s' : Scr) (A' : Option Addr) (c' : Nat), im = .int .i64 image ∧ cl = .bool clear ∧ Hid (OvA w w.heap.size w6.heap.size G s A c s' A' c' image clear t wx))
        case first =>
          by_cases hu0 : u = 0
          · subst hu0
            go_wp2_with fail
            refine wp_region_held (S := fun Z => Z.heap[w6.heap.size]? = some (scrO s A c)) (by kernel_rfl) ?_
            have HOd := hide ((unhide HOq).below (Below.refl wq.heap.size wq).drew)
            have HGd := hide (show wq.drew.heap[G]? = some (scrO s A c) from unhide HGq)
            refine wpAnyH_take (i := 0) (v := scrV s A c) rfl (by kernel_rfl) (by kernel_rfl) (by kernel_rfl) (fun _ _ _ h => h) (yields_loadS _ rfl rfl rfl (fun _ h => h)) (unhide HOd).box ?_
            refine wpAnyH_take (i := 1) (v := .pointer (some ⟨w.heap.size, 0, none⟩)) rfl (by kernel_rfl) (by kernel_rfl) (by kernel_rfl) (fun _ _ _ h => h) (Or.inl ⟨by rfl, by intro w _; go_simp⟩) (unhide HOd).box ?_
            refine wpAnyH_take (i := 3) (v := .int .i64 t) rfl (by kernel_rfl) (by kernel_rfl) (by kernel_rfl) (fun _ _ _ h => h) (Or.inl ⟨by rfl, by intro w _; go_simp⟩) (unhide HOd).box ?_
            refine (fun (Y : Int → Nat → Option Addr → Nat → World → Prop) (f : (∀ bag Gn A' c' W, ((1 ≤ bag ∧ bag ≤ 5) ∧ OvN w w.heap.size w6.heap.size G Gn s A c (startS s bag t) A' c' W) → Y bag Gn A' c' W) → _) (g : ∀ bag Gn A' c' W, ((1 ≤ bag ∧ bag ≤ 5) ∧ OvN w w.heap.size w6.heap.size G Gn s A c (startS s bag t) A' c' W) → Y bag Gn A' c' W) => f g) ?Y1 ?m1 ?r1
            case m1 =>
              intro hM
              refine wpAnyH_two (i := 2) (j := 8) (by kernel_rfl) rfl rfl (fun K hK => ?_) (fun K hK => ?_)
              case' refine_2 =>
                go_simp
                refine hK _ _ ⟨heap_later (unhide HOd).box _, ?_⟩
                clear hK K
                have HOe := hide ((unhide HOd).below ((Below.refl wq.drew.heap.size wq.drew).alloc (Nat.le_refl _) (scrO scr0 none 0)))
                have HGe := hide (heap_later (unhide HGd) (scrO scr0 none 0))
                have HNe := hide (show (wq.drew.alloc (scrO scr0 none 0)).heap[wq.heap.size]? = some (scrO scr0 none 0) from heap_alloc_new wq.drew (scrO scr0 none 0))
                have HAe := hide (show CksIn wq.heap.size (wq.drew.alloc (scrO scr0 none 0)) A s.l from ((unhide HOd).ckR.other (n := 5) Ck.cs_len (by omega) (Nat.le_refl wq.drew.heap.size)).keep ((Below.refl wq.drew.heap.size wq.drew).alloc (Nat.le_refl _) (scrO scr0 none 0)))
                refine wpAnyH_one (i := 2) (by kernel_rfl) rfl (fun K hK => ?_)
                go_simp
                go_at_call 14
                refine (range_any _ _ 1 5 _ (unhide HOe).src (by omega) (by omega) (by omega)).mono ?_
                rintro e wae ⟨bag, rfl, g1, g5, hsa, hga⟩
                try go_simp
                have HOae := hide ((unhide HOe).reads hsa hga)
                have HGae := hide (heap_reads (unhide HGe) hga (by have := unhide HXG; have := (unhide HOq).lt; omega))
                have HNae := hide (heap_reads (unhide HNe) hga (by have h : w.heap.size < wq.heap.size := (unhide HOq).szR; omega))
                have HAae := hide ((unhide HAe).grown2 (unhide HOe).ckR hga)
                refine hK _ _ ⟨(unhide HOae).box, ?_⟩
                clear hK K hsa hga
                refine wpAnyH_one (i := 4) (by kernel_rfl) rfl (fun K hK => ?_)
                go_simp
                go_at_call 15
                refine ((unhide HP).start w.heap.size s bag t A c _ (unhide HOae).val (unhide HOae).ckR (unhide HOae).cap).mono ?_
                rintro e wb ⟨A', c', rfl, hC, hb, hcap⟩
                try go_simp
                have HOb := hide ((unhide HOae).below hb)
                have HNb := hide (heap_below (unhide HNae) hb)
                refine hK _ _ ⟨(unhide HOb).box, ?_⟩
                clear hK K
                refine wpAnyH_take (i := 5) (v := .tuple #[scrV (startS s bag t) A' c', .int .i64 (startE s bag t)]) rfl (by kernel_rfl) (by kernel_rfl) (by kernel_rfl) (fun _ _ _ h => h) (Or.inl ⟨by rfl, by intro w _; go_simp⟩) ((unhide HOb).box) ?_
                refine wpAnyH_take (i := 6) (v := scrV (startS s bag t) A' c') rfl (by kernel_rfl) (by kernel_rfl) (by kernel_rfl) (fun _ _ _ h => h) (Or.inl ⟨by rfl, by intro w _; go_simp⟩) ((unhide HOb).box) ?_
                refine wpAnyH_take (i := 7) (v := .int .i64 (startE s bag t)) rfl (by kernel_rfl) (by kernel_rfl) (by kernel_rfl) (fun _ _ _ h => h) (Or.inl ⟨by rfl, by intro w _; go_simp⟩) ((unhide HOb).box) ?_
                have HN := hide (OvN.early (Gn := wq.heap.size) (unhide HOae) (unhide HGae) (unhide HNae) (unhide HOq).szX (Array.getElem?_eq_some_iff.1 (unhide HGq)).1 (unhide HAae) hb hC hcap)
                refine wpAnyH_one (i := 9) (by kernel_rfl) rfl (fun K hK => ?_)
                rw [if_pos (by rfl)]
                refine wp_store_row _ _ _ rfl (wq.heap.size) (scrA (startS s bag t) A' c') rfl rfl 28 _ (unhide HNb) infoS rfl (scr_all _ _ _) ?_
                refine hK _ _ ⟨(unhide HN).st.box, ?_⟩
                clear hK K
                refine wpAnyH_take (i := 10) (v := .int .i64 (startE s bag t)) rfl (by kernel_rfl) (by kernel_rfl) (by kernel_rfl) (fun _ _ _ h => h) (Or.inl ⟨by rfl, by intro w _; go_simp⟩) (unhide HN).st.box ?_
                refine wpAnyH_done (by kernel_rfl) ?_ _
                go_simp
                have HM := hide (show (1 ≤ bag ∧ bag ≤ 5) ∧ OvN w w.heap.size w6.heap.size G (wq.heap.size) s A c (startS s bag t) A' c' (wb.setRow (wq.heap.size) (scrA (startS s bag t) A' c')) from ⟨⟨g1, g5⟩, unhide HN⟩)
                clear HN HOb hb hC HNb HNae HAae
                generalize wb.setRow (wq.heap.size) (scrA (startS s bag t) A' c') = Wf at *
                generalize wq.heap.size = Gn at *
                exact hM bag Gn A' c' Wf (unhide HM)
              case' refine_1 =>
                go_simp
                go_at_call 14
                refine (range_any _ _ 1 5 _ (unhide HOd).src (by omega) (by omega) (by omega)).mono ?_
                rintro e wad ⟨bag, rfl, g1, g5, hsa, hga⟩
                try go_simp
                have HOad := hide ((unhide HOd).reads hsa hga)
                have HGad := hide (heap_reads (unhide HGd) hga (by have := unhide HXG; have := (unhide HOq).lt; omega))
                refine hK _ _ ⟨(unhide HOad).box, ?_⟩
                clear hK K hsa hga
                refine wpAnyH_two (i := 4) (j := 8) (by kernel_rfl) rfl rfl (fun K hK => ?_) (fun K hK => ?_)
                case' refine_1 =>
                  go_simp
                  go_at_call 15
                  refine ((unhide HP).start w.heap.size s bag t A c _ (unhide HOad).val (unhide HOad).ckR (unhide HOad).cap).mono ?_
                  rintro e wb ⟨A', c', rfl, hC, hb, hcap⟩
                  try go_simp
                  have HOb := hide ((unhide HOad).below hb)
                  refine hK _ _ ⟨(unhide HOb).box, ?_⟩
                  clear hK K
                  refine wpAnyH_take (i := 5) (v := .tuple #[scrV (startS s bag t) A' c', .int .i64 (startE s bag t)]) rfl (by kernel_rfl) (by kernel_rfl) (by kernel_rfl) (fun _ _ _ h => h) (Or.inl ⟨by rfl, by intro w _; go_simp⟩) ((unhide HOb).box) ?_
                  refine wpAnyH_take (i := 6) (v := scrV (startS s bag t) A' c') rfl (by kernel_rfl) (by kernel_rfl) (by kernel_rfl) (fun _ _ _ h => h) (Or.inl ⟨by rfl, by intro w _; go_simp⟩) ((unhide HOb).box) ?_
                  refine wpAnyH_take (i := 7) (v := .int .i64 (startE s bag t)) rfl (by kernel_rfl) (by kernel_rfl) (by kernel_rfl) (fun _ _ _ h => h) (Or.inl ⟨by rfl, by intro w _; go_simp⟩) ((unhide HOb).box) ?_
                  refine wpAnyH_one (i := 8) (by kernel_rfl) rfl (fun K hK => ?_)
                  go_simp
                  refine hK _ _ ⟨heap_later (unhide HOb).box _, ?_⟩
                  clear hK K
                  refine wpAnyH_one (i := 9) (by kernel_rfl) rfl (fun K hK => ?_)
                  go_simp
                  have HN := hide (OvN.late (unhide HOad) (unhide HGad) hb hC hcap)
                  refine hK _ _ ⟨(unhide HN).st.box, ?_⟩
                  clear hK K
                  refine wpAnyH_take (i := 10) (v := .int .i64 (startE s bag t)) rfl (by kernel_rfl) (by kernel_rfl) (by kernel_rfl) (fun _ _ _ h => h) (Or.inl ⟨by rfl, by intro w _; go_simp⟩) (unhide HN).st.box ?_
                  refine wpAnyH_done (by kernel_rfl) ?_ _
                  go_simp
                  have HM := hide (show (1 ≤ bag ∧ bag ≤ 5) ∧ OvN w w.heap.size w6.heap.size G wb.heap.size s A c (startS s bag t) A' c' (wb.alloc (scrO (startS s bag t) A' c')) from ⟨⟨g1, g5⟩, unhide HN⟩)
                  clear HN HOb hb hC
                  generalize wb.alloc (scrO (startS s bag t) A' c') = Wf at *
                  generalize wb.heap.size = Gn at *
                  exact hM bag Gn A' c' Wf (unhide HM)
                case' refine_2 =>
                  go_simp
                  refine hK _ _ ⟨heap_later (unhide HOad).box _, ?_⟩
                  clear hK K
                  have bx := (Below.refl wad.heap.size wad).alloc (Nat.le_refl _) (scrO scr0 none 0)
                  have HOx := hide ((unhide HOad).below bx)
                  have HGx := hide (heap_below (unhide HGad) bx)
                  have HNx := hide (heap_alloc_new wad (scrO scr0 none 0))
                  have HAx := hide (((unhide HOad).ckR.other (n := 5) Ck.cs_len (by omega) (Nat.le_refl wad.heap.size)).keep bx)
                  clear bx
                  refine wpAnyH_one (i := 4) (by kernel_rfl) rfl (fun K hK => ?_)
                  go_simp
                  go_at_call 15
                  refine ((unhide HP).start w.heap.size s bag t A c _ (unhide HOx).val (unhide HOx).ckR (unhide HOx).cap).mono ?_
                  rintro e wb ⟨A', c', rfl, hC, hb, hcap⟩
                  try go_simp
                  have HOb := hide ((unhide HOx).below hb)
                  have HNb := hide (heap_below (unhide HNx) hb)
                  refine hK _ _ ⟨(unhide HOb).box, ?_⟩
                  clear hK K
                  refine wpAnyH_take (i := 5) (v := .tuple #[scrV (startS s bag t) A' c', .int .i64 (startE s bag t)]) rfl (by kernel_rfl) (by kernel_rfl) (by kernel_rfl) (fun _ _ _ h => h) (Or.inl ⟨by rfl, by intro w _; go_simp⟩) ((unhide HOb).box) ?_
                  refine wpAnyH_take (i := 6) (v := scrV (startS s bag t) A' c') rfl (by kernel_rfl) (by kernel_rfl) (by kernel_rfl) (fun _ _ _ h => h) (Or.inl ⟨by rfl, by intro w _; go_simp⟩) ((unhide HOb).box) ?_
                  refine wpAnyH_take (i := 7) (v := .int .i64 (startE s bag t)) rfl (by kernel_rfl) (by kernel_rfl) (by kernel_rfl) (fun _ _ _ h => h) (Or.inl ⟨by rfl, by intro w _; go_simp⟩) ((unhide HOb).box) ?_
                  have HN := hide (OvN.early (Gn := wad.heap.size) (unhide HOx) (unhide HGx) (unhide HNx) (unhide HOad).szX (Array.getElem?_eq_some_iff.1 (unhide HGad)).1 (unhide HAx) hb hC hcap)
                  refine wpAnyH_one (i := 9) (by kernel_rfl) rfl (fun K hK => ?_)
                  rw [if_pos (by rfl)]
                  refine wp_store_row _ _ _ rfl (wad.heap.size) (scrA (startS s bag t) A' c') rfl rfl 28 _ (unhide HNb) infoS rfl (scr_all _ _ _) ?_
                  refine hK _ _ ⟨(unhide HN).st.box, ?_⟩
                  clear hK K
                  refine wpAnyH_take (i := 10) (v := .int .i64 (startE s bag t)) rfl (by kernel_rfl) (by kernel_rfl) (by kernel_rfl) (fun _ _ _ h => h) (Or.inl ⟨by rfl, by intro w _; go_simp⟩) (unhide HN).st.box ?_
                  refine wpAnyH_done (by kernel_rfl) ?_ _
                  go_simp
                  have HM := hide (show (1 ≤ bag ∧ bag ≤ 5) ∧ OvN w w.heap.size w6.heap.size G (wad.heap.size) s A c (startS s bag t) A' c' (wb.setRow (wad.heap.size) (scrA (startS s bag t) A' c')) from ⟨⟨g1, g5⟩, unhide HN⟩)
                  clear HN HOb hb hC HNb HNx HAx
                  generalize wb.setRow (wad.heap.size) (scrA (startS s bag t) A' c') = Wf at *
                  generalize wad.heap.size = Gn at *
                  exact hM bag Gn A' c' Wf (unhide HM)
            intro bag Gn A' c' W ⟨⟨g1, g5⟩, hN⟩
            have HN := hide hN
            have HGn := hide hN.box
            have HBX := hide hN.st.box
            clear hN
            by_cases he : startE s bag t = 0
            · have HE := hide he
              have HS := hide (startS_valid (unhide HOq).val he)
              rw [he]
              clear he
              go_wp2_with (first
                | (refine wpList_loadS (unhide HGn) rfl _ rfl rfl ?_)
                | (refine wpList_storeS (unhide HBX) rfl _ _ rfl rfl rfl ?_))
              go_meet
              case rel => exact ⟨0, false, _, _, _, rfl, rfl, hide (OvA.put (unhide HN) (unhide HS) (fun b => stepB_start (unhide HE) b) (startS_next (unhide HE)) (by have := unhide HXG; omega))⟩
            · have hne : (startE s bag t == 0) = false := by rw [beq_eq_false_iff_ne]; exact he
              clear he
              generalize startE s bag t = ev at *
              go_wp2
              go_meet
              case rel => exact ⟨0, false, _, _, _, rfl, rfl, hide (OvA.none (unhide HN).st (unhide HN).old)⟩
          · have u0n : (u == 0) = false := by rw [beq_eq_false_iff_ne]; exact hu0
            by_cases hu1 : u = 1
            · subst hu1
              have HE := hide (exp_ok (unhide HOq).val ht0 htm (by omega))
              have HBX := hide (unhide HOq).box
              go_wp2_with (refine wpList_loadS (unhide HBX) rfl _ rfl rfl ?_)
              refine ((unhide HP).expire w.heap.size s t A c _ (unhide HOq).val (unhide HOq).ckR (unhide HOq).cap).mono ?_
              rw [unhide HE]
              rintro e w5 ⟨A', c', rfl, hC, hb, hcap⟩
              have HN := hide (OvN.late (unhide HOq) (unhide HGq) hb hC hcap)
              have HGn := hide (unhide HN).box
              have HB2 := hide (unhide HN).st.box
              have HS := hide (expS_valid (unhide HOq).val (unhide HE))
              clear hC hb hcap
              go_wp2_with (first
                | (refine wpList_loadS (unhide HGn) rfl _ rfl rfl ?_)
                | (refine wpList_storeS (unhide HB2) rfl _ _ rfl rfl rfl ?_))
              go_meet
              case rel => exact ⟨0, false, _, _, _, rfl, rfl, hide (OvA.put (unhide HN) (unhide HS) (fun b => stepB_exp (unhide HOq).val (unhide HE) b) (expS_next (unhide HOq).val (unhide HE)) (by have := unhide HXG; omega))⟩
            · have u1n : (u == 1) = false := by rw [beq_eq_false_iff_ne]; exact hu1
              go_wp2_with fail
              refine (n_any _ _ 12 _ (unhide HOq).src (by omega) (by omega)).mono ?_
              rintro e wr1 ⟨im, rfl, im0, im1, hs, hg⟩
              have HO1 := hide ((unhide HOq).reads hs hg)
              have HG1 := hide (heap_reads (unhide HGq) hg (by have := unhide HXG; have := (unhide HOq).lt; omega))
              clear hs hg
              go_wp2_with fail
              refine (n_any _ _ 2 _ (unhide HO1).src (by omega) (by omega)).mono ?_
              rintro e wr2 ⟨q, rfl, q0', q1', hs, hg⟩
              have HO2 := hide ((unhide HO1).reads hs hg)
              have HG2 := hide (heap_reads (unhide HG1) hg (by have := unhide HXG; have := (unhide HOq).lt; omega))
              have HBX := hide (unhide HO2).box
              clear hs hg HO1 HG1
              obtain ⟨cl, hcl⟩ : ∃ cl : Bool, (q == 0) = cl := ⟨_, rfl⟩
              go_wp2_with (refine wpList_loadS (unhide HBX) rfl _ rfl rfl ?_)
              refine ((unhide HP).verdict w.heap.size s im cl t A c _ (unhide HO2).val (unhide HO2).ckR (unhide HO2).cap).mono ?_
              rintro e w5 ⟨A', c', rfl, hC, hb, hcap⟩
              have HN := hide (OvN.late (unhide HO2) (unhide HG2) hb hC hcap)
              have HGn := hide (unhide HN).box
              have HB2 := hide (unhide HN).st.box
              clear hC hb hcap hcl
              by_cases he : verE s im cl t = 0
              · have HE := hide he
                have HS := hide (verS_valid (unhide HO2).val he)
                rw [he]
                clear he
                go_wp2_with (first
                  | (refine wpList_loadS (unhide HGn) rfl _ rfl rfl ?_)
                  | (refine wpList_storeS (unhide HB2) rfl _ _ rfl rfl rfl ?_))
                go_meet
                case rel => exact ⟨im, cl, _, _, _, rfl, rfl, hide (OvA.put (unhide HN) (unhide HS) (fun b => stepB_ver (unhide HO2).val (unhide HE) b) (verS_next (unhide HO2).val (unhide HE)) (by have := unhide HXG; omega))⟩
              · have hne : (verE s im cl t == 0) = false := by rw [beq_eq_false_iff_ne]; exact he
                clear he
                generalize verE s im cl t = ev at *
                go_wp2
                go_meet
                case rel => exact ⟨im, cl, _, _, _, rfl, rfl, hide (OvA.none (unhide HN).st (unhide HN).old)⟩
        case rest =>
          as_aux_lemma =>
            obtain ⟨image, clear, s', A', c', rfl, rfl, HA⟩ := hcut
            clear HOq HGq
            go_wp2_with fail
            go_loopw [18] (fun bv wr => ∃ j : Nat, 1 ≤ j ∧ j ≤ 6 ∧ bv = .int .i64 j ∧ Hid (OvA w w.heap.size w6.heap.size G s A c s' A' c' image clear t wr)) (fun bv _ => 6 - (intOf bv).toNat)
            case atStart => exact ⟨1, by omega, by omega, rfl, HA⟩
            case round =>
              obtain ⟨j, j1, j6, rfl, HAj⟩ := hrel
              obtain ⟨wj, rfl⟩ : ∃ wj : World, wj = wr := ⟨_, rfl⟩
              clear HA
              by_cases hj : j ≤ 5
              · have jl : (j : Int) ≤ 5 := by omega
                obtain ⟨p, hp⟩ : ∃ p, findX s (j : Int) = p := ⟨_, rfl⟩
                obtain ⟨was, hwas⟩ : ∃ was, findB s (j : Int) = was := ⟨_, rfl⟩
                obtain ⟨qv, hqv⟩ : ∃ qv, findX s' (j : Int) = qv := ⟨_, rfl⟩
                obtain ⟨is, his⟩ : ∃ is, findB s' (j : Int) = is := ⟨_, rfl⟩
                have hst := (unhide HAj).step (j : Int)
                have hcl := clr_mem (unhide HAj).st.val (j : Int)
                have hok : was = true → okC s.next p := fun h => by
                  rw [← hwas] at h; rw [← hp]; exact find_ok (unhide HAj).val h
                have hf1 := fun W => (unhide HP).find w.heap.size s (j : Int) A c W (unhide HAj).val
                have hf2 := fun W => (unhide HP).find w.heap.size s' (j : Int) A' c' W (unhide HAj).st.val
                unfold StepB at hst
                rw [hp, hwas, hqv, his] at hst
                rw [hqv, his] at hcl
                rw [hp, hwas] at hf1
                rw [hqv, his] at hf2
                have HSt := hide hst
                have HCl := hide hcl
                have HOk := hide hok
                have HF1 := hide hf1
                have HF2 := hide hf2
                have HBo := hide (unhide HAj).old
                clear hst hcl hok hf1 hf2 hp hwas hqv his
                go_wp2_with (refine wpList_loadS (unhide HBo) rfl _ rfl rfl ?_)
                refine (unhide HF1 _ (unhide HAj).cks (unhide HAj).cap).mono ?_
                rintro e w11 ⟨rfl, hb11⟩
                have b12 := (Below.refl w11.heap.size w11).alloc (Nat.le_refl _) (.cells p.arr 42)
                have HA1 := hide ((unhide HAj).below (onward hb11 b12))
                have HP1 := hide (heap_alloc_new w11 (.cells p.arr 42))
                have HBx := hide (unhide HA1).st.box
                clear hb11 b12 HAj HBo
                go_wp2_with (refine wpList_loadS (unhide HBx) rfl _ rfl rfl ?_)
                refine (unhide HF2 _ (unhide HA1).st.ckR (unhide HA1).st.cap).mono ?_
                rintro e w13 ⟨rfl, hb13⟩
                have b14 := (Below.refl w13.heap.size w13).alloc (Nat.le_refl _) (.cells qv.arr 42)
                have HA2 := hide ((unhide HA1).below (onward hb13 b14))
                have hp2 := heap_below (unhide HP1) (onward hb13 b14)
                have p0 : (w13.alloc (.cells qv.arr 42)).cell? ⟨w11.heap.size, 0, none⟩ = some (.int .i64 p.bag) := by rw [Lib.cell_of_heap hp2]; rfl
                have p1 : (w13.alloc (.cells qv.arr 42)).cell? ⟨w11.heap.size, 1, none⟩ = some (.int .i64 p.lv) := by rw [Lib.cell_of_heap hp2]; rfl
                have p2 : (w13.alloc (.cells qv.arr 42)).cell? ⟨w11.heap.size, 2, none⟩ = some (.int .i64 p.si) := by rw [Lib.cell_of_heap hp2]; rfl
                have p3 : (w13.alloc (.cells qv.arr 42)).cell? ⟨w11.heap.size, 3, none⟩ = some (.int .i64 p.im) := by rw [Lib.cell_of_heap hp2]; rfl
                have p4 : (w13.alloc (.cells qv.arr 42)).cell? ⟨w11.heap.size, 4, none⟩ = some (.int .i64 p.st) := by rw [Lib.cell_of_heap hp2]; rfl
                have HB3 := hide (unhide HA2).st.box
                have HCA := hide (fun W hb => (unhide HP).cleared w.heap.size s' A' c' W (unhide HA2).st.val ((unhide HA2).st.ckR.keep hb) (unhide HA2).st.cap)
                clear hb13 b14 hp2 HA1 HP1 HBx HF1 HF2
                have hS := unhide HSt
                have hC := unhide HCl
                cases was with
                | false =>
                  cases is with
                  | false =>
                    have HB := hide (show decide ((j : Int) ∈ clrL s') = false by rw [hC]; rfl)
                    clear hS hC
                    go_wp2_with (first
                      | (refine wpList_loadS (unhide HB3) rfl _ rfl rfl ?_)
                      | (go_at_call 24; refine (unhide HCA _ (by first | exact Below.refl _ _ | exact draws (Below.refl _ _) _)).mono ?_; rintro e w15 ⟨AC, cC, rfl, hNC, hb15⟩; have HA3 := hide ((unhide HA2).below (onward (by first | exact Below.refl _ _ | exact draws (Below.refl _ _) _) hb15)); have z4 : w15.cell? ⟨w13.heap.size, 4, none⟩ = some (.int .i64 qv.st) := (by rw [Lib.cell_of_heap (heap_below (heap_alloc_new w13 (.cells qv.arr 42)) (onward (by first | exact Below.refl _ _ | exact draws (Below.refl _ _) _) hb15))]; rfl); have hin := kin_any w.heap.size (clrL s') (j : Int) AC cC w15 (Nat.le_trans (clr_len s') (Nat.le_trans (unhide HA2).st.val.len (by decide))) (hNC w.heap.size (unhide HA2).st.szR); rw [unhide HB] at hin; have HIn := hide hin; clear hNC hb15 hin)
                      | (go_at_call 30; refine (unhide HIn).mono ?_; rintro e w16 ⟨rfl, rfl⟩))
                    go_roundw
                    case rel => exact ⟨j + 1, by omega, by omega, by go_num, HA3⟩
                    case measure => simp [intOf]; omega
                  | true =>
                    have hq2 : qv.st ≠ 2 := fun h => by have := (hS.2 rfl h (.inl rfl)).1; cases this
                    have hqb : (qv.st == 2) = false := by rw [beq_eq_false_iff_ne]; exact hq2
                    have HB := hide (show decide ((j : Int) ∈ clrL s') = false by rw [hC, decide_eq_false hq2]; rfl)
                    clear hS hC hq2
                    go_wp2_with (first
                      | (refine wpList_loadS (unhide HB3) rfl _ rfl rfl ?_)
                      | (go_at_call 24; refine (unhide HCA _ (by first | exact Below.refl _ _ | exact draws (Below.refl _ _) _)).mono ?_; rintro e w15 ⟨AC, cC, rfl, hNC, hb15⟩; have HA3 := hide ((unhide HA2).below (onward (by first | exact Below.refl _ _ | exact draws (Below.refl _ _) _) hb15)); have z4 : w15.cell? ⟨w13.heap.size, 4, none⟩ = some (.int .i64 qv.st) := (by rw [Lib.cell_of_heap (heap_below (heap_alloc_new w13 (.cells qv.arr 42)) (onward (by first | exact Below.refl _ _ | exact draws (Below.refl _ _) _) hb15))]; rfl); have hin := kin_any w.heap.size (clrL s') (j : Int) AC cC w15 (Nat.le_trans (clr_len s') (Nat.le_trans (unhide HA2).st.val.len (by decide))) (hNC w.heap.size (unhide HA2).st.szR); rw [unhide HB] at hin; have HIn := hide hin; clear hNC hb15 hin)
                      | (go_at_call 30; refine (unhide HIn).mono ?_; rintro e w16 ⟨rfl, rfl⟩))
                    go_roundw
                    case rel => exact ⟨j + 1, by omega, by omega, by go_num, HA3⟩
                    case measure => simp [intOf]; omega
                | true =>
                  cases is with
                  | false => exact absurd (hS.1 rfl).1 Bool.false_ne_true
                  | true =>
                    by_cases hp1 : p.st = 1
                    · have hpb : (p.st != 1) = false := by rw [bne_eq_false_iff_eq]; exact hp1
                      have hpe : (p.st == 1) = true := by rw [beq_iff_eq]; exact hp1
                      by_cases hq2 : qv.st = 2
                      · have hqb : (qv.st == 2) = true := by rw [beq_iff_eq]; exact hq2
                        have HB := hide (show decide ((j : Int) ∈ clrL s') = true by rw [hC, decide_eq_true hq2]; rfl)
                        obtain ⟨_, hcl, e1, e2, hle⟩ := hS.2 rfl hq2 (.inr hp1)
                        obtain ⟨_, ⟨hv1, hv4⟩, ⟨si0, si1⟩, _, _⟩ := unhide HOk rfl
                        obtain ⟨⟨la0, la1⟩, ⟨lb0, lb1⟩, ⟨lc0, lc1⟩, ⟨ld0, ld1⟩⟩ := (unhide HA2).st.val.lim
                        subst hcl
                        have e1b : (p.im != image) = false := by rw [bne_eq_false_iff_eq]; exact e1
                        have e2b : (qv.im != image) = false := by rw [bne_eq_false_iff_eq]; exact e2
                        have x0 := Lib.cell_of_heap (unhide HB3) 0
                        have x1 := Lib.cell_of_heap (unhide HB3) 1
                        have x2 := Lib.cell_of_heap (unhide HB3) 2
                        have x3 := Lib.cell_of_heap (unhide HB3) 3
                        have hlv : p.lv = 1 ∨ p.lv = 2 ∨ p.lv = 3 ∨ p.lv = 4 := by omega
                        clear hS hC hp1 hq2 e1 e2
                        rcases hlv with hlv | hlv | hlv | hlv
                        · have hlv : p.lv = 1 := hlv
                          rw [hlv] at p1
                          have hle' : ¬ (p.si + s'.l0 < t) := by have e : limF s' p.lv = s'.l0 := (by rw [hlv]; rfl); omega
                          clear hlv
                          go_wp2_with fail
                          go_quiet (fail)
                          go_wp2_with (first
                            | (refine wpList_loadS (unhide HB3) rfl _ rfl rfl ?_)
                            | (go_at_call 24; refine (unhide HCA _ (by first | exact Below.refl _ _ | exact draws (Below.refl _ _) _)).mono ?_; rintro e w15 ⟨AC, cC, rfl, hNC, hb15⟩; have HA3 := hide ((unhide HA2).below (onward (by first | exact Below.refl _ _ | exact draws (Below.refl _ _) _) hb15)); have z4 : w15.cell? ⟨w13.heap.size, 4, none⟩ = some (.int .i64 qv.st) := (by rw [Lib.cell_of_heap (heap_below (heap_alloc_new w13 (.cells qv.arr 42)) (onward (by first | exact Below.refl _ _ | exact draws (Below.refl _ _) _) hb15))]; rfl); have hin := kin_any w.heap.size (clrL s') (j : Int) AC cC w15 (Nat.le_trans (clr_len s') (Nat.le_trans (unhide HA2).st.val.len (by decide))) (hNC w.heap.size (unhide HA2).st.szR); rw [unhide HB] at hin; have HIn := hide hin; clear hNC hb15 hin)
                            | (go_at_call 30; refine (unhide HIn).mono ?_; rintro e w16 ⟨rfl, rfl⟩))
                          go_roundw
                          case rel => exact ⟨j + 1, by omega, by omega, by go_num, HA3⟩
                          case measure => simp [intOf]; omega
                        · have hlv : p.lv = 2 := hlv
                          rw [hlv] at p1
                          have hle' : ¬ (p.si + s'.l1 < t) := by have e : limF s' p.lv = s'.l1 := (by rw [hlv]; rfl); omega
                          clear hlv
                          go_wp2_with fail
                          go_quiet (fail)
                          go_wp2_with (first
                            | (refine wpList_loadS (unhide HB3) rfl _ rfl rfl ?_)
                            | (go_at_call 24; refine (unhide HCA _ (by first | exact Below.refl _ _ | exact draws (Below.refl _ _) _)).mono ?_; rintro e w15 ⟨AC, cC, rfl, hNC, hb15⟩; have HA3 := hide ((unhide HA2).below (onward (by first | exact Below.refl _ _ | exact draws (Below.refl _ _) _) hb15)); have z4 : w15.cell? ⟨w13.heap.size, 4, none⟩ = some (.int .i64 qv.st) := (by rw [Lib.cell_of_heap (heap_below (heap_alloc_new w13 (.cells qv.arr 42)) (onward (by first | exact Below.refl _ _ | exact draws (Below.refl _ _) _) hb15))]; rfl); have hin := kin_any w.heap.size (clrL s') (j : Int) AC cC w15 (Nat.le_trans (clr_len s') (Nat.le_trans (unhide HA2).st.val.len (by decide))) (hNC w.heap.size (unhide HA2).st.szR); rw [unhide HB] at hin; have HIn := hide hin; clear hNC hb15 hin)
                            | (go_at_call 30; refine (unhide HIn).mono ?_; rintro e w16 ⟨rfl, rfl⟩))
                          go_roundw
                          case rel => exact ⟨j + 1, by omega, by omega, by go_num, HA3⟩
                          case measure => simp [intOf]; omega
                        · have hlv : p.lv = 3 := hlv
                          rw [hlv] at p1
                          have hle' : ¬ (p.si + s'.l2 < t) := by have e : limF s' p.lv = s'.l2 := (by rw [hlv]; rfl); omega
                          clear hlv
                          go_wp2_with fail
                          go_quiet (fail)
                          go_wp2_with (first
                            | (refine wpList_loadS (unhide HB3) rfl _ rfl rfl ?_)
                            | (go_at_call 24; refine (unhide HCA _ (by first | exact Below.refl _ _ | exact draws (Below.refl _ _) _)).mono ?_; rintro e w15 ⟨AC, cC, rfl, hNC, hb15⟩; have HA3 := hide ((unhide HA2).below (onward (by first | exact Below.refl _ _ | exact draws (Below.refl _ _) _) hb15)); have z4 : w15.cell? ⟨w13.heap.size, 4, none⟩ = some (.int .i64 qv.st) := (by rw [Lib.cell_of_heap (heap_below (heap_alloc_new w13 (.cells qv.arr 42)) (onward (by first | exact Below.refl _ _ | exact draws (Below.refl _ _) _) hb15))]; rfl); have hin := kin_any w.heap.size (clrL s') (j : Int) AC cC w15 (Nat.le_trans (clr_len s') (Nat.le_trans (unhide HA2).st.val.len (by decide))) (hNC w.heap.size (unhide HA2).st.szR); rw [unhide HB] at hin; have HIn := hide hin; clear hNC hb15 hin)
                            | (go_at_call 30; refine (unhide HIn).mono ?_; rintro e w16 ⟨rfl, rfl⟩))
                          go_roundw
                          case rel => exact ⟨j + 1, by omega, by omega, by go_num, HA3⟩
                          case measure => simp [intOf]; omega
                        · have hlv : p.lv = 4 := hlv
                          rw [hlv] at p1
                          have hle' : ¬ (p.si + s'.l3 < t) := by have e : limF s' p.lv = s'.l3 := (by rw [hlv]; rfl); omega
                          clear hlv
                          go_wp2_with fail
                          go_quiet (fail)
                          go_wp2_with (first
                            | (refine wpList_loadS (unhide HB3) rfl _ rfl rfl ?_)
                            | (go_at_call 24; refine (unhide HCA _ (by first | exact Below.refl _ _ | exact draws (Below.refl _ _) _)).mono ?_; rintro e w15 ⟨AC, cC, rfl, hNC, hb15⟩; have HA3 := hide ((unhide HA2).below (onward (by first | exact Below.refl _ _ | exact draws (Below.refl _ _) _) hb15)); have z4 : w15.cell? ⟨w13.heap.size, 4, none⟩ = some (.int .i64 qv.st) := (by rw [Lib.cell_of_heap (heap_below (heap_alloc_new w13 (.cells qv.arr 42)) (onward (by first | exact Below.refl _ _ | exact draws (Below.refl _ _) _) hb15))]; rfl); have hin := kin_any w.heap.size (clrL s') (j : Int) AC cC w15 (Nat.le_trans (clr_len s') (Nat.le_trans (unhide HA2).st.val.len (by decide))) (hNC w.heap.size (unhide HA2).st.szR); rw [unhide HB] at hin; have HIn := hide hin; clear hNC hb15 hin)
                            | (go_at_call 30; refine (unhide HIn).mono ?_; rintro e w16 ⟨rfl, rfl⟩))
                          go_roundw
                          case rel => exact ⟨j + 1, by omega, by omega, by go_num, HA3⟩
                          case measure => simp [intOf]; omega
                      · have hqb : (qv.st == 2) = false := by rw [beq_eq_false_iff_ne]; exact hq2
                        have HB := hide (show decide ((j : Int) ∈ clrL s') = false by rw [hC, decide_eq_false hq2]; rfl)
                        clear hS hC hp1 hq2
                        go_wp2_with (first
                          | (refine wpList_loadS (unhide HB3) rfl _ rfl rfl ?_)
                          | (go_at_call 24; refine (unhide HCA _ (by first | exact Below.refl _ _ | exact draws (Below.refl _ _) _)).mono ?_; rintro e w15 ⟨AC, cC, rfl, hNC, hb15⟩; have HA3 := hide ((unhide HA2).below (onward (by first | exact Below.refl _ _ | exact draws (Below.refl _ _) _) hb15)); have z4 : w15.cell? ⟨w13.heap.size, 4, none⟩ = some (.int .i64 qv.st) := (by rw [Lib.cell_of_heap (heap_below (heap_alloc_new w13 (.cells qv.arr 42)) (onward (by first | exact Below.refl _ _ | exact draws (Below.refl _ _) _) hb15))]; rfl); have hin := kin_any w.heap.size (clrL s') (j : Int) AC cC w15 (Nat.le_trans (clr_len s') (Nat.le_trans (unhide HA2).st.val.len (by decide))) (hNC w.heap.size (unhide HA2).st.szR); rw [unhide HB] at hin; have HIn := hide hin; clear hNC hb15 hin)
                          | (go_at_call 30; refine (unhide HIn).mono ?_; rintro e w16 ⟨rfl, rfl⟩))
                        go_roundw
                        case rel => exact ⟨j + 1, by omega, by omega, by go_num, HA3⟩
                        case measure => simp [intOf]; omega
                    · have hpb : (p.st != 1) = true := by rw [bne_iff_ne]; exact hp1
                      have hpe : (p.st == 1) = false := by rw [beq_eq_false_iff_ne]; exact hp1
                      obtain rfl : qv = p := (hS.1 rfl).2 hp1
                      by_cases hq2 : qv.st = 2
                      · have hqb : (qv.st == 2) = true := by rw [beq_iff_eq]; exact hq2
                        have HB := hide (show decide ((j : Int) ∈ clrL s') = true by rw [hC, decide_eq_true hq2]; rfl)
                        clear hS hC hp1 hq2
                        go_wp2_with (first
                          | (refine wpList_loadS (unhide HB3) rfl _ rfl rfl ?_)
                          | (go_at_call 24; refine (unhide HCA _ (by first | exact Below.refl _ _ | exact draws (Below.refl _ _) _)).mono ?_; rintro e w15 ⟨AC, cC, rfl, hNC, hb15⟩; have HA3 := hide ((unhide HA2).below (onward (by first | exact Below.refl _ _ | exact draws (Below.refl _ _) _) hb15)); have z4 : w15.cell? ⟨w13.heap.size, 4, none⟩ = some (.int .i64 qv.st) := (by rw [Lib.cell_of_heap (heap_below (heap_alloc_new w13 (.cells qv.arr 42)) (onward (by first | exact Below.refl _ _ | exact draws (Below.refl _ _) _) hb15))]; rfl); have hin := kin_any w.heap.size (clrL s') (j : Int) AC cC w15 (Nat.le_trans (clr_len s') (Nat.le_trans (unhide HA2).st.val.len (by decide))) (hNC w.heap.size (unhide HA2).st.szR); rw [unhide HB] at hin; have HIn := hide hin; clear hNC hb15 hin)
                          | (go_at_call 30; refine (unhide HIn).mono ?_; rintro e w16 ⟨rfl, rfl⟩))
                        go_roundw
                        case rel => exact ⟨j + 1, by omega, by omega, by go_num, HA3⟩
                        case measure => simp [intOf]; omega
                      · have hqb : (qv.st == 2) = false := by rw [beq_eq_false_iff_ne]; exact hq2
                        have HB := hide (show decide ((j : Int) ∈ clrL s') = false by rw [hC, decide_eq_false hq2]; rfl)
                        clear hS hC hp1 hq2
                        go_wp2_with (first
                          | (refine wpList_loadS (unhide HB3) rfl _ rfl rfl ?_)
                          | (go_at_call 24; refine (unhide HCA _ (by first | exact Below.refl _ _ | exact draws (Below.refl _ _) _)).mono ?_; rintro e w15 ⟨AC, cC, rfl, hNC, hb15⟩; have HA3 := hide ((unhide HA2).below (onward (by first | exact Below.refl _ _ | exact draws (Below.refl _ _) _) hb15)); have z4 : w15.cell? ⟨w13.heap.size, 4, none⟩ = some (.int .i64 qv.st) := (by rw [Lib.cell_of_heap (heap_below (heap_alloc_new w13 (.cells qv.arr 42)) (onward (by first | exact Below.refl _ _ | exact draws (Below.refl _ _) _) hb15))]; rfl); have hin := kin_any w.heap.size (clrL s') (j : Int) AC cC w15 (Nat.le_trans (clr_len s') (Nat.le_trans (unhide HA2).st.val.len (by decide))) (hNC w.heap.size (unhide HA2).st.szR); rw [unhide HB] at hin; have HIn := hide hin; clear hNC hb15 hin)
                          | (go_at_call 30; refine (unhide HIn).mono ?_; rintro e w16 ⟨rfl, rfl⟩))
                        go_roundw
                        case rel => exact ⟨j + 1, by omega, by omega, by go_num, HA3⟩
                        case measure => simp [intOf]; omega
              · have jl : ¬ (j : Int) ≤ 5 := by omega
                go_wp2
                go_roundw
                case rel => exact ⟨i + 1, t, s', A', c', by omega, ht0, by omega, rfl, by go_num, by have := (unhide HAj).next; omega, hide (unhide HAj).st⟩
                case measure => simp [intOf]; omega
      · go_wp2_with fail
        refine (n_any _ _ 4 _ (unhide HOm).src (by omega) (by omega)).mono ?_
        rintro e wn ⟨v, rfl, v0, v1, hs, hg⟩
        have HOn := hide ((unhide HOm).reads hs hg)
        clear hs hg HOm
        go_wp2_with (refine wpList_loadS (unhide HOn).box rfl _ rfl rfl ?_)
        have b10 := (Below.refl wn.heap.size wn).alloc (Nat.le_refl _) (scrO s A c)
        have HO10 := hide ((unhide HOn).below b10)
        have HG10 := hide (heap_alloc_new wn (scrO s A c))
        have HXG := hide ((unhide HOn).szX)
        clear b10 HOn
        refine (n_any _ _ 4 _ (unhide HO10).src (by omega) (by omega)).mono ?_
        rintro e wq ⟨u, rfl, u0, u1, hs, hg⟩
        have HOq := hide ((unhide HO10).reads hs hg)
        have HGq := hide (heap_reads (unhide HG10) hg (by have := unhide HXG; have := (unhide HOq).lt; omega))
        clear hs hg HO10 HG10
        generalize wn.heap.size = G at *
        obtain ⟨t, ht⟩ : ∃ t, now + v = t := ⟨_, rfl⟩
        rw [ht]
        have ht0 : 0 ≤ t := by omega
        have ht1 : t ≤ 3 * (i : Int) + 3 := by omega
        have htm : t ≤ 1048576 := by omega
        clear ht
        go_upto_block 2 with fail
        go_cut [9, 10, 11, 12, 13, 14, 15, 16, 17] from 40 to 190 (fun im cl s11 s12 s13 s14 s15 s16 s17 wx => ∃ (image : Int) (clear : Bool) (s' : Scr) (A' : Option Addr) (c' : Nat), im = .int .i64 image ∧ cl = .bool clear ∧ Hid (OvA w w.heap.size w6.heap.size G s A c s' A' c' image clear t wx))
        case first =>
          by_cases hu0 : u = 0
          · subst hu0
            go_wp2_with fail
            refine wp_region_held (S := fun Z => Z.heap[w6.heap.size]? = some (scrO s A c)) (by kernel_rfl) ?_
            have HOd := hide ((unhide HOq).below (Below.refl wq.heap.size wq).drew)
            have HGd := hide (show wq.drew.heap[G]? = some (scrO s A c) from unhide HGq)
            refine wpAnyH_take (i := 0) (v := scrV s A c) rfl (by kernel_rfl) (by kernel_rfl) (by kernel_rfl) (fun _ _ _ h => h) (yields_loadS _ rfl rfl rfl (fun _ h => h)) (unhide HOd).box ?_
            refine wpAnyH_take (i := 1) (v := .pointer (some ⟨w.heap.size, 0, none⟩)) rfl (by kernel_rfl) (by kernel_rfl) (by kernel_rfl) (fun _ _ _ h => h) (Or.inl ⟨by rfl, by intro w _; go_simp⟩) (unhide HOd).box ?_
            refine wpAnyH_take (i := 3) (v := .int .i64 t) rfl (by kernel_rfl) (by kernel_rfl) (by kernel_rfl) (fun _ _ _ h => h) (Or.inl ⟨by rfl, by intro w _; go_simp⟩) (unhide HOd).box ?_
            refine (fun (Y : Int → Nat → Option Addr → Nat → World → Prop) (f : (∀ bag Gn A' c' W, ((1 ≤ bag ∧ bag ≤ 5) ∧ OvN w w.heap.size w6.heap.size G Gn s A c (startS s bag t) A' c' W) → Y bag Gn A' c' W) → _) (g : ∀ bag Gn A' c' W, ((1 ≤ bag ∧ bag ≤ 5) ∧ OvN w w.heap.size w6.heap.size G Gn s A c (startS s bag t) A' c' W) → Y bag Gn A' c' W) => f g) ?Y2 ?m2 ?r2
            case m2 =>
              intro hM
              refine wpAnyH_two (i := 2) (j := 8) (by kernel_rfl) rfl rfl (fun K hK => ?_) (fun K hK => ?_)
              case' refine_2 =>
                go_simp
                refine hK _ _ ⟨heap_later (unhide HOd).box _, ?_⟩
                clear hK K
                have HOe := hide ((unhide HOd).below ((Below.refl wq.drew.heap.size wq.drew).alloc (Nat.le_refl _) (scrO scr0 none 0)))
                have HGe := hide (heap_later (unhide HGd) (scrO scr0 none 0))
                have HNe := hide (show (wq.drew.alloc (scrO scr0 none 0)).heap[wq.heap.size]? = some (scrO scr0 none 0) from heap_alloc_new wq.drew (scrO scr0 none 0))
                have HAe := hide (show CksIn wq.heap.size (wq.drew.alloc (scrO scr0 none 0)) A s.l from ((unhide HOd).ckR.other (n := 5) Ck.cs_len (by omega) (Nat.le_refl wq.drew.heap.size)).keep ((Below.refl wq.drew.heap.size wq.drew).alloc (Nat.le_refl _) (scrO scr0 none 0)))
                refine wpAnyH_one (i := 2) (by kernel_rfl) rfl (fun K hK => ?_)
                go_simp
                go_at_call 14
                refine (range_any _ _ 1 5 _ (unhide HOe).src (by omega) (by omega) (by omega)).mono ?_
                rintro e wae ⟨bag, rfl, g1, g5, hsa, hga⟩
                try go_simp
                have HOae := hide ((unhide HOe).reads hsa hga)
                have HGae := hide (heap_reads (unhide HGe) hga (by have := unhide HXG; have := (unhide HOq).lt; omega))
                have HNae := hide (heap_reads (unhide HNe) hga (by have h : w.heap.size < wq.heap.size := (unhide HOq).szR; omega))
                have HAae := hide ((unhide HAe).grown2 (unhide HOe).ckR hga)
                refine hK _ _ ⟨(unhide HOae).box, ?_⟩
                clear hK K hsa hga
                refine wpAnyH_one (i := 4) (by kernel_rfl) rfl (fun K hK => ?_)
                go_simp
                go_at_call 15
                refine ((unhide HP).start w.heap.size s bag t A c _ (unhide HOae).val (unhide HOae).ckR (unhide HOae).cap).mono ?_
                rintro e wb ⟨A', c', rfl, hC, hb, hcap⟩
                try go_simp
                have HOb := hide ((unhide HOae).below hb)
                have HNb := hide (heap_below (unhide HNae) hb)
                refine hK _ _ ⟨(unhide HOb).box, ?_⟩
                clear hK K
                refine wpAnyH_take (i := 5) (v := .tuple #[scrV (startS s bag t) A' c', .int .i64 (startE s bag t)]) rfl (by kernel_rfl) (by kernel_rfl) (by kernel_rfl) (fun _ _ _ h => h) (Or.inl ⟨by rfl, by intro w _; go_simp⟩) ((unhide HOb).box) ?_
                refine wpAnyH_take (i := 6) (v := scrV (startS s bag t) A' c') rfl (by kernel_rfl) (by kernel_rfl) (by kernel_rfl) (fun _ _ _ h => h) (Or.inl ⟨by rfl, by intro w _; go_simp⟩) ((unhide HOb).box) ?_
                refine wpAnyH_take (i := 7) (v := .int .i64 (startE s bag t)) rfl (by kernel_rfl) (by kernel_rfl) (by kernel_rfl) (fun _ _ _ h => h) (Or.inl ⟨by rfl, by intro w _; go_simp⟩) ((unhide HOb).box) ?_
                have HN := hide (OvN.early (Gn := wq.heap.size) (unhide HOae) (unhide HGae) (unhide HNae) (unhide HOq).szX (Array.getElem?_eq_some_iff.1 (unhide HGq)).1 (unhide HAae) hb hC hcap)
                refine wpAnyH_one (i := 9) (by kernel_rfl) rfl (fun K hK => ?_)
                rw [if_pos (by rfl)]
                refine wp_store_row _ _ _ rfl (wq.heap.size) (scrA (startS s bag t) A' c') rfl rfl 28 _ (unhide HNb) infoS rfl (scr_all _ _ _) ?_
                refine hK _ _ ⟨(unhide HN).st.box, ?_⟩
                clear hK K
                refine wpAnyH_take (i := 10) (v := .int .i64 (startE s bag t)) rfl (by kernel_rfl) (by kernel_rfl) (by kernel_rfl) (fun _ _ _ h => h) (Or.inl ⟨by rfl, by intro w _; go_simp⟩) (unhide HN).st.box ?_
                refine wpAnyH_done (by kernel_rfl) ?_ _
                go_simp
                have HM := hide (show (1 ≤ bag ∧ bag ≤ 5) ∧ OvN w w.heap.size w6.heap.size G (wq.heap.size) s A c (startS s bag t) A' c' (wb.setRow (wq.heap.size) (scrA (startS s bag t) A' c')) from ⟨⟨g1, g5⟩, unhide HN⟩)
                clear HN HOb hb hC HNb HNae HAae
                generalize wb.setRow (wq.heap.size) (scrA (startS s bag t) A' c') = Wf at *
                generalize wq.heap.size = Gn at *
                exact hM bag Gn A' c' Wf (unhide HM)
              case' refine_1 =>
                go_simp
                go_at_call 14
                refine (range_any _ _ 1 5 _ (unhide HOd).src (by omega) (by omega) (by omega)).mono ?_
                rintro e wad ⟨bag, rfl, g1, g5, hsa, hga⟩
                try go_simp
                have HOad := hide ((unhide HOd).reads hsa hga)
                have HGad := hide (heap_reads (unhide HGd) hga (by have := unhide HXG; have := (unhide HOq).lt; omega))
                refine hK _ _ ⟨(unhide HOad).box, ?_⟩
                clear hK K hsa hga
                refine wpAnyH_two (i := 4) (j := 8) (by kernel_rfl) rfl rfl (fun K hK => ?_) (fun K hK => ?_)
                case' refine_1 =>
                  go_simp
                  go_at_call 15
                  refine ((unhide HP).start w.heap.size s bag t A c _ (unhide HOad).val (unhide HOad).ckR (unhide HOad).cap).mono ?_
                  rintro e wb ⟨A', c', rfl, hC, hb, hcap⟩
                  try go_simp
                  have HOb := hide ((unhide HOad).below hb)
                  refine hK _ _ ⟨(unhide HOb).box, ?_⟩
                  clear hK K
                  refine wpAnyH_take (i := 5) (v := .tuple #[scrV (startS s bag t) A' c', .int .i64 (startE s bag t)]) rfl (by kernel_rfl) (by kernel_rfl) (by kernel_rfl) (fun _ _ _ h => h) (Or.inl ⟨by rfl, by intro w _; go_simp⟩) ((unhide HOb).box) ?_
                  refine wpAnyH_take (i := 6) (v := scrV (startS s bag t) A' c') rfl (by kernel_rfl) (by kernel_rfl) (by kernel_rfl) (fun _ _ _ h => h) (Or.inl ⟨by rfl, by intro w _; go_simp⟩) ((unhide HOb).box) ?_
                  refine wpAnyH_take (i := 7) (v := .int .i64 (startE s bag t)) rfl (by kernel_rfl) (by kernel_rfl) (by kernel_rfl) (fun _ _ _ h => h) (Or.inl ⟨by rfl, by intro w _; go_simp⟩) ((unhide HOb).box) ?_
                  refine wpAnyH_one (i := 8) (by kernel_rfl) rfl (fun K hK => ?_)
                  go_simp
                  refine hK _ _ ⟨heap_later (unhide HOb).box _, ?_⟩
                  clear hK K
                  refine wpAnyH_one (i := 9) (by kernel_rfl) rfl (fun K hK => ?_)
                  go_simp
                  have HN := hide (OvN.late (unhide HOad) (unhide HGad) hb hC hcap)
                  refine hK _ _ ⟨(unhide HN).st.box, ?_⟩
                  clear hK K
                  refine wpAnyH_take (i := 10) (v := .int .i64 (startE s bag t)) rfl (by kernel_rfl) (by kernel_rfl) (by kernel_rfl) (fun _ _ _ h => h) (Or.inl ⟨by rfl, by intro w _; go_simp⟩) (unhide HN).st.box ?_
                  refine wpAnyH_done (by kernel_rfl) ?_ _
                  go_simp
                  have HM := hide (show (1 ≤ bag ∧ bag ≤ 5) ∧ OvN w w.heap.size w6.heap.size G wb.heap.size s A c (startS s bag t) A' c' (wb.alloc (scrO (startS s bag t) A' c')) from ⟨⟨g1, g5⟩, unhide HN⟩)
                  clear HN HOb hb hC
                  generalize wb.alloc (scrO (startS s bag t) A' c') = Wf at *
                  generalize wb.heap.size = Gn at *
                  exact hM bag Gn A' c' Wf (unhide HM)
                case' refine_2 =>
                  go_simp
                  refine hK _ _ ⟨heap_later (unhide HOad).box _, ?_⟩
                  clear hK K
                  have bx := (Below.refl wad.heap.size wad).alloc (Nat.le_refl _) (scrO scr0 none 0)
                  have HOx := hide ((unhide HOad).below bx)
                  have HGx := hide (heap_below (unhide HGad) bx)
                  have HNx := hide (heap_alloc_new wad (scrO scr0 none 0))
                  have HAx := hide (((unhide HOad).ckR.other (n := 5) Ck.cs_len (by omega) (Nat.le_refl wad.heap.size)).keep bx)
                  clear bx
                  refine wpAnyH_one (i := 4) (by kernel_rfl) rfl (fun K hK => ?_)
                  go_simp
                  go_at_call 15
                  refine ((unhide HP).start w.heap.size s bag t A c _ (unhide HOx).val (unhide HOx).ckR (unhide HOx).cap).mono ?_
                  rintro e wb ⟨A', c', rfl, hC, hb, hcap⟩
                  try go_simp
                  have HOb := hide ((unhide HOx).below hb)
                  have HNb := hide (heap_below (unhide HNx) hb)
                  refine hK _ _ ⟨(unhide HOb).box, ?_⟩
                  clear hK K
                  refine wpAnyH_take (i := 5) (v := .tuple #[scrV (startS s bag t) A' c', .int .i64 (startE s bag t)]) rfl (by kernel_rfl) (by kernel_rfl) (by kernel_rfl) (fun _ _ _ h => h) (Or.inl ⟨by rfl, by intro w _; go_simp⟩) ((unhide HOb).box) ?_
                  refine wpAnyH_take (i := 6) (v := scrV (startS s bag t) A' c') rfl (by kernel_rfl) (by kernel_rfl) (by kernel_rfl) (fun _ _ _ h => h) (Or.inl ⟨by rfl, by intro w _; go_simp⟩) ((unhide HOb).box) ?_
                  refine wpAnyH_take (i := 7) (v := .int .i64 (startE s bag t)) rfl (by kernel_rfl) (by kernel_rfl) (by kernel_rfl) (fun _ _ _ h => h) (Or.inl ⟨by rfl, by intro w _; go_simp⟩) ((unhide HOb).box) ?_
                  have HN := hide (OvN.early (Gn := wad.heap.size) (unhide HOx) (unhide HGx) (unhide HNx) (unhide HOad).szX (Array.getElem?_eq_some_iff.1 (unhide HGad)).1 (unhide HAx) hb hC hcap)
                  refine wpAnyH_one (i := 9) (by kernel_rfl) rfl (fun K hK => ?_)
                  rw [if_pos (by rfl)]
                  refine wp_store_row _ _ _ rfl (wad.heap.size) (scrA (startS s bag t) A' c') rfl rfl 28 _ (unhide HNb) infoS rfl (scr_all _ _ _) ?_
                  refine hK _ _ ⟨(unhide HN).st.box, ?_⟩
                  clear hK K
                  refine wpAnyH_take (i := 10) (v := .int .i64 (startE s bag t)) rfl (by kernel_rfl) (by kernel_rfl) (by kernel_rfl) (fun _ _ _ h => h) (Or.inl ⟨by rfl, by intro w _; go_simp⟩) (unhide HN).st.box ?_
                  refine wpAnyH_done (by kernel_rfl) ?_ _
                  go_simp
                  have HM := hide (show (1 ≤ bag ∧ bag ≤ 5) ∧ OvN w w.heap.size w6.heap.size G (wad.heap.size) s A c (startS s bag t) A' c' (wb.setRow (wad.heap.size) (scrA (startS s bag t) A' c')) from ⟨⟨g1, g5⟩, unhide HN⟩)
                  clear HN HOb hb hC HNb HNx HAx
                  generalize wb.setRow (wad.heap.size) (scrA (startS s bag t) A' c') = Wf at *
                  generalize wad.heap.size = Gn at *
                  exact hM bag Gn A' c' Wf (unhide HM)
            intro bag Gn A' c' W ⟨⟨g1, g5⟩, hN⟩
            have HN := hide hN
            have HGn := hide hN.box
            have HBX := hide hN.st.box
            clear hN
            by_cases he : startE s bag t = 0
            · have HE := hide he
              have HS := hide (startS_valid (unhide HOq).val he)
              rw [he]
              clear he
              go_wp2_with (first
                | (refine wpList_loadS (unhide HGn) rfl _ rfl rfl ?_)
                | (refine wpList_storeS (unhide HBX) rfl _ _ rfl rfl rfl ?_))
              go_meet
              case rel => exact ⟨0, false, _, _, _, rfl, rfl, hide (OvA.put (unhide HN) (unhide HS) (fun b => stepB_start (unhide HE) b) (startS_next (unhide HE)) (by have := unhide HXG; omega))⟩
            · have hne : (startE s bag t == 0) = false := by rw [beq_eq_false_iff_ne]; exact he
              clear he
              generalize startE s bag t = ev at *
              go_wp2
              go_meet
              case rel => exact ⟨0, false, _, _, _, rfl, rfl, hide (OvA.none (unhide HN).st (unhide HN).old)⟩
          · have u0n : (u == 0) = false := by rw [beq_eq_false_iff_ne]; exact hu0
            by_cases hu1 : u = 1
            · subst hu1
              have HE := hide (exp_ok (unhide HOq).val ht0 htm (by omega))
              have HBX := hide (unhide HOq).box
              go_wp2_with (refine wpList_loadS (unhide HBX) rfl _ rfl rfl ?_)
              refine ((unhide HP).expire w.heap.size s t A c _ (unhide HOq).val (unhide HOq).ckR (unhide HOq).cap).mono ?_
              rw [unhide HE]
              rintro e w5 ⟨A', c', rfl, hC, hb, hcap⟩
              have HN := hide (OvN.late (unhide HOq) (unhide HGq) hb hC hcap)
              have HGn := hide (unhide HN).box
              have HB2 := hide (unhide HN).st.box
              have HS := hide (expS_valid (unhide HOq).val (unhide HE))
              clear hC hb hcap
              go_wp2_with (first
                | (refine wpList_loadS (unhide HGn) rfl _ rfl rfl ?_)
                | (refine wpList_storeS (unhide HB2) rfl _ _ rfl rfl rfl ?_))
              go_meet
              case rel => exact ⟨0, false, _, _, _, rfl, rfl, hide (OvA.put (unhide HN) (unhide HS) (fun b => stepB_exp (unhide HOq).val (unhide HE) b) (expS_next (unhide HOq).val (unhide HE)) (by have := unhide HXG; omega))⟩
            · have u1n : (u == 1) = false := by rw [beq_eq_false_iff_ne]; exact hu1
              go_wp2_with fail
              refine (n_any _ _ 12 _ (unhide HOq).src (by omega) (by omega)).mono ?_
              rintro e wr1 ⟨im, rfl, im0, im1, hs, hg⟩
              have HO1 := hide ((unhide HOq).reads hs hg)
              have HG1 := hide (heap_reads (unhide HGq) hg (by have := unhide HXG; have := (unhide HOq).lt; omega))
              clear hs hg
              go_wp2_with fail
              refine (n_any _ _ 2 _ (unhide HO1).src (by omega) (by omega)).mono ?_
              rintro e wr2 ⟨q, rfl, q0', q1', hs, hg⟩
              have HO2 := hide ((unhide HO1).reads hs hg)
              have HG2 := hide (heap_reads (unhide HG1) hg (by have := unhide HXG; have := (unhide HOq).lt; omega))
              have HBX := hide (unhide HO2).box
              clear hs hg HO1 HG1
              obtain ⟨cl, hcl⟩ : ∃ cl : Bool, (q == 0) = cl := ⟨_, rfl⟩
              go_wp2_with (refine wpList_loadS (unhide HBX) rfl _ rfl rfl ?_)
              refine ((unhide HP).verdict w.heap.size s im cl t A c _ (unhide HO2).val (unhide HO2).ckR (unhide HO2).cap).mono ?_
              rintro e w5 ⟨A', c', rfl, hC, hb, hcap⟩
              have HN := hide (OvN.late (unhide HO2) (unhide HG2) hb hC hcap)
              have HGn := hide (unhide HN).box
              have HB2 := hide (unhide HN).st.box
              clear hC hb hcap hcl
              by_cases he : verE s im cl t = 0
              · have HE := hide he
                have HS := hide (verS_valid (unhide HO2).val he)
                rw [he]
                clear he
                go_wp2_with (first
                  | (refine wpList_loadS (unhide HGn) rfl _ rfl rfl ?_)
                  | (refine wpList_storeS (unhide HB2) rfl _ _ rfl rfl rfl ?_))
                go_meet
                case rel => exact ⟨im, cl, _, _, _, rfl, rfl, hide (OvA.put (unhide HN) (unhide HS) (fun b => stepB_ver (unhide HO2).val (unhide HE) b) (verS_next (unhide HO2).val (unhide HE)) (by have := unhide HXG; omega))⟩
              · have hne : (verE s im cl t == 0) = false := by rw [beq_eq_false_iff_ne]; exact he
                clear he
                generalize verE s im cl t = ev at *
                go_wp2
                go_meet
                case rel => exact ⟨im, cl, _, _, _, rfl, rfl, hide (OvA.none (unhide HN).st (unhide HN).old)⟩
        case rest =>
          as_aux_lemma =>
            obtain ⟨image, clear, s', A', c', rfl, rfl, HA⟩ := hcut
            clear HOq HGq
            go_wp2_with fail
            go_loopw [18] (fun bv wr => ∃ j : Nat, 1 ≤ j ∧ j ≤ 6 ∧ bv = .int .i64 j ∧ Hid (OvA w w.heap.size w6.heap.size G s A c s' A' c' image clear t wr)) (fun bv _ => 6 - (intOf bv).toNat)
            case atStart => exact ⟨1, by omega, by omega, rfl, HA⟩
            case round =>
              obtain ⟨j, j1, j6, rfl, HAj⟩ := hrel
              obtain ⟨wj, rfl⟩ : ∃ wj : World, wj = wr := ⟨_, rfl⟩
              clear HA
              by_cases hj : j ≤ 5
              · have jl : (j : Int) ≤ 5 := by omega
                obtain ⟨p, hp⟩ : ∃ p, findX s (j : Int) = p := ⟨_, rfl⟩
                obtain ⟨was, hwas⟩ : ∃ was, findB s (j : Int) = was := ⟨_, rfl⟩
                obtain ⟨qv, hqv⟩ : ∃ qv, findX s' (j : Int) = qv := ⟨_, rfl⟩
                obtain ⟨is, his⟩ : ∃ is, findB s' (j : Int) = is := ⟨_, rfl⟩
                have hst := (unhide HAj).step (j : Int)
                have hcl := clr_mem (unhide HAj).st.val (j : Int)
                have hok : was = true → okC s.next p := fun h => by
                  rw [← hwas] at h; rw [← hp]; exact find_ok (unhide HAj).val h
                have hf1 := fun W => (unhide HP).find w.heap.size s (j : Int) A c W (unhide HAj).val
                have hf2 := fun W => (unhide HP).find w.heap.size s' (j : Int) A' c' W (unhide HAj).st.val
                unfold StepB at hst
                rw [hp, hwas, hqv, his] at hst
                rw [hqv, his] at hcl
                rw [hp, hwas] at hf1
                rw [hqv, his] at hf2
                have HSt := hide hst
                have HCl := hide hcl
                have HOk := hide hok
                have HF1 := hide hf1
                have HF2 := hide hf2
                have HBo := hide (unhide HAj).old
                clear hst hcl hok hf1 hf2 hp hwas hqv his
                go_wp2_with (refine wpList_loadS (unhide HBo) rfl _ rfl rfl ?_)
                refine (unhide HF1 _ (unhide HAj).cks (unhide HAj).cap).mono ?_
                rintro e w11 ⟨rfl, hb11⟩
                have b12 := (Below.refl w11.heap.size w11).alloc (Nat.le_refl _) (.cells p.arr 42)
                have HA1 := hide ((unhide HAj).below (onward hb11 b12))
                have HP1 := hide (heap_alloc_new w11 (.cells p.arr 42))
                have HBx := hide (unhide HA1).st.box
                clear hb11 b12 HAj HBo
                go_wp2_with (refine wpList_loadS (unhide HBx) rfl _ rfl rfl ?_)
                refine (unhide HF2 _ (unhide HA1).st.ckR (unhide HA1).st.cap).mono ?_
                rintro e w13 ⟨rfl, hb13⟩
                have b14 := (Below.refl w13.heap.size w13).alloc (Nat.le_refl _) (.cells qv.arr 42)
                have HA2 := hide ((unhide HA1).below (onward hb13 b14))
                have hp2 := heap_below (unhide HP1) (onward hb13 b14)
                have p0 : (w13.alloc (.cells qv.arr 42)).cell? ⟨w11.heap.size, 0, none⟩ = some (.int .i64 p.bag) := by rw [Lib.cell_of_heap hp2]; rfl
                have p1 : (w13.alloc (.cells qv.arr 42)).cell? ⟨w11.heap.size, 1, none⟩ = some (.int .i64 p.lv) := by rw [Lib.cell_of_heap hp2]; rfl
                have p2 : (w13.alloc (.cells qv.arr 42)).cell? ⟨w11.heap.size, 2, none⟩ = some (.int .i64 p.si) := by rw [Lib.cell_of_heap hp2]; rfl
                have p3 : (w13.alloc (.cells qv.arr 42)).cell? ⟨w11.heap.size, 3, none⟩ = some (.int .i64 p.im) := by rw [Lib.cell_of_heap hp2]; rfl
                have p4 : (w13.alloc (.cells qv.arr 42)).cell? ⟨w11.heap.size, 4, none⟩ = some (.int .i64 p.st) := by rw [Lib.cell_of_heap hp2]; rfl
                have HB3 := hide (unhide HA2).st.box
                have HCA := hide (fun W hb => (unhide HP).cleared w.heap.size s' A' c' W (unhide HA2).st.val ((unhide HA2).st.ckR.keep hb) (unhide HA2).st.cap)
                clear hb13 b14 hp2 HA1 HP1 HBx HF1 HF2
                have hS := unhide HSt
                have hC := unhide HCl
                cases was with
                | false =>
                  cases is with
                  | false =>
                    have HB := hide (show decide ((j : Int) ∈ clrL s') = false by rw [hC]; rfl)
                    clear hS hC
                    go_wp2_with (first
                      | (refine wpList_loadS (unhide HB3) rfl _ rfl rfl ?_)
                      | (go_at_call 24; refine (unhide HCA _ (by first | exact Below.refl _ _ | exact draws (Below.refl _ _) _)).mono ?_; rintro e w15 ⟨AC, cC, rfl, hNC, hb15⟩; have HA3 := hide ((unhide HA2).below (onward (by first | exact Below.refl _ _ | exact draws (Below.refl _ _) _) hb15)); have z4 : w15.cell? ⟨w13.heap.size, 4, none⟩ = some (.int .i64 qv.st) := (by rw [Lib.cell_of_heap (heap_below (heap_alloc_new w13 (.cells qv.arr 42)) (onward (by first | exact Below.refl _ _ | exact draws (Below.refl _ _) _) hb15))]; rfl); have hin := kin_any w.heap.size (clrL s') (j : Int) AC cC w15 (Nat.le_trans (clr_len s') (Nat.le_trans (unhide HA2).st.val.len (by decide))) (hNC w.heap.size (unhide HA2).st.szR); rw [unhide HB] at hin; have HIn := hide hin; clear hNC hb15 hin)
                      | (go_at_call 30; refine (unhide HIn).mono ?_; rintro e w16 ⟨rfl, rfl⟩))
                    go_roundw
                    case rel => exact ⟨j + 1, by omega, by omega, by go_num, HA3⟩
                    case measure => simp [intOf]; omega
                  | true =>
                    have hq2 : qv.st ≠ 2 := fun h => by have := (hS.2 rfl h (.inl rfl)).1; cases this
                    have hqb : (qv.st == 2) = false := by rw [beq_eq_false_iff_ne]; exact hq2
                    have HB := hide (show decide ((j : Int) ∈ clrL s') = false by rw [hC, decide_eq_false hq2]; rfl)
                    clear hS hC hq2
                    go_wp2_with (first
                      | (refine wpList_loadS (unhide HB3) rfl _ rfl rfl ?_)
                      | (go_at_call 24; refine (unhide HCA _ (by first | exact Below.refl _ _ | exact draws (Below.refl _ _) _)).mono ?_; rintro e w15 ⟨AC, cC, rfl, hNC, hb15⟩; have HA3 := hide ((unhide HA2).below (onward (by first | exact Below.refl _ _ | exact draws (Below.refl _ _) _) hb15)); have z4 : w15.cell? ⟨w13.heap.size, 4, none⟩ = some (.int .i64 qv.st) := (by rw [Lib.cell_of_heap (heap_below (heap_alloc_new w13 (.cells qv.arr 42)) (onward (by first | exact Below.refl _ _ | exact draws (Below.refl _ _) _) hb15))]; rfl); have hin := kin_any w.heap.size (clrL s') (j : Int) AC cC w15 (Nat.le_trans (clr_len s') (Nat.le_trans (unhide HA2).st.val.len (by decide))) (hNC w.heap.size (unhide HA2).st.szR); rw [unhide HB] at hin; have HIn := hide hin; clear hNC hb15 hin)
                      | (go_at_call 30; refine (unhide HIn).mono ?_; rintro e w16 ⟨rfl, rfl⟩))
                    go_roundw
                    case rel => exact ⟨j + 1, by omega, by omega, by go_num, HA3⟩
                    case measure => simp [intOf]; omega
                | true =>
                  cases is with
                  | false => exact absurd (hS.1 rfl).1 Bool.false_ne_true
                  | true =>
                    by_cases hp1 : p.st = 1
                    · have hpb : (p.st != 1) = false := by rw [bne_eq_false_iff_eq]; exact hp1
                      have hpe : (p.st == 1) = true := by rw [beq_iff_eq]; exact hp1
                      by_cases hq2 : qv.st = 2
                      · have hqb : (qv.st == 2) = true := by rw [beq_iff_eq]; exact hq2
                        have HB := hide (show decide ((j : Int) ∈ clrL s') = true by rw [hC, decide_eq_true hq2]; rfl)
                        obtain ⟨_, hcl, e1, e2, hle⟩ := hS.2 rfl hq2 (.inr hp1)
                        obtain ⟨_, ⟨hv1, hv4⟩, ⟨si0, si1⟩, _, _⟩ := unhide HOk rfl
                        obtain ⟨⟨la0, la1⟩, ⟨lb0, lb1⟩, ⟨lc0, lc1⟩, ⟨ld0, ld1⟩⟩ := (unhide HA2).st.val.lim
                        subst hcl
                        have e1b : (p.im != image) = false := by rw [bne_eq_false_iff_eq]; exact e1
                        have e2b : (qv.im != image) = false := by rw [bne_eq_false_iff_eq]; exact e2
                        have x0 := Lib.cell_of_heap (unhide HB3) 0
                        have x1 := Lib.cell_of_heap (unhide HB3) 1
                        have x2 := Lib.cell_of_heap (unhide HB3) 2
                        have x3 := Lib.cell_of_heap (unhide HB3) 3
                        have hlv : p.lv = 1 ∨ p.lv = 2 ∨ p.lv = 3 ∨ p.lv = 4 := by omega
                        clear hS hC hp1 hq2 e1 e2
                        rcases hlv with hlv | hlv | hlv | hlv
                        · have hlv : p.lv = 1 := hlv
                          rw [hlv] at p1
                          have hle' : ¬ (p.si + s'.l0 < t) := by have e : limF s' p.lv = s'.l0 := (by rw [hlv]; rfl); omega
                          clear hlv
                          go_wp2_with fail
                          go_quiet (fail)
                          go_wp2_with (first
                            | (refine wpList_loadS (unhide HB3) rfl _ rfl rfl ?_)
                            | (go_at_call 24; refine (unhide HCA _ (by first | exact Below.refl _ _ | exact draws (Below.refl _ _) _)).mono ?_; rintro e w15 ⟨AC, cC, rfl, hNC, hb15⟩; have HA3 := hide ((unhide HA2).below (onward (by first | exact Below.refl _ _ | exact draws (Below.refl _ _) _) hb15)); have z4 : w15.cell? ⟨w13.heap.size, 4, none⟩ = some (.int .i64 qv.st) := (by rw [Lib.cell_of_heap (heap_below (heap_alloc_new w13 (.cells qv.arr 42)) (onward (by first | exact Below.refl _ _ | exact draws (Below.refl _ _) _) hb15))]; rfl); have hin := kin_any w.heap.size (clrL s') (j : Int) AC cC w15 (Nat.le_trans (clr_len s') (Nat.le_trans (unhide HA2).st.val.len (by decide))) (hNC w.heap.size (unhide HA2).st.szR); rw [unhide HB] at hin; have HIn := hide hin; clear hNC hb15 hin)
                            | (go_at_call 30; refine (unhide HIn).mono ?_; rintro e w16 ⟨rfl, rfl⟩))
                          go_roundw
                          case rel => exact ⟨j + 1, by omega, by omega, by go_num, HA3⟩
                          case measure => simp [intOf]; omega
                        · have hlv : p.lv = 2 := hlv
                          rw [hlv] at p1
                          have hle' : ¬ (p.si + s'.l1 < t) := by have e : limF s' p.lv = s'.l1 := (by rw [hlv]; rfl); omega
                          clear hlv
                          go_wp2_with fail
                          go_quiet (fail)
                          go_wp2_with (first
                            | (refine wpList_loadS (unhide HB3) rfl _ rfl rfl ?_)
                            | (go_at_call 24; refine (unhide HCA _ (by first | exact Below.refl _ _ | exact draws (Below.refl _ _) _)).mono ?_; rintro e w15 ⟨AC, cC, rfl, hNC, hb15⟩; have HA3 := hide ((unhide HA2).below (onward (by first | exact Below.refl _ _ | exact draws (Below.refl _ _) _) hb15)); have z4 : w15.cell? ⟨w13.heap.size, 4, none⟩ = some (.int .i64 qv.st) := (by rw [Lib.cell_of_heap (heap_below (heap_alloc_new w13 (.cells qv.arr 42)) (onward (by first | exact Below.refl _ _ | exact draws (Below.refl _ _) _) hb15))]; rfl); have hin := kin_any w.heap.size (clrL s') (j : Int) AC cC w15 (Nat.le_trans (clr_len s') (Nat.le_trans (unhide HA2).st.val.len (by decide))) (hNC w.heap.size (unhide HA2).st.szR); rw [unhide HB] at hin; have HIn := hide hin; clear hNC hb15 hin)
                            | (go_at_call 30; refine (unhide HIn).mono ?_; rintro e w16 ⟨rfl, rfl⟩))
                          go_roundw
                          case rel => exact ⟨j + 1, by omega, by omega, by go_num, HA3⟩
                          case measure => simp [intOf]; omega
                        · have hlv : p.lv = 3 := hlv
                          rw [hlv] at p1
                          have hle' : ¬ (p.si + s'.l2 < t) := by have e : limF s' p.lv = s'.l2 := (by rw [hlv]; rfl); omega
                          clear hlv
                          go_wp2_with fail
                          go_quiet (fail)
                          go_wp2_with (first
                            | (refine wpList_loadS (unhide HB3) rfl _ rfl rfl ?_)
                            | (go_at_call 24; refine (unhide HCA _ (by first | exact Below.refl _ _ | exact draws (Below.refl _ _) _)).mono ?_; rintro e w15 ⟨AC, cC, rfl, hNC, hb15⟩; have HA3 := hide ((unhide HA2).below (onward (by first | exact Below.refl _ _ | exact draws (Below.refl _ _) _) hb15)); have z4 : w15.cell? ⟨w13.heap.size, 4, none⟩ = some (.int .i64 qv.st) := (by rw [Lib.cell_of_heap (heap_below (heap_alloc_new w13 (.cells qv.arr 42)) (onward (by first | exact Below.refl _ _ | exact draws (Below.refl _ _) _) hb15))]; rfl); have hin := kin_any w.heap.size (clrL s') (j : Int) AC cC w15 (Nat.le_trans (clr_len s') (Nat.le_trans (unhide HA2).st.val.len (by decide))) (hNC w.heap.size (unhide HA2).st.szR); rw [unhide HB] at hin; have HIn := hide hin; clear hNC hb15 hin)
                            | (go_at_call 30; refine (unhide HIn).mono ?_; rintro e w16 ⟨rfl, rfl⟩))
                          go_roundw
                          case rel => exact ⟨j + 1, by omega, by omega, by go_num, HA3⟩
                          case measure => simp [intOf]; omega
                        · have hlv : p.lv = 4 := hlv
                          rw [hlv] at p1
                          have hle' : ¬ (p.si + s'.l3 < t) := by have e : limF s' p.lv = s'.l3 := (by rw [hlv]; rfl); omega
                          clear hlv
                          go_wp2_with fail
                          go_quiet (fail)
                          go_wp2_with (first
                            | (refine wpList_loadS (unhide HB3) rfl _ rfl rfl ?_)
                            | (go_at_call 24; refine (unhide HCA _ (by first | exact Below.refl _ _ | exact draws (Below.refl _ _) _)).mono ?_; rintro e w15 ⟨AC, cC, rfl, hNC, hb15⟩; have HA3 := hide ((unhide HA2).below (onward (by first | exact Below.refl _ _ | exact draws (Below.refl _ _) _) hb15)); have z4 : w15.cell? ⟨w13.heap.size, 4, none⟩ = some (.int .i64 qv.st) := (by rw [Lib.cell_of_heap (heap_below (heap_alloc_new w13 (.cells qv.arr 42)) (onward (by first | exact Below.refl _ _ | exact draws (Below.refl _ _) _) hb15))]; rfl); have hin := kin_any w.heap.size (clrL s') (j : Int) AC cC w15 (Nat.le_trans (clr_len s') (Nat.le_trans (unhide HA2).st.val.len (by decide))) (hNC w.heap.size (unhide HA2).st.szR); rw [unhide HB] at hin; have HIn := hide hin; clear hNC hb15 hin)
                            | (go_at_call 30; refine (unhide HIn).mono ?_; rintro e w16 ⟨rfl, rfl⟩))
                          go_roundw
                          case rel => exact ⟨j + 1, by omega, by omega, by go_num, HA3⟩
                          case measure => simp [intOf]; omega
                      · have hqb : (qv.st == 2) = false := by rw [beq_eq_false_iff_ne]; exact hq2
                        have HB := hide (show decide ((j : Int) ∈ clrL s') = false by rw [hC, decide_eq_false hq2]; rfl)
                        clear hS hC hp1 hq2
                        go_wp2_with (first
                          | (refine wpList_loadS (unhide HB3) rfl _ rfl rfl ?_)
                          | (go_at_call 24; refine (unhide HCA _ (by first | exact Below.refl _ _ | exact draws (Below.refl _ _) _)).mono ?_; rintro e w15 ⟨AC, cC, rfl, hNC, hb15⟩; have HA3 := hide ((unhide HA2).below (onward (by first | exact Below.refl _ _ | exact draws (Below.refl _ _) _) hb15)); have z4 : w15.cell? ⟨w13.heap.size, 4, none⟩ = some (.int .i64 qv.st) := (by rw [Lib.cell_of_heap (heap_below (heap_alloc_new w13 (.cells qv.arr 42)) (onward (by first | exact Below.refl _ _ | exact draws (Below.refl _ _) _) hb15))]; rfl); have hin := kin_any w.heap.size (clrL s') (j : Int) AC cC w15 (Nat.le_trans (clr_len s') (Nat.le_trans (unhide HA2).st.val.len (by decide))) (hNC w.heap.size (unhide HA2).st.szR); rw [unhide HB] at hin; have HIn := hide hin; clear hNC hb15 hin)
                          | (go_at_call 30; refine (unhide HIn).mono ?_; rintro e w16 ⟨rfl, rfl⟩))
                        go_roundw
                        case rel => exact ⟨j + 1, by omega, by omega, by go_num, HA3⟩
                        case measure => simp [intOf]; omega
                    · have hpb : (p.st != 1) = true := by rw [bne_iff_ne]; exact hp1
                      have hpe : (p.st == 1) = false := by rw [beq_eq_false_iff_ne]; exact hp1
                      obtain rfl : qv = p := (hS.1 rfl).2 hp1
                      by_cases hq2 : qv.st = 2
                      · have hqb : (qv.st == 2) = true := by rw [beq_iff_eq]; exact hq2
                        have HB := hide (show decide ((j : Int) ∈ clrL s') = true by rw [hC, decide_eq_true hq2]; rfl)
                        clear hS hC hp1 hq2
                        go_wp2_with (first
                          | (refine wpList_loadS (unhide HB3) rfl _ rfl rfl ?_)
                          | (go_at_call 24; refine (unhide HCA _ (by first | exact Below.refl _ _ | exact draws (Below.refl _ _) _)).mono ?_; rintro e w15 ⟨AC, cC, rfl, hNC, hb15⟩; have HA3 := hide ((unhide HA2).below (onward (by first | exact Below.refl _ _ | exact draws (Below.refl _ _) _) hb15)); have z4 : w15.cell? ⟨w13.heap.size, 4, none⟩ = some (.int .i64 qv.st) := (by rw [Lib.cell_of_heap (heap_below (heap_alloc_new w13 (.cells qv.arr 42)) (onward (by first | exact Below.refl _ _ | exact draws (Below.refl _ _) _) hb15))]; rfl); have hin := kin_any w.heap.size (clrL s') (j : Int) AC cC w15 (Nat.le_trans (clr_len s') (Nat.le_trans (unhide HA2).st.val.len (by decide))) (hNC w.heap.size (unhide HA2).st.szR); rw [unhide HB] at hin; have HIn := hide hin; clear hNC hb15 hin)
                          | (go_at_call 30; refine (unhide HIn).mono ?_; rintro e w16 ⟨rfl, rfl⟩))
                        go_roundw
                        case rel => exact ⟨j + 1, by omega, by omega, by go_num, HA3⟩
                        case measure => simp [intOf]; omega
                      · have hqb : (qv.st == 2) = false := by rw [beq_eq_false_iff_ne]; exact hq2
                        have HB := hide (show decide ((j : Int) ∈ clrL s') = false by rw [hC, decide_eq_false hq2]; rfl)
                        clear hS hC hp1 hq2
                        go_wp2_with (first
                          | (refine wpList_loadS (unhide HB3) rfl _ rfl rfl ?_)
                          | (go_at_call 24; refine (unhide HCA _ (by first | exact Below.refl _ _ | exact draws (Below.refl _ _) _)).mono ?_; rintro e w15 ⟨AC, cC, rfl, hNC, hb15⟩; have HA3 := hide ((unhide HA2).below (onward (by first | exact Below.refl _ _ | exact draws (Below.refl _ _) _) hb15)); have z4 : w15.cell? ⟨w13.heap.size, 4, none⟩ = some (.int .i64 qv.st) := (by rw [Lib.cell_of_heap (heap_below (heap_alloc_new w13 (.cells qv.arr 42)) (onward (by first | exact Below.refl _ _ | exact draws (Below.refl _ _) _) hb15))]; rfl); have hin := kin_any w.heap.size (clrL s') (j : Int) AC cC w15 (Nat.le_trans (clr_len s') (Nat.le_trans (unhide HA2).st.val.len (by decide))) (hNC w.heap.size (unhide HA2).st.szR); rw [unhide HB] at hin; have HIn := hide hin; clear hNC hb15 hin)
                          | (go_at_call 30; refine (unhide HIn).mono ?_; rintro e w16 ⟨rfl, rfl⟩))
                        go_roundw
                        case rel => exact ⟨j + 1, by omega, by omega, by go_num, HA3⟩
                        case measure => simp [intOf]; omega
              · have jl : ¬ (j : Int) ≤ 5 := by omega
                go_wp2
                go_roundw
                case rel => exact ⟨i + 1, t, s', A', c', by omega, ht0, by omega, rfl, by go_num, by have := (unhide HAj).next; omega, hide (unhide HAj).st⟩
                case measure => simp [intOf]; omega
    · have il : ¬ (i : Int) < 30 := by omega
      go_wp2_with (go_at_call 29; refine (awake_scr (unhide HP) _).mono ?_; rintro e wz ⟨rfl, hbz⟩; have HBZ := hide (onward (unhide HO).bel hbz); clear hbz)
      go_ret
      exact ⟨rfl, unhide HBZ⟩
end Go.Proofs.Ytdhkhkcijffbiaa
