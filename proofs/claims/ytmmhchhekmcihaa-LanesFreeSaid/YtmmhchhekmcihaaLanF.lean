/-
  Lanes (layer 17): LanesFree: its walk.
-/
import Derived.Test.YtmmhchhekmcihaaLanR
import Derived.Test.YtmmhchhekmcihaaAnyH
import Derived.Deep.CutRange
import Derived.BigQuiet
namespace Go.Proofs.Ytmmhchhekmcihaa
open Go.RowKit

theorem times_valF {T : List Int} (hl : T.length ≤ 29) (h : ∀ x ∈ T, 0 ≤ x ∧ x ≤ 11) : valE T = 0 := by
  unfold valE
  rw [if_neg (by omega), if_pos (fun x hx => by have := h x hx; omega)]
def lit3 : List Int := [3, 1, 2]
/-- The next bag in a store filled so far. -/
structure FillS (T : List Int) (n : Nat) : Prop where
  n1 : 1 ≤ n ∧ n ≤ 20
  len : 1 ≤ T.length ∧ T.length ≤ 20
  cnt : cntF T = n
  val : ∀ x ∈ T, 0 ≤ x ∧ x ≤ 11
theorem FillS.lim {T : List Int} {n : Nat} (h : FillS T n) : ∀ x ∈ T, 0 ≤ x ∧ x ≤ 1048576 := fun x hx => by have := h.val x hx; omega
theorem FillS.ok {T : List Int} {n m : Nat} {p : Nat → Bool} (h : FillS T n) (hm : m ≤ T.length) : ValL 20 (stP T n m p) := st_valid h.n1 (by omega) (by have := h.len; omega) hm h.lim
theorem FillS.put {T : List Int} {n i : Nat} (h : FillS T n) (hi : i < T.length) : putS 20 (stP T n i allP) (1 + (i : Int), T.getD i 0) = (stP T n (i + 1) allP, (asgF T).getD i 0, 0) := put_step h.cnt hi (by have := h.len; omega) (by have := h.len; omega) h.lim
theorem FillS.at {T : List Int} {n i : Nat} (h : FillS T n) (hi : i < T.length) : 0 ≤ T.getD i 0 ∧ T.getD i 0 ≤ 11 := h.val _ (by rw [List.getD_eq_getElem?_getD, List.getElem?_eq_getElem hi]; exact List.getElem_mem hi)

def bst : Option Nat → Int
  | none => -1
  | some b => b
theorem minS_no {T : List Int} {p : Nat → Bool} {k : Nat} (hp : p k = false) : minS T p (k + 1) = minS T p k := by
  rw [minS, hp]; cases minS T p k <;> simp
theorem minS_new {T : List Int} {p : Nat → Bool} {k : Nat} (hp : p k = true) (h : minS T p k = none) : minS T p (k + 1) = some k := by
  rw [minS, h]; simp [hp]
theorem minS_less {T : List Int} {p : Nat → Bool} {k b : Nat} (hp : p k = true) (h : minS T p k = some b) (hl : T.getD k 0 < T.getD b 0) : minS T p (k + 1) = some k := by
  rw [minS, h]; exact if_pos ⟨hp, hl⟩
theorem minS_more {T : List Int} {p : Nat → Bool} {k b : Nat} (h : minS T p k = some b) (hl : ¬ T.getD k 0 < T.getD b 0) : minS T p (k + 1) = some b := by
  rw [minS, h]; exact if_neg fun h => hl h.2
theorem minS_lt {T : List Int} {p : Nat → Bool} {k b : Nat} (h : minS T p k = some b) : b < k ∧ p b = true := by
  have := minS_spec (due := T) (p := p) k
  rw [h] at this
  exact ⟨this.1, this.2.1⟩

set_option maxHeartbeats 4000000 in
set_option maxRecDepth 100000 in
theorem free_any (hcount : ∀ (b : Nat) (due : List Int) (A : Option Addr) (c : Nat) (w : World), SmL due → due.length ≤ c → NumsIn b w A due → Calls Try.prog 14 #[.slice A due.length c] w fun e w' => e = .returned (.int .i64 (cntR due : Nat)) ∧ Below w.heap.size w w')
    (haw : ∀ w : World, Calls Try.prog 9 #[] w fun e w' => e = .returned (.bool true) ∧ Below w.heap.size w w') (PS : StoOk) (A0 : Option Addr) (n0 c0 : Nat) (w : World) (hc : n0 ≤ c0) (hA : IntsIn w.heap.size w A0 n0) :
    Calls Try.prog 7 #[.slice A0 n0 c0] w fun e w' => e = .returned (.bool true) ∧ Below w.heap.size w w' := by
  have HCount := hide hcount
  have HAw := hide haw
  have HQ := hide PS
  have HT := hide (times_any A0 n0 c0 w hc hA)
  clear hcount haw PS hA
  go_enter Try.func7, Try.ntmps7
  go_wp2_with fail
  refine (unhide HT).mono ?_
  rintro e w1 ⟨T0, A10, c10, hl, hr, rfl, hown, hb1, hsz⟩
  have HCap := hide (own_cap hown)
  have HD1 := hide (nums_own (n := T0.length) (b := w.heap.size) hown (.inl (Nat.lt_succ_self _)))
  have HR := hide hr
  have HB1 := hide hb1
  clear hown hb1 HT hr
  by_cases k1 : (20 : Int) < (T0.length : Int)
  · skip
    go_upto_region 4 with fail
    rw [show (Obj.cells #[.int .i64 3, .int .i64 1, .int .i64 2] 3) = (Obj.cells (lit3.map (Value.int .i64)).toArray 3) from rfl, show (Value.slice (some ⟨w1.heap.size, 0, none⟩) 3 3) = Value.slice (some ⟨w1.heap.size, 0, none⟩) lit3.length 3 from rfl]
    have HB1 := hide (onward (unhide HB1) (below_new (Below.refl w1.heap.size w1) (.cells (lit3.map (Value.int .i64)).toArray 3)))
    have HD1 := hide (lit_in (w := w1) (b := w.heap.size) lit3 (by omega))
    have HL := hide (show 1 ≤ lit3.length ∧ lit3.length ≤ 20 from by decide)
    have HR := hide (show ∀ x ∈ lit3, 0 ≤ x ∧ x ≤ 11 from by decide)
    have HCap := hide (show lit3.length ≤ 3 from by decide)
    obtain ⟨A1, hA⟩ : ∃ A1 : Option Addr, some ⟨w1.heap.size, 0, none⟩ = A1 := ⟨_, rfl⟩
    rw [hA] at HD1 ⊢
    obtain ⟨W1, hW⟩ : ∃ W1 : World, w1.alloc (.cells (lit3.map (Value.int .i64)).toArray 3) = W1 := ⟨_, rfl⟩
    rw [hW] at HB1 HD1 ⊢
    obtain ⟨T, hT⟩ : ∃ T : List Int, lit3 = T := ⟨_, rfl⟩
    rw [hT] at HD1 HL HR HCap ⊢
    have HB1 := hide (unhide HB1)
    have HD1 := hide (unhide HD1)
    have HL := hide (unhide HL)
    have HR := hide (unhide HR)
    have HCap := hide (unhide HCap)
    clear hA hW hT
    go_wp2_with fail
    have hl2 : T.length ≤ 20 := (unhide HL).2
    have hv := times_valF (by have := unhide HL; omega) (unhide HR)
    have hcn : cntR T = cntF T := if_pos hv
    have HSm := hide (show SmL T from ⟨by have := unhide HL; omega, small_wf (m := 11) (by omega) (unhide HR)⟩)
    have hp := cntF_pos T
    have hnl : cntF T ≤ T.length := asg_low (Nat.le_refl _)
    have HF := hide (show FillS T (cntF T) from ⟨⟨by have := unhide HL; omega, by have := unhide HL; omega⟩, unhide HL, rfl, unhide HR⟩)
    refine ((unhide HCount) w.heap.size T A1 3 _ (unhide HSm) (unhide HCap) (unhide HD1)).mono ?_
    rw [hcn]
    generalize cntF T = n at *
    rintro e w2 ⟨rfl, hb2⟩
    have HD2 := hide ((unhide HD1).keep hb2)
    have HB2 := hide (onward (unhide HB1) hb2)
    clear hb2 hcn HD1 HB1 hv hp hnl
    have n1 : ¬ (n : Int) < 1 := by have := (unhide HF).n1; omega
    have n2 : ¬ (20 : Int) < (n : Int) := by have := (unhide HF).n1; omega
    go_wp2_with fail
    refine ((unhide HQ).new n 20 w2).mono ?_
    rintro e w3 ⟨hb3, ⟨hbad, _⟩ | ⟨_, A3, c3, rfl, hst⟩⟩
    · exact absurd ⟨by omega, by omega, by decide, by decide⟩ hbad
    rw [Int.toNat_natCast]
    have HX := hide (FrS.start (onward (unhide HB2) hb3) ((unhide HD2).keep hb3) (hst _ (fun b hb => hb.elim)) (by rw [Int.toNat_natCast, List.length_replicate]))
    rw [Int.toNat_natCast, ← st_empty T n] at HX
    have HX := hide (unhide HX)
    clear hst hb3 HD2 HB2 HSm n1 n2
    go_wp2_with fail
    obtain ⟨W3, hW⟩ : ∃ W3 : World, w3.alloc (lnsO 20 A3 n c3) = W3 := ⟨_, rfl⟩
    rw [hW] at HX ⊢
    obtain ⟨g, hg⟩ : ∃ g, w3.heap.size = g := ⟨_, rfl⟩
    rw [hg] at HX ⊢
    have HX := hide (unhide HX)
    clear hW hg
    go_loopw [7] (fun s7 wr => ∃ (i : Nat) (A : Option Addr) (c : Nat), i ≤ T.length ∧ s7 = .int .i64 i ∧ Hid (FrS w g A1 T n (stP T n i allP) A c wr)) (fun s7 _ => T.length - (intOf s7).toNat)
    case atStart => exact ⟨0, A3, c3, Nat.zero_le _, rfl, HX⟩
    case round =>
      obtain ⟨i, A, c, hi, rfl, HS⟩ := hrel
      obtain ⟨wo, rfl⟩ : ∃ wo : World, wo = wr := ⟨_, rfl⟩
      by_cases hil : i < T.length
      · have il : (i : Int) < (T.length : Int) := by omega
        have i0 : (0 : Int) ≤ (i : Int) := by omega
        obtain ⟨gA, oA, rfl, gAn, hcs⟩ := (unhide HS).due (by omega)
        have hci := hcs i hil
        have hfit := (unhide HF).at hil
        have hput := (unhide HF).put hil
        have HD := hide (draws (Below.refl wo.heap.size wo) 1)
        have HS1 := hide ((unhide HS).below (Below.refl wo.heap.size wo).drew)
        have hbx := (unhide HS1).box
        have hwi : IntKind.i64.wrap (1 + (i : Int)) = 1 + (i : Int) := by rw [IntKind.wrap_i64]; have := (unhide HL); omega
        have HPut := hide (fun (S : Nat → Prop) (W : World) (h : StoI S W A (stP T n i allP) c) (ho : Old S W) => (unhide HQ).put 20 (stP T n i allP) (1 + (i : Int), T.getD i 0) A c S W ((unhide HF).ok hi) h ho (WalkArith.wf_i64 (by have := (unhide HL); omega)) (WalkArith.wf_i64 (by omega)))
        rw [hput, stP_len] at HPut
        have HPut := hide (unhide HPut)
        clear hput hcs gAn
        go_upto_region 13 with fail
        generalize hti : T.getD i 0 = ti at *
        have HTI := hide hti
        have HCI := hide hci
        have HSd := hide (show (fun Z : World => Z.heap[g]? = some (lnsO 20 A n c) ∧ Z.cell? ⟨gA, oA + i, none⟩ = some (.int .i64 ti)) wo.drew from ⟨hbx, hci⟩)
        clear hci hti hbx
        refine wp_region_held (S := fun Z => Z.heap[g]? = some (lnsO 20 A n c) ∧ Z.cell? ⟨gA, oA + i, none⟩ = some (.int .i64 ti)) (by kernel_rfl) ?_
        refine wpAnyH_take (i := 0) (v := lnsV 20 A n c) rfl (by kernel_rfl) (by kernel_rfl) (by kernel_rfl) (fun _ _ _ h => h) (yields_loadLn _ rfl rfl rfl (fun _ h => h.1)) (unhide HSd) ?_
        refine wpAnyH_take (i := 1) (v := .int .i64 (i : Int)) rfl (by kernel_rfl) (by kernel_rfl) (by kernel_rfl) (fun _ _ _ h => h) (Or.inl ⟨by rfl, by intro Z hs; go_simp <;> omega⟩) (unhide HSd) ?_
        refine wpAnyH_take (i := 2) (v := .int .i64 (1 + (i : Int))) rfl (by kernel_rfl) (by kernel_rfl) (by kernel_rfl) (fun _ _ _ h => h) (Or.inl ⟨by rfl, by intro Z hs; go_simp <;> omega⟩) (unhide HSd) ?_
        refine wpAnyH_take (i := 3) (v := .slice (some ⟨gA, oA, none⟩) T.length 3) rfl (by kernel_rfl) (by kernel_rfl) (by kernel_rfl) (fun _ _ _ h => h) (Or.inl ⟨by rfl, by intro Z hs; go_simp <;> omega⟩) (unhide HSd) ?_
        go_simp
        refine wpAnyH_take (i := 4) (v := .int .i64 (i : Int)) rfl (by kernel_rfl) (by kernel_rfl) (by kernel_rfl) (fun _ _ _ h => h) (Or.inl ⟨by rfl, by intro Z hs; go_simp <;> omega⟩) (unhide HSd) ?_
        refine wpAnyH_take (i := 5) (v := .pointer (some ⟨gA, oA + i, none⟩)) rfl (by kernel_rfl) (by kernel_rfl) (by kernel_rfl) (fun _ _ _ h => h) (Or.inl ⟨by rfl, by intro Z hs; go_simp <;> omega⟩) (unhide HSd) ?_
        refine wpAnyH_take (i := 6) (v := .int .i64 ti) rfl (by kernel_rfl) (by kernel_rfl) (by kernel_rfl) (fun _ _ _ h => h) (Or.inl ⟨by rfl, by intro Z hs; have h9 := hs.2; go_simp⟩) (unhide HSd) ?_
        refine wpAnyH_take (i := 7) (v := .agg #[.int .i64 (1 + (i : Int)), .int .i64 ti]) rfl (by kernel_rfl) (by kernel_rfl) (by kernel_rfl) (fun _ _ _ h => h) (Or.inl ⟨by rfl, by intro Z hs; go_simp <;> omega⟩) (unhide HSd) ?_
        go_simp
        refine wpAnyH_two (i := 8) (j := 13) (by kernel_rfl) rfl rfl (fun K hK => ?_) (fun K hK => ?_)
        case' refine_1 =>
          go_simp
          go_at_call 30
          have HC := hide ((unhide HPut) _ _ (unhide HS1).sto (unhide HS1).old)
          refine (unhide HC).mono ?_
          rintro e w4 ⟨hb4, ⟨h4, _⟩ | ⟨_, A4, c4, rfl, hs4⟩⟩
          · exact absurd rfl h4
          try go_simp
          have HS4 := hide ((unhide HS1).below hb4)
          have HSd := hide (show (fun Z : World => Z.heap[g]? = some (lnsO 20 A n c) ∧ Z.cell? ⟨gA, oA + i, none⟩ = some (.int .i64 ti)) w4 from ⟨(unhide HS4).box, kept hb4 (unhide HCI)⟩)
          have HN := hide (FrN.one (unhide HS4) hs4)
          have HCI := hide (kept hb4 (unhide HCI))
          refine hK _ _ ⟨(unhide HSd), ?_⟩
          clear hK K hb4 hs4
          refine wpAnyH_take (i := 9) (v := .tuple #[lnsV 20 A4 n c4, .int .i64 (((asgF T).getD i 0 : Nat) : Int), .int .i64 0]) rfl (by kernel_rfl) (by kernel_rfl) (by kernel_rfl) (fun _ _ _ h => h) (Or.inl ⟨by rfl, by intro Z hs; go_simp <;> omega⟩) (unhide HSd) ?_
          refine wpAnyH_take (i := 10) (v := lnsV 20 A4 n c4) rfl (by kernel_rfl) (by kernel_rfl) (by kernel_rfl) (fun _ _ _ h => h) (Or.inl ⟨by rfl, by intro Z hs; go_simp <;> omega⟩) (unhide HSd) ?_
          refine wpAnyH_take (i := 11) (v := .int .i64 (((asgF T).getD i 0 : Nat) : Int)) rfl (by kernel_rfl) (by kernel_rfl) (by kernel_rfl) (fun _ _ _ h => h) (Or.inl ⟨by rfl, by intro Z hs; go_simp <;> omega⟩) (unhide HSd) ?_
          refine wpAnyH_take (i := 12) (v := .int .i64 0) rfl (by kernel_rfl) (by kernel_rfl) (by kernel_rfl) (fun _ _ _ h => h) (Or.inl ⟨by rfl, by intro Z hs; go_simp <;> omega⟩) (unhide HSd) ?_
          go_simp
          refine wpAnyH_one (i := 13) (by kernel_rfl) rfl (fun K hK => ?_)
          go_simp
          have b5 := below_new (Below.refl w4.heap.size w4) (lnsO 0 none 0 0)
          have hy := heap_alloc_new w4 (lnsO 0 none 0 0)
          refine hK _ _ ⟨⟨heap_below (unhide HS4).box b5, kept b5 (unhide HCI)⟩, ?_⟩
          clear hK K
          refine wpAnyH_one (i := 14) (by kernel_rfl) rfl (fun K hK => ?_)
          rw [if_pos (by rfl)]
          refine wp_store_row 42 _ _ rfl w4.heap.size #[.int .i64 20, .slice A4 n c4] rfl rfl _ _ hy infoLn rfl (by simp [Value.oneCell']) ?_
          have HNw := unhide HN
          generalize (w4.alloc (lnsO 0 none 0 0)).setRow w4.heap.size #[.int .i64 20, .slice A4 n c4] = W5 at HNw ⊢
          generalize w4.heap.size = y at HNw ⊢
          have HN := hide HNw
          have HSd := hide (show (fun Z : World => Z.heap[g]? = some (lnsO 20 A n c) ∧ Z.cell? ⟨gA, oA + i, none⟩ = some (.int .i64 ti)) W5 from ⟨HNw.st.box, by
            obtain ⟨q, off, e1, _, h1⟩ := HNw.st.due (by omega)
            injection e1 with e1; injection e1 with e2 e3; subst e2; subst e3
            rw [h1 i hil, unhide HTI]⟩)
          refine hK _ _ ⟨(unhide HSd), ?_⟩
          clear hK K hy HNw
          refine wpAnyH_take (i := 15) (v := .int .i64 (((asgF T).getD i 0 : Nat) : Int)) rfl (by kernel_rfl) (by kernel_rfl) (by kernel_rfl) (fun _ _ _ h => h) (Or.inl ⟨by rfl, by intro Z hs; go_simp <;> omega⟩) (unhide HSd) ?_
          refine wpAnyH_take (i := 16) (v := .int .i64 0) rfl (by kernel_rfl) (by kernel_rfl) (by kernel_rfl) (fun _ _ _ h => h) (Or.inl ⟨by rfl, by intro Z hs; go_simp <;> omega⟩) (unhide HSd) ?_
          refine wpAnyH_done (by kernel_rfl) ?_ _
          go_simp
          go_upto_region 16 with fail
          go_wp2_with (first
            | (refine wpList_loadLn (unhide HN).yb rfl _ rfl rfl ?_)
            | (refine wpList_storeLn (unhide HN).st.box rfl _ _ rfl rfl rfl ?_))
          go_roundw
          case rel => exact ⟨i + 1, A4, c4, by omega, by go_num, hide ((unhide HN).take (stP_len _ _ _ _))⟩
          case measure => simp [intOf]; omega
        case' refine_2 =>
          go_simp
          obtain ⟨ht1, ht2⟩ := (unhide HS1).two
          have HT1 := hide ht1
          have HT2 := hide ht2
          have b5 := below_new (Below.refl wo.drew.heap.size wo.drew) (lnsO 0 none 0 0)
          have HY := hide (heap_alloc_new wo.drew (lnsO 0 none 0 0))
          have HSd := hide (show (fun Z : World => Z.heap[g]? = some (lnsO 20 A n c) ∧ Z.cell? ⟨gA, oA + i, none⟩ = some (.int .i64 ti)) (wo.drew.alloc (lnsO 0 none 0 0)) from ⟨heap_below (unhide HS1).box b5, kept b5 (unhide HCI)⟩)
          refine hK _ _ ⟨(unhide HSd), ?_⟩
          clear hK K ht1 ht2 b5
          refine wpAnyH_one (i := 8) (by kernel_rfl) rfl (fun K hK => ?_)
          go_simp
          go_at_call 30
          have HC := hide ((unhide HPut) _ _ (unhide HT1) (unhide HT2))
          refine (unhide HC).mono ?_
          rintro e w4 ⟨hb4, ⟨h4, _⟩ | ⟨_, A4, c4, rfl, hs4⟩⟩
          · exact absurd rfl h4
          try go_simp
          have HN := hide (FrN.two (unhide HS1) hb4 hs4)
          have hy := heap_below (unhide HY) hb4
          have HSd := hide (show (fun Z : World => Z.heap[g]? = some (lnsO 20 A n c) ∧ Z.cell? ⟨gA, oA + i, none⟩ = some (.int .i64 ti)) w4 from ⟨heap_below (unhide HSd).1 hb4, kept hb4 (unhide HSd).2⟩)
          refine hK _ _ ⟨(unhide HSd), ?_⟩
          clear hK K hb4 hs4
          refine wpAnyH_take (i := 9) (v := .tuple #[lnsV 20 A4 n c4, .int .i64 (((asgF T).getD i 0 : Nat) : Int), .int .i64 0]) rfl (by kernel_rfl) (by kernel_rfl) (by kernel_rfl) (fun _ _ _ h => h) (Or.inl ⟨by rfl, by intro Z hs; go_simp <;> omega⟩) (unhide HSd) ?_
          refine wpAnyH_take (i := 10) (v := lnsV 20 A4 n c4) rfl (by kernel_rfl) (by kernel_rfl) (by kernel_rfl) (fun _ _ _ h => h) (Or.inl ⟨by rfl, by intro Z hs; go_simp <;> omega⟩) (unhide HSd) ?_
          refine wpAnyH_take (i := 11) (v := .int .i64 (((asgF T).getD i 0 : Nat) : Int)) rfl (by kernel_rfl) (by kernel_rfl) (by kernel_rfl) (fun _ _ _ h => h) (Or.inl ⟨by rfl, by intro Z hs; go_simp <;> omega⟩) (unhide HSd) ?_
          refine wpAnyH_take (i := 12) (v := .int .i64 0) rfl (by kernel_rfl) (by kernel_rfl) (by kernel_rfl) (fun _ _ _ h => h) (Or.inl ⟨by rfl, by intro Z hs; go_simp <;> omega⟩) (unhide HSd) ?_
          go_simp
          refine wpAnyH_one (i := 14) (by kernel_rfl) rfl (fun K hK => ?_)
          rw [if_pos (by rfl)]
          refine wp_store_row 42 _ _ rfl wo.drew.heap.size #[.int .i64 20, .slice A4 n c4] rfl rfl _ _ hy infoLn rfl (by simp [Value.oneCell']) ?_
          have HNw := unhide HN
          generalize w4.setRow wo.drew.heap.size #[.int .i64 20, .slice A4 n c4] = W5 at HNw ⊢
          generalize hyy : wo.drew.heap.size = y at HNw ⊢
          rw [show wo.heap.size = y from hyy]
          have HN := hide HNw
          have HSd := hide (show (fun Z : World => Z.heap[g]? = some (lnsO 20 A n c) ∧ Z.cell? ⟨gA, oA + i, none⟩ = some (.int .i64 ti)) W5 from ⟨HNw.st.box, by
            obtain ⟨q, off, e1, _, h1⟩ := HNw.st.due (by omega)
            injection e1 with e1; injection e1 with e2 e3; subst e2; subst e3
            rw [h1 i hil, unhide HTI]⟩)
          refine hK _ _ ⟨(unhide HSd), ?_⟩
          clear hK K hy HNw
          refine wpAnyH_take (i := 15) (v := .int .i64 (((asgF T).getD i 0 : Nat) : Int)) rfl (by kernel_rfl) (by kernel_rfl) (by kernel_rfl) (fun _ _ _ h => h) (Or.inl ⟨by rfl, by intro Z hs; go_simp <;> omega⟩) (unhide HSd) ?_
          refine wpAnyH_take (i := 16) (v := .int .i64 0) rfl (by kernel_rfl) (by kernel_rfl) (by kernel_rfl) (fun _ _ _ h => h) (Or.inl ⟨by rfl, by intro Z hs; go_simp <;> omega⟩) (unhide HSd) ?_
          refine wpAnyH_done (by kernel_rfl) ?_ _
          go_simp
          go_upto_region 16 with fail
          go_wp2_with (first
            | (refine wpList_loadLn (unhide HN).yb rfl _ rfl rfl ?_)
            | (refine wpList_storeLn (unhide HN).st.box rfl _ _ rfl rfl rfl ?_))
          go_roundw
          case rel => exact ⟨i + 1, A4, c4, by omega, by go_num, hide ((unhide HN).take (stP_len _ _ _ _))⟩
          case measure => simp [intOf]; omega
      · have il : ¬ (i : Int) < (T.length : Int) := by omega
        obtain rfl : i = T.length := by omega
        have hmk := smakeB T.length (by have := unhide HL; omega)
        have HT := hide (FrT.start (unhide HS))
        go_upto_region 18 with fail
        obtain ⟨Wd, hWd⟩ : ∃ Wd : World, wo.alloc (.cells (madeCells #[.bool false] T.length) 4) = Wd := ⟨_, rfl⟩
        rw [hWd] at HT ⊢
        obtain ⟨h, hh⟩ : ∃ h, wo.heap.size = h := ⟨_, rfl⟩
        rw [hh] at HT ⊢
        have HT := hide (unhide HT)
        clear hWd hh HS hmk
        go_wp2_with fail
        go_loopw [12] (fun s12 wr => ∃ (m : Nat) (p : Nat → Bool) (A : Option Addr) (c : Nat), m ≤ T.length ∧ s12 = .int .i64 m ∧ Hid (((List.range T.length).filter p).length = T.length - m) ∧ Hid (FrT w g h A1 T n p (stP T n T.length p) A c wr)) (fun s12 _ => T.length - (intOf s12).toNat)
        case atStart => exact ⟨0, allP, A, c, Nat.zero_le _, rfl, hide (by rw [show (List.range T.length).filter allP = List.range T.length from List.filter_eq_self.mpr fun _ _ => rfl, List.length_range]; rfl), HT⟩
        case round =>
          clear HT
          obtain ⟨m, p, A, c, hm, rfl, HCn, HS⟩ := hrel
          obtain ⟨wm, rfl⟩ : ∃ wm : World, wm = wr := ⟨_, rfl⟩
          by_cases hml : m < T.length
          · have ml : (m : Int) < (T.length : Int) := by omega
            go_wp2_with fail
            go_loopw [13, 14] (fun s13 s14 wr => ∃ k : Nat, k ≤ T.length ∧ s13 = .int .i64 (bst (minS T p k)) ∧ s14 = .int .i64 k ∧ Hid (Below wm.heap.size wm wr)) (fun _ s14 _ => T.length - (intOf s14).toNat)
            case atStart => exact ⟨0, Nat.zero_le _, rfl, rfl, hide (Below.refl _ _)⟩
            case round =>
              obtain ⟨k, hk, rfl, rfl, HBk⟩ := hrel
              obtain ⟨wk, rfl⟩ : ∃ wk : World, wk = wr := ⟨_, rfl⟩
              by_cases hkl : k < T.length
              · have kl : (k : Int) < (T.length : Int) := by omega
                have k0 : (0 : Int) ≤ (k : Int) := by omega
                have hd := (unhide HS).below (unhide HBk)
                obtain ⟨gA, oA, rfl, _, hcs⟩ := hd.due (by omega)
                have ck := hcs k hkl
                have cd : wk.cell? ⟨h, k, none⟩ = some (.bool (!p k)) := by rw [Lib.cell_of_heap hd.done, doneA_at hkl]
                clear hd
                cases hpk : p k with
                | false =>
                  rw [hpk] at cd
                  have cd : wk.cell? ⟨h, k, none⟩ = some (.bool true) := cd
                  have HM := hide (minS_no (T := T) hpk)
                  clear hcs ck hpk
                  go_wp2_with fail
                  go_quiet (fail)
                  go_wp2
                  go_roundw
                  case rel => exact ⟨k + 1, by omega, by rw [unhide HM], by go_num, hide (draws (unhide HBk) _)⟩
                  case measure => simp [intOf]; omega
                | true =>
                  rw [hpk] at cd
                  have cd : wk.cell? ⟨h, k, none⟩ = some (.bool false) := cd
                  cases hmn : minS T p k with
                  | none =>
                    have HM := hide (minS_new hpk hmn)
                    clear hcs ck hpk
                    simp only [bst]
                    go_wp2_with fail
                    go_quiet (fail)
                    go_wp2
                    go_roundw
                    case rel => exact ⟨k + 1, by omega, by rw [unhide HM], by go_num, hide (draws (unhide HBk) _)⟩
                    case measure => simp [intOf]; omega
                  | some b =>
                    have hbk := (minS_lt hmn).1
                    have cb := hcs b (by omega)
                    have b0 : ¬ (b : Int) < 0 := by omega
                    have b1 : (0 : Int) ≤ (b : Int) := by omega
                    have b2 : (b : Int) < (T.length : Int) := by omega
                    simp only [bst]
                    by_cases hlt : T.getD k 0 < T.getD b 0
                    · have HM := hide (minS_less hpk hmn hlt)
                      clear hcs hpk hmn
                      generalize T.getD k 0 = tk at *
                      generalize T.getD b 0 = tb at *
                      go_wp2_with fail
                      go_quiet (fail)
                      go_wp2
                      go_roundw
                      case rel => exact ⟨k + 1, by omega, by rw [unhide HM], by go_num, hide (draws (unhide HBk) _)⟩
                      case measure => simp [intOf]; omega
                    · have HM := hide (minS_more (p := p) hmn hlt)
                      clear hcs hpk hmn
                      generalize T.getD k 0 = tk at *
                      generalize T.getD b 0 = tb at *
                      go_wp2_with fail
                      go_quiet (fail)
                      go_wp2
                      go_roundw
                      case rel => exact ⟨k + 1, by omega, by rw [unhide HM], by go_num, hide (draws (unhide HBk) _)⟩
                      case measure => simp [intOf]; omega
              · have kl : ¬ (k : Int) < (T.length : Int) := by omega
                obtain rfl : k = T.length := by omega
                obtain ⟨b, hb⟩ := minS_some (due := T) (p := p) (m := T.length) (by rw [unhide HCn]; omega)
                obtain ⟨hbl, hbp⟩ := minS_lt hb
                have htk := take_step (unhide HF).cnt hb
                rw [hb]
                simp only [bst]
                have b1 : (0 : Int) ≤ (b : Int) := by omega
                have b2 : (b : Int) < (T.length : Int) := by omega
                have hwb : IntKind.i64.wrap (1 + (b : Int)) = 1 + (b : Int) := by rw [IntKind.wrap_i64]; have := (unhide HL); omega
                have HS2 := hide ((unhide HS).below (unhide HBk))
                have HTk := hide ((unhide HQ).take 20 (stP T n T.length p) (1 + (b : Int)) A c _ wk ((unhide HF).ok (Nat.le_refl _)) (unhide HS2).sto (unhide HS2).old (WalkArith.wf_i64 (by have := (unhide HL); omega)))
                rw [htk, stP_len] at HTk
                have HTk := hide (unhide HTk)
                have HCn2 := hide (show ((List.range T.length).filter (butP p b)).length = T.length - (m + 1) from by
                  have h1 := less_filter hbl hbp
                  have h2 := unhide HCn
                  show ((List.range T.length).filter fun a => p a && !(a == b)).length = _
                  omega)
                clear htk hb
                go_wp2_with (first | (refine wpList_loadLn (unhide HS2).box rfl _ rfl rfl ?_))
                refine (unhide HTk).mono ?_
                rintro e w6 ⟨hb6, ⟨h6, _⟩ | ⟨_, A6, c6, B6, d6, rfl, _, hs6, _⟩⟩
                · exact absurd rfl h6
                have HS6 := hide ((unhide HS2).below hb6)
                have HN6 := hide hs6
                clear hb6 hs6
                go_upto_region 28 with fail
                have b7 := below_new (Below.refl w6.heap.size w6) (lnsO 20 A6 n c6)
                have HS7 := hide ((unhide HS6).below b7)
                have HY7 := hide (heap_alloc_new w6 (lnsO 20 A6 n c6))
                have HN7 := hide ((unhide HN6).below b7)
                have HYh := hide (show w6.heap.size ≠ h from by have := (unhide HS6).lth; omega)
                obtain ⟨W7, hW7⟩ : ∃ W7 : World, w6.alloc (lnsO 20 A6 n c6) = W7 := ⟨_, rfl⟩
                rw [hW7] at HS7 HY7 HN7 ⊢
                obtain ⟨y, hy⟩ : ∃ y, w6.heap.size = y := ⟨_, rfl⟩
                rw [hy] at HY7 HYh ⊢
                have HS7 := hide (unhide HS7)
                have HY7 := hide (unhide HY7)
                have HN7 := hide (unhide HN7)
                have HYh := hide (unhide HYh)
                clear b7 hW7 hy HS6 HN6
                have hdn := (unhide HS7).done
                have cd : W7.cell? ⟨h, b, none⟩ = some (.bool (!p b)) := by rw [Lib.cell_of_heap hdn, doneA_at hbl]
                have fd := frozen_of_row W7 h b _ _ hdn
                clear hdn
                go_upto_region 31 with fail
                have HS8 := hide ((unhide HS7).mark b)
                have HY8 := hide (heap_setOther (q := h) (i := b) (unhide HY7) (unhide HYh) (.bool true))
                have HN8 := hide ((unhide HN7).keep (KepS.grown (grown_set W7 h b (.bool true)) (.inr rfl)))
                obtain ⟨W8, hW8⟩ : ∃ W8 : World, W7.setCell ⟨h, b, none⟩ (.bool true) = W8 := ⟨_, rfl⟩
                rw [hW8] at HS8 HY8 HN8 ⊢
                have HS8 := hide (unhide HS8)
                have HY8 := hide (unhide HY8)
                have HN8 := hide (unhide HN8)
                clear hW8 cd fd
                go_wp2_with (first
                  | (refine wpList_loadLn (unhide HY8) rfl _ rfl rfl ?_)
                  | (refine wpList_storeLn (unhide HS8).box rfl _ _ rfl rfl rfl ?_))
                go_roundw
                case rel => exact ⟨m + 1, butP p b, A6, c6, by omega, by go_num, HCn2, hide ((unhide HS8).put (unhide HN8) (stP_len _ _ _ _))⟩
                case measure => simp [intOf]; omega
          · have ml : ¬ (m : Int) < (T.length : Int) := by omega
            go_wp2_with (go_at_call 9; refine ((unhide HAw) _).mono ?_; rintro e wz ⟨rfl, hbz⟩; have HBZ := hide (onward (unhide HS).bel hbz); clear hbz)
            go_ret
            exact ⟨rfl, unhide HBZ⟩
  by_cases k2 : T0.length = 0
  · have q2 : ((T0.length : Int) == 0) = true := by rw [beq_iff_eq]; omega
    go_upto_region 4 with fail
    rw [show (Obj.cells #[.int .i64 3, .int .i64 1, .int .i64 2] 3) = (Obj.cells (lit3.map (Value.int .i64)).toArray 3) from rfl, show (Value.slice (some ⟨w1.heap.size, 0, none⟩) 3 3) = Value.slice (some ⟨w1.heap.size, 0, none⟩) lit3.length 3 from rfl]
    have HB1 := hide (onward (unhide HB1) (below_new (Below.refl w1.heap.size w1) (.cells (lit3.map (Value.int .i64)).toArray 3)))
    have HD1 := hide (lit_in (w := w1) (b := w.heap.size) lit3 (by omega))
    have HL := hide (show 1 ≤ lit3.length ∧ lit3.length ≤ 20 from by decide)
    have HR := hide (show ∀ x ∈ lit3, 0 ≤ x ∧ x ≤ 11 from by decide)
    have HCap := hide (show lit3.length ≤ 3 from by decide)
    obtain ⟨A1, hA⟩ : ∃ A1 : Option Addr, some ⟨w1.heap.size, 0, none⟩ = A1 := ⟨_, rfl⟩
    rw [hA] at HD1 ⊢
    obtain ⟨W1, hW⟩ : ∃ W1 : World, w1.alloc (.cells (lit3.map (Value.int .i64)).toArray 3) = W1 := ⟨_, rfl⟩
    rw [hW] at HB1 HD1 ⊢
    obtain ⟨T, hT⟩ : ∃ T : List Int, lit3 = T := ⟨_, rfl⟩
    rw [hT] at HD1 HL HR HCap ⊢
    have HB1 := hide (unhide HB1)
    have HD1 := hide (unhide HD1)
    have HL := hide (unhide HL)
    have HR := hide (unhide HR)
    have HCap := hide (unhide HCap)
    clear hA hW hT
    go_wp2_with fail
    have hl2 : T.length ≤ 20 := (unhide HL).2
    have hv := times_valF (by have := unhide HL; omega) (unhide HR)
    have hcn : cntR T = cntF T := if_pos hv
    have HSm := hide (show SmL T from ⟨by have := unhide HL; omega, small_wf (m := 11) (by omega) (unhide HR)⟩)
    have hp := cntF_pos T
    have hnl : cntF T ≤ T.length := asg_low (Nat.le_refl _)
    have HF := hide (show FillS T (cntF T) from ⟨⟨by have := unhide HL; omega, by have := unhide HL; omega⟩, unhide HL, rfl, unhide HR⟩)
    refine ((unhide HCount) w.heap.size T A1 3 _ (unhide HSm) (unhide HCap) (unhide HD1)).mono ?_
    rw [hcn]
    generalize cntF T = n at *
    rintro e w2 ⟨rfl, hb2⟩
    have HD2 := hide ((unhide HD1).keep hb2)
    have HB2 := hide (onward (unhide HB1) hb2)
    clear hb2 hcn HD1 HB1 hv hp hnl
    have n1 : ¬ (n : Int) < 1 := by have := (unhide HF).n1; omega
    have n2 : ¬ (20 : Int) < (n : Int) := by have := (unhide HF).n1; omega
    go_wp2_with fail
    refine ((unhide HQ).new n 20 w2).mono ?_
    rintro e w3 ⟨hb3, ⟨hbad, _⟩ | ⟨_, A3, c3, rfl, hst⟩⟩
    · exact absurd ⟨by omega, by omega, by decide, by decide⟩ hbad
    rw [Int.toNat_natCast]
    have HX := hide (FrS.start (onward (unhide HB2) hb3) ((unhide HD2).keep hb3) (hst _ (fun b hb => hb.elim)) (by rw [Int.toNat_natCast, List.length_replicate]))
    rw [Int.toNat_natCast, ← st_empty T n] at HX
    have HX := hide (unhide HX)
    clear hst hb3 HD2 HB2 HSm n1 n2
    go_wp2_with fail
    obtain ⟨W3, hW⟩ : ∃ W3 : World, w3.alloc (lnsO 20 A3 n c3) = W3 := ⟨_, rfl⟩
    rw [hW] at HX ⊢
    obtain ⟨g, hg⟩ : ∃ g, w3.heap.size = g := ⟨_, rfl⟩
    rw [hg] at HX ⊢
    have HX := hide (unhide HX)
    clear hW hg
    go_loopw [7] (fun s7 wr => ∃ (i : Nat) (A : Option Addr) (c : Nat), i ≤ T.length ∧ s7 = .int .i64 i ∧ Hid (FrS w g A1 T n (stP T n i allP) A c wr)) (fun s7 _ => T.length - (intOf s7).toNat)
    case atStart => exact ⟨0, A3, c3, Nat.zero_le _, rfl, HX⟩
    case round =>
      obtain ⟨i, A, c, hi, rfl, HS⟩ := hrel
      obtain ⟨wo, rfl⟩ : ∃ wo : World, wo = wr := ⟨_, rfl⟩
      by_cases hil : i < T.length
      · have il : (i : Int) < (T.length : Int) := by omega
        have i0 : (0 : Int) ≤ (i : Int) := by omega
        obtain ⟨gA, oA, rfl, gAn, hcs⟩ := (unhide HS).due (by omega)
        have hci := hcs i hil
        have hfit := (unhide HF).at hil
        have hput := (unhide HF).put hil
        have HD := hide (draws (Below.refl wo.heap.size wo) 1)
        have HS1 := hide ((unhide HS).below (Below.refl wo.heap.size wo).drew)
        have hbx := (unhide HS1).box
        have hwi : IntKind.i64.wrap (1 + (i : Int)) = 1 + (i : Int) := by rw [IntKind.wrap_i64]; have := (unhide HL); omega
        have HPut := hide (fun (S : Nat → Prop) (W : World) (h : StoI S W A (stP T n i allP) c) (ho : Old S W) => (unhide HQ).put 20 (stP T n i allP) (1 + (i : Int), T.getD i 0) A c S W ((unhide HF).ok hi) h ho (WalkArith.wf_i64 (by have := (unhide HL); omega)) (WalkArith.wf_i64 (by omega)))
        rw [hput, stP_len] at HPut
        have HPut := hide (unhide HPut)
        clear hput hcs gAn
        go_upto_region 13 with fail
        generalize hti : T.getD i 0 = ti at *
        have HTI := hide hti
        have HCI := hide hci
        have HSd := hide (show (fun Z : World => Z.heap[g]? = some (lnsO 20 A n c) ∧ Z.cell? ⟨gA, oA + i, none⟩ = some (.int .i64 ti)) wo.drew from ⟨hbx, hci⟩)
        clear hci hti hbx
        refine wp_region_held (S := fun Z => Z.heap[g]? = some (lnsO 20 A n c) ∧ Z.cell? ⟨gA, oA + i, none⟩ = some (.int .i64 ti)) (by kernel_rfl) ?_
        refine wpAnyH_take (i := 0) (v := lnsV 20 A n c) rfl (by kernel_rfl) (by kernel_rfl) (by kernel_rfl) (fun _ _ _ h => h) (yields_loadLn _ rfl rfl rfl (fun _ h => h.1)) (unhide HSd) ?_
        refine wpAnyH_take (i := 1) (v := .int .i64 (i : Int)) rfl (by kernel_rfl) (by kernel_rfl) (by kernel_rfl) (fun _ _ _ h => h) (Or.inl ⟨by rfl, by intro Z hs; go_simp <;> omega⟩) (unhide HSd) ?_
        refine wpAnyH_take (i := 2) (v := .int .i64 (1 + (i : Int))) rfl (by kernel_rfl) (by kernel_rfl) (by kernel_rfl) (fun _ _ _ h => h) (Or.inl ⟨by rfl, by intro Z hs; go_simp <;> omega⟩) (unhide HSd) ?_
        refine wpAnyH_take (i := 3) (v := .slice (some ⟨gA, oA, none⟩) T.length 3) rfl (by kernel_rfl) (by kernel_rfl) (by kernel_rfl) (fun _ _ _ h => h) (Or.inl ⟨by rfl, by intro Z hs; go_simp <;> omega⟩) (unhide HSd) ?_
        go_simp
        refine wpAnyH_take (i := 4) (v := .int .i64 (i : Int)) rfl (by kernel_rfl) (by kernel_rfl) (by kernel_rfl) (fun _ _ _ h => h) (Or.inl ⟨by rfl, by intro Z hs; go_simp <;> omega⟩) (unhide HSd) ?_
        refine wpAnyH_take (i := 5) (v := .pointer (some ⟨gA, oA + i, none⟩)) rfl (by kernel_rfl) (by kernel_rfl) (by kernel_rfl) (fun _ _ _ h => h) (Or.inl ⟨by rfl, by intro Z hs; go_simp <;> omega⟩) (unhide HSd) ?_
        refine wpAnyH_take (i := 6) (v := .int .i64 ti) rfl (by kernel_rfl) (by kernel_rfl) (by kernel_rfl) (fun _ _ _ h => h) (Or.inl ⟨by rfl, by intro Z hs; have h9 := hs.2; go_simp⟩) (unhide HSd) ?_
        refine wpAnyH_take (i := 7) (v := .agg #[.int .i64 (1 + (i : Int)), .int .i64 ti]) rfl (by kernel_rfl) (by kernel_rfl) (by kernel_rfl) (fun _ _ _ h => h) (Or.inl ⟨by rfl, by intro Z hs; go_simp <;> omega⟩) (unhide HSd) ?_
        go_simp
        refine wpAnyH_two (i := 8) (j := 13) (by kernel_rfl) rfl rfl (fun K hK => ?_) (fun K hK => ?_)
        case' refine_1 =>
          go_simp
          go_at_call 30
          have HC := hide ((unhide HPut) _ _ (unhide HS1).sto (unhide HS1).old)
          refine (unhide HC).mono ?_
          rintro e w4 ⟨hb4, ⟨h4, _⟩ | ⟨_, A4, c4, rfl, hs4⟩⟩
          · exact absurd rfl h4
          try go_simp
          have HS4 := hide ((unhide HS1).below hb4)
          have HSd := hide (show (fun Z : World => Z.heap[g]? = some (lnsO 20 A n c) ∧ Z.cell? ⟨gA, oA + i, none⟩ = some (.int .i64 ti)) w4 from ⟨(unhide HS4).box, kept hb4 (unhide HCI)⟩)
          have HN := hide (FrN.one (unhide HS4) hs4)
          have HCI := hide (kept hb4 (unhide HCI))
          refine hK _ _ ⟨(unhide HSd), ?_⟩
          clear hK K hb4 hs4
          refine wpAnyH_take (i := 9) (v := .tuple #[lnsV 20 A4 n c4, .int .i64 (((asgF T).getD i 0 : Nat) : Int), .int .i64 0]) rfl (by kernel_rfl) (by kernel_rfl) (by kernel_rfl) (fun _ _ _ h => h) (Or.inl ⟨by rfl, by intro Z hs; go_simp <;> omega⟩) (unhide HSd) ?_
          refine wpAnyH_take (i := 10) (v := lnsV 20 A4 n c4) rfl (by kernel_rfl) (by kernel_rfl) (by kernel_rfl) (fun _ _ _ h => h) (Or.inl ⟨by rfl, by intro Z hs; go_simp <;> omega⟩) (unhide HSd) ?_
          refine wpAnyH_take (i := 11) (v := .int .i64 (((asgF T).getD i 0 : Nat) : Int)) rfl (by kernel_rfl) (by kernel_rfl) (by kernel_rfl) (fun _ _ _ h => h) (Or.inl ⟨by rfl, by intro Z hs; go_simp <;> omega⟩) (unhide HSd) ?_
          refine wpAnyH_take (i := 12) (v := .int .i64 0) rfl (by kernel_rfl) (by kernel_rfl) (by kernel_rfl) (fun _ _ _ h => h) (Or.inl ⟨by rfl, by intro Z hs; go_simp <;> omega⟩) (unhide HSd) ?_
          go_simp
          refine wpAnyH_one (i := 13) (by kernel_rfl) rfl (fun K hK => ?_)
          go_simp
          have b5 := below_new (Below.refl w4.heap.size w4) (lnsO 0 none 0 0)
          have hy := heap_alloc_new w4 (lnsO 0 none 0 0)
          refine hK _ _ ⟨⟨heap_below (unhide HS4).box b5, kept b5 (unhide HCI)⟩, ?_⟩
          clear hK K
          refine wpAnyH_one (i := 14) (by kernel_rfl) rfl (fun K hK => ?_)
          rw [if_pos (by rfl)]
          refine wp_store_row 42 _ _ rfl w4.heap.size #[.int .i64 20, .slice A4 n c4] rfl rfl _ _ hy infoLn rfl (by simp [Value.oneCell']) ?_
          have HNw := unhide HN
          generalize (w4.alloc (lnsO 0 none 0 0)).setRow w4.heap.size #[.int .i64 20, .slice A4 n c4] = W5 at HNw ⊢
          generalize w4.heap.size = y at HNw ⊢
          have HN := hide HNw
          have HSd := hide (show (fun Z : World => Z.heap[g]? = some (lnsO 20 A n c) ∧ Z.cell? ⟨gA, oA + i, none⟩ = some (.int .i64 ti)) W5 from ⟨HNw.st.box, by
            obtain ⟨q, off, e1, _, h1⟩ := HNw.st.due (by omega)
            injection e1 with e1; injection e1 with e2 e3; subst e2; subst e3
            rw [h1 i hil, unhide HTI]⟩)
          refine hK _ _ ⟨(unhide HSd), ?_⟩
          clear hK K hy HNw
          refine wpAnyH_take (i := 15) (v := .int .i64 (((asgF T).getD i 0 : Nat) : Int)) rfl (by kernel_rfl) (by kernel_rfl) (by kernel_rfl) (fun _ _ _ h => h) (Or.inl ⟨by rfl, by intro Z hs; go_simp <;> omega⟩) (unhide HSd) ?_
          refine wpAnyH_take (i := 16) (v := .int .i64 0) rfl (by kernel_rfl) (by kernel_rfl) (by kernel_rfl) (fun _ _ _ h => h) (Or.inl ⟨by rfl, by intro Z hs; go_simp <;> omega⟩) (unhide HSd) ?_
          refine wpAnyH_done (by kernel_rfl) ?_ _
          go_simp
          go_upto_region 16 with fail
          go_wp2_with (first
            | (refine wpList_loadLn (unhide HN).yb rfl _ rfl rfl ?_)
            | (refine wpList_storeLn (unhide HN).st.box rfl _ _ rfl rfl rfl ?_))
          go_roundw
          case rel => exact ⟨i + 1, A4, c4, by omega, by go_num, hide ((unhide HN).take (stP_len _ _ _ _))⟩
          case measure => simp [intOf]; omega
        case' refine_2 =>
          go_simp
          obtain ⟨ht1, ht2⟩ := (unhide HS1).two
          have HT1 := hide ht1
          have HT2 := hide ht2
          have b5 := below_new (Below.refl wo.drew.heap.size wo.drew) (lnsO 0 none 0 0)
          have HY := hide (heap_alloc_new wo.drew (lnsO 0 none 0 0))
          have HSd := hide (show (fun Z : World => Z.heap[g]? = some (lnsO 20 A n c) ∧ Z.cell? ⟨gA, oA + i, none⟩ = some (.int .i64 ti)) (wo.drew.alloc (lnsO 0 none 0 0)) from ⟨heap_below (unhide HS1).box b5, kept b5 (unhide HCI)⟩)
          refine hK _ _ ⟨(unhide HSd), ?_⟩
          clear hK K ht1 ht2 b5
          refine wpAnyH_one (i := 8) (by kernel_rfl) rfl (fun K hK => ?_)
          go_simp
          go_at_call 30
          have HC := hide ((unhide HPut) _ _ (unhide HT1) (unhide HT2))
          refine (unhide HC).mono ?_
          rintro e w4 ⟨hb4, ⟨h4, _⟩ | ⟨_, A4, c4, rfl, hs4⟩⟩
          · exact absurd rfl h4
          try go_simp
          have HN := hide (FrN.two (unhide HS1) hb4 hs4)
          have hy := heap_below (unhide HY) hb4
          have HSd := hide (show (fun Z : World => Z.heap[g]? = some (lnsO 20 A n c) ∧ Z.cell? ⟨gA, oA + i, none⟩ = some (.int .i64 ti)) w4 from ⟨heap_below (unhide HSd).1 hb4, kept hb4 (unhide HSd).2⟩)
          refine hK _ _ ⟨(unhide HSd), ?_⟩
          clear hK K hb4 hs4
          refine wpAnyH_take (i := 9) (v := .tuple #[lnsV 20 A4 n c4, .int .i64 (((asgF T).getD i 0 : Nat) : Int), .int .i64 0]) rfl (by kernel_rfl) (by kernel_rfl) (by kernel_rfl) (fun _ _ _ h => h) (Or.inl ⟨by rfl, by intro Z hs; go_simp <;> omega⟩) (unhide HSd) ?_
          refine wpAnyH_take (i := 10) (v := lnsV 20 A4 n c4) rfl (by kernel_rfl) (by kernel_rfl) (by kernel_rfl) (fun _ _ _ h => h) (Or.inl ⟨by rfl, by intro Z hs; go_simp <;> omega⟩) (unhide HSd) ?_
          refine wpAnyH_take (i := 11) (v := .int .i64 (((asgF T).getD i 0 : Nat) : Int)) rfl (by kernel_rfl) (by kernel_rfl) (by kernel_rfl) (fun _ _ _ h => h) (Or.inl ⟨by rfl, by intro Z hs; go_simp <;> omega⟩) (unhide HSd) ?_
          refine wpAnyH_take (i := 12) (v := .int .i64 0) rfl (by kernel_rfl) (by kernel_rfl) (by kernel_rfl) (fun _ _ _ h => h) (Or.inl ⟨by rfl, by intro Z hs; go_simp <;> omega⟩) (unhide HSd) ?_
          go_simp
          refine wpAnyH_one (i := 14) (by kernel_rfl) rfl (fun K hK => ?_)
          rw [if_pos (by rfl)]
          refine wp_store_row 42 _ _ rfl wo.drew.heap.size #[.int .i64 20, .slice A4 n c4] rfl rfl _ _ hy infoLn rfl (by simp [Value.oneCell']) ?_
          have HNw := unhide HN
          generalize w4.setRow wo.drew.heap.size #[.int .i64 20, .slice A4 n c4] = W5 at HNw ⊢
          generalize hyy : wo.drew.heap.size = y at HNw ⊢
          rw [show wo.heap.size = y from hyy]
          have HN := hide HNw
          have HSd := hide (show (fun Z : World => Z.heap[g]? = some (lnsO 20 A n c) ∧ Z.cell? ⟨gA, oA + i, none⟩ = some (.int .i64 ti)) W5 from ⟨HNw.st.box, by
            obtain ⟨q, off, e1, _, h1⟩ := HNw.st.due (by omega)
            injection e1 with e1; injection e1 with e2 e3; subst e2; subst e3
            rw [h1 i hil, unhide HTI]⟩)
          refine hK _ _ ⟨(unhide HSd), ?_⟩
          clear hK K hy HNw
          refine wpAnyH_take (i := 15) (v := .int .i64 (((asgF T).getD i 0 : Nat) : Int)) rfl (by kernel_rfl) (by kernel_rfl) (by kernel_rfl) (fun _ _ _ h => h) (Or.inl ⟨by rfl, by intro Z hs; go_simp <;> omega⟩) (unhide HSd) ?_
          refine wpAnyH_take (i := 16) (v := .int .i64 0) rfl (by kernel_rfl) (by kernel_rfl) (by kernel_rfl) (fun _ _ _ h => h) (Or.inl ⟨by rfl, by intro Z hs; go_simp <;> omega⟩) (unhide HSd) ?_
          refine wpAnyH_done (by kernel_rfl) ?_ _
          go_simp
          go_upto_region 16 with fail
          go_wp2_with (first
            | (refine wpList_loadLn (unhide HN).yb rfl _ rfl rfl ?_)
            | (refine wpList_storeLn (unhide HN).st.box rfl _ _ rfl rfl rfl ?_))
          go_roundw
          case rel => exact ⟨i + 1, A4, c4, by omega, by go_num, hide ((unhide HN).take (stP_len _ _ _ _))⟩
          case measure => simp [intOf]; omega
      · have il : ¬ (i : Int) < (T.length : Int) := by omega
        obtain rfl : i = T.length := by omega
        have hmk := smakeB T.length (by have := unhide HL; omega)
        have HT := hide (FrT.start (unhide HS))
        go_upto_region 18 with fail
        obtain ⟨Wd, hWd⟩ : ∃ Wd : World, wo.alloc (.cells (madeCells #[.bool false] T.length) 4) = Wd := ⟨_, rfl⟩
        rw [hWd] at HT ⊢
        obtain ⟨h, hh⟩ : ∃ h, wo.heap.size = h := ⟨_, rfl⟩
        rw [hh] at HT ⊢
        have HT := hide (unhide HT)
        clear hWd hh HS hmk
        go_wp2_with fail
        go_loopw [12] (fun s12 wr => ∃ (m : Nat) (p : Nat → Bool) (A : Option Addr) (c : Nat), m ≤ T.length ∧ s12 = .int .i64 m ∧ Hid (((List.range T.length).filter p).length = T.length - m) ∧ Hid (FrT w g h A1 T n p (stP T n T.length p) A c wr)) (fun s12 _ => T.length - (intOf s12).toNat)
        case atStart => exact ⟨0, allP, A, c, Nat.zero_le _, rfl, hide (by rw [show (List.range T.length).filter allP = List.range T.length from List.filter_eq_self.mpr fun _ _ => rfl, List.length_range]; rfl), HT⟩
        case round =>
          clear HT
          obtain ⟨m, p, A, c, hm, rfl, HCn, HS⟩ := hrel
          obtain ⟨wm, rfl⟩ : ∃ wm : World, wm = wr := ⟨_, rfl⟩
          by_cases hml : m < T.length
          · have ml : (m : Int) < (T.length : Int) := by omega
            go_wp2_with fail
            go_loopw [13, 14] (fun s13 s14 wr => ∃ k : Nat, k ≤ T.length ∧ s13 = .int .i64 (bst (minS T p k)) ∧ s14 = .int .i64 k ∧ Hid (Below wm.heap.size wm wr)) (fun _ s14 _ => T.length - (intOf s14).toNat)
            case atStart => exact ⟨0, Nat.zero_le _, rfl, rfl, hide (Below.refl _ _)⟩
            case round =>
              obtain ⟨k, hk, rfl, rfl, HBk⟩ := hrel
              obtain ⟨wk, rfl⟩ : ∃ wk : World, wk = wr := ⟨_, rfl⟩
              by_cases hkl : k < T.length
              · have kl : (k : Int) < (T.length : Int) := by omega
                have k0 : (0 : Int) ≤ (k : Int) := by omega
                have hd := (unhide HS).below (unhide HBk)
                obtain ⟨gA, oA, rfl, _, hcs⟩ := hd.due (by omega)
                have ck := hcs k hkl
                have cd : wk.cell? ⟨h, k, none⟩ = some (.bool (!p k)) := by rw [Lib.cell_of_heap hd.done, doneA_at hkl]
                clear hd
                cases hpk : p k with
                | false =>
                  rw [hpk] at cd
                  have cd : wk.cell? ⟨h, k, none⟩ = some (.bool true) := cd
                  have HM := hide (minS_no (T := T) hpk)
                  clear hcs ck hpk
                  go_wp2_with fail
                  go_quiet (fail)
                  go_wp2
                  go_roundw
                  case rel => exact ⟨k + 1, by omega, by rw [unhide HM], by go_num, hide (draws (unhide HBk) _)⟩
                  case measure => simp [intOf]; omega
                | true =>
                  rw [hpk] at cd
                  have cd : wk.cell? ⟨h, k, none⟩ = some (.bool false) := cd
                  cases hmn : minS T p k with
                  | none =>
                    have HM := hide (minS_new hpk hmn)
                    clear hcs ck hpk
                    simp only [bst]
                    go_wp2_with fail
                    go_quiet (fail)
                    go_wp2
                    go_roundw
                    case rel => exact ⟨k + 1, by omega, by rw [unhide HM], by go_num, hide (draws (unhide HBk) _)⟩
                    case measure => simp [intOf]; omega
                  | some b =>
                    have hbk := (minS_lt hmn).1
                    have cb := hcs b (by omega)
                    have b0 : ¬ (b : Int) < 0 := by omega
                    have b1 : (0 : Int) ≤ (b : Int) := by omega
                    have b2 : (b : Int) < (T.length : Int) := by omega
                    simp only [bst]
                    by_cases hlt : T.getD k 0 < T.getD b 0
                    · have HM := hide (minS_less hpk hmn hlt)
                      clear hcs hpk hmn
                      generalize T.getD k 0 = tk at *
                      generalize T.getD b 0 = tb at *
                      go_wp2_with fail
                      go_quiet (fail)
                      go_wp2
                      go_roundw
                      case rel => exact ⟨k + 1, by omega, by rw [unhide HM], by go_num, hide (draws (unhide HBk) _)⟩
                      case measure => simp [intOf]; omega
                    · have HM := hide (minS_more (p := p) hmn hlt)
                      clear hcs hpk hmn
                      generalize T.getD k 0 = tk at *
                      generalize T.getD b 0 = tb at *
                      go_wp2_with fail
                      go_quiet (fail)
                      go_wp2
                      go_roundw
                      case rel => exact ⟨k + 1, by omega, by rw [unhide HM], by go_num, hide (draws (unhide HBk) _)⟩
                      case measure => simp [intOf]; omega
              · have kl : ¬ (k : Int) < (T.length : Int) := by omega
                obtain rfl : k = T.length := by omega
                obtain ⟨b, hb⟩ := minS_some (due := T) (p := p) (m := T.length) (by rw [unhide HCn]; omega)
                obtain ⟨hbl, hbp⟩ := minS_lt hb
                have htk := take_step (unhide HF).cnt hb
                rw [hb]
                simp only [bst]
                have b1 : (0 : Int) ≤ (b : Int) := by omega
                have b2 : (b : Int) < (T.length : Int) := by omega
                have hwb : IntKind.i64.wrap (1 + (b : Int)) = 1 + (b : Int) := by rw [IntKind.wrap_i64]; have := (unhide HL); omega
                have HS2 := hide ((unhide HS).below (unhide HBk))
                have HTk := hide ((unhide HQ).take 20 (stP T n T.length p) (1 + (b : Int)) A c _ wk ((unhide HF).ok (Nat.le_refl _)) (unhide HS2).sto (unhide HS2).old (WalkArith.wf_i64 (by have := (unhide HL); omega)))
                rw [htk, stP_len] at HTk
                have HTk := hide (unhide HTk)
                have HCn2 := hide (show ((List.range T.length).filter (butP p b)).length = T.length - (m + 1) from by
                  have h1 := less_filter hbl hbp
                  have h2 := unhide HCn
                  show ((List.range T.length).filter fun a => p a && !(a == b)).length = _
                  omega)
                clear htk hb
                go_wp2_with (first | (refine wpList_loadLn (unhide HS2).box rfl _ rfl rfl ?_))
                refine (unhide HTk).mono ?_
                rintro e w6 ⟨hb6, ⟨h6, _⟩ | ⟨_, A6, c6, B6, d6, rfl, _, hs6, _⟩⟩
                · exact absurd rfl h6
                have HS6 := hide ((unhide HS2).below hb6)
                have HN6 := hide hs6
                clear hb6 hs6
                go_upto_region 28 with fail
                have b7 := below_new (Below.refl w6.heap.size w6) (lnsO 20 A6 n c6)
                have HS7 := hide ((unhide HS6).below b7)
                have HY7 := hide (heap_alloc_new w6 (lnsO 20 A6 n c6))
                have HN7 := hide ((unhide HN6).below b7)
                have HYh := hide (show w6.heap.size ≠ h from by have := (unhide HS6).lth; omega)
                obtain ⟨W7, hW7⟩ : ∃ W7 : World, w6.alloc (lnsO 20 A6 n c6) = W7 := ⟨_, rfl⟩
                rw [hW7] at HS7 HY7 HN7 ⊢
                obtain ⟨y, hy⟩ : ∃ y, w6.heap.size = y := ⟨_, rfl⟩
                rw [hy] at HY7 HYh ⊢
                have HS7 := hide (unhide HS7)
                have HY7 := hide (unhide HY7)
                have HN7 := hide (unhide HN7)
                have HYh := hide (unhide HYh)
                clear b7 hW7 hy HS6 HN6
                have hdn := (unhide HS7).done
                have cd : W7.cell? ⟨h, b, none⟩ = some (.bool (!p b)) := by rw [Lib.cell_of_heap hdn, doneA_at hbl]
                have fd := frozen_of_row W7 h b _ _ hdn
                clear hdn
                go_upto_region 31 with fail
                have HS8 := hide ((unhide HS7).mark b)
                have HY8 := hide (heap_setOther (q := h) (i := b) (unhide HY7) (unhide HYh) (.bool true))
                have HN8 := hide ((unhide HN7).keep (KepS.grown (grown_set W7 h b (.bool true)) (.inr rfl)))
                obtain ⟨W8, hW8⟩ : ∃ W8 : World, W7.setCell ⟨h, b, none⟩ (.bool true) = W8 := ⟨_, rfl⟩
                rw [hW8] at HS8 HY8 HN8 ⊢
                have HS8 := hide (unhide HS8)
                have HY8 := hide (unhide HY8)
                have HN8 := hide (unhide HN8)
                clear hW8 cd fd
                go_wp2_with (first
                  | (refine wpList_loadLn (unhide HY8) rfl _ rfl rfl ?_)
                  | (refine wpList_storeLn (unhide HS8).box rfl _ _ rfl rfl rfl ?_))
                go_roundw
                case rel => exact ⟨m + 1, butP p b, A6, c6, by omega, by go_num, HCn2, hide ((unhide HS8).put (unhide HN8) (stP_len _ _ _ _))⟩
                case measure => simp [intOf]; omega
          · have ml : ¬ (m : Int) < (T.length : Int) := by omega
            go_wp2_with (go_at_call 9; refine ((unhide HAw) _).mono ?_; rintro e wz ⟨rfl, hbz⟩; have HBZ := hide (onward (unhide HS).bel hbz); clear hbz)
            go_ret
            exact ⟨rfl, unhide HBZ⟩
  have q2 : ((T0.length : Int) == 0) = false := by rw [beq_eq_false_iff_ne]; omega
  have HL := hide (show 1 ≤ T0.length ∧ T0.length ≤ 20 from ⟨by omega, by omega⟩)
  obtain ⟨T, rfl⟩ : ∃ T : List Int, T = T0 := ⟨_, rfl⟩
  obtain ⟨A1, rfl⟩ : ∃ A1 : Option Addr, A1 = A10 := ⟨_, rfl⟩
  obtain ⟨c1, rfl⟩ : ∃ c1 : Nat, c1 = c10 := ⟨_, rfl⟩
  go_wp2_with fail
  have hl2 : T.length ≤ 20 := (unhide HL).2
  have hv := times_valF (by have := unhide HL; omega) (unhide HR)
  have hcn : cntR T = cntF T := if_pos hv
  have HSm := hide (show SmL T from ⟨by have := unhide HL; omega, small_wf (m := 11) (by omega) (unhide HR)⟩)
  have hp := cntF_pos T
  have hnl : cntF T ≤ T.length := asg_low (Nat.le_refl _)
  have HF := hide (show FillS T (cntF T) from ⟨⟨by have := unhide HL; omega, by have := unhide HL; omega⟩, unhide HL, rfl, unhide HR⟩)
  refine ((unhide HCount) w.heap.size T A1 c1 _ (unhide HSm) (unhide HCap) (unhide HD1)).mono ?_
  rw [hcn]
  generalize cntF T = n at *
  rintro e w2 ⟨rfl, hb2⟩
  have HD2 := hide ((unhide HD1).keep hb2)
  have HB2 := hide (onward (unhide HB1) hb2)
  clear hb2 hcn HD1 HB1 hv hp hnl
  have n1 : ¬ (n : Int) < 1 := by have := (unhide HF).n1; omega
  have n2 : ¬ (20 : Int) < (n : Int) := by have := (unhide HF).n1; omega
  go_wp2_with fail
  refine ((unhide HQ).new n 20 w2).mono ?_
  rintro e w3 ⟨hb3, ⟨hbad, _⟩ | ⟨_, A3, c3, rfl, hst⟩⟩
  · exact absurd ⟨by omega, by omega, by decide, by decide⟩ hbad
  rw [Int.toNat_natCast]
  have HX := hide (FrS.start (onward (unhide HB2) hb3) ((unhide HD2).keep hb3) (hst _ (fun b hb => hb.elim)) (by rw [Int.toNat_natCast, List.length_replicate]))
  rw [Int.toNat_natCast, ← st_empty T n] at HX
  have HX := hide (unhide HX)
  clear hst hb3 HD2 HB2 HSm n1 n2
  go_wp2_with fail
  obtain ⟨W3, hW⟩ : ∃ W3 : World, w3.alloc (lnsO 20 A3 n c3) = W3 := ⟨_, rfl⟩
  rw [hW] at HX ⊢
  obtain ⟨g, hg⟩ : ∃ g, w3.heap.size = g := ⟨_, rfl⟩
  rw [hg] at HX ⊢
  have HX := hide (unhide HX)
  clear hW hg
  go_loopw [7] (fun s7 wr => ∃ (i : Nat) (A : Option Addr) (c : Nat), i ≤ T.length ∧ s7 = .int .i64 i ∧ Hid (FrS w g A1 T n (stP T n i allP) A c wr)) (fun s7 _ => T.length - (intOf s7).toNat)
  case atStart => exact ⟨0, A3, c3, Nat.zero_le _, rfl, HX⟩
  case round =>
    obtain ⟨i, A, c, hi, rfl, HS⟩ := hrel
    obtain ⟨wo, rfl⟩ : ∃ wo : World, wo = wr := ⟨_, rfl⟩
    by_cases hil : i < T.length
    · have il : (i : Int) < (T.length : Int) := by omega
      have i0 : (0 : Int) ≤ (i : Int) := by omega
      obtain ⟨gA, oA, rfl, gAn, hcs⟩ := (unhide HS).due (by omega)
      have hci := hcs i hil
      have hfit := (unhide HF).at hil
      have hput := (unhide HF).put hil
      have HD := hide (draws (Below.refl wo.heap.size wo) 1)
      have HS1 := hide ((unhide HS).below (Below.refl wo.heap.size wo).drew)
      have hbx := (unhide HS1).box
      have hwi : IntKind.i64.wrap (1 + (i : Int)) = 1 + (i : Int) := by rw [IntKind.wrap_i64]; have := (unhide HL); omega
      have HPut := hide (fun (S : Nat → Prop) (W : World) (h : StoI S W A (stP T n i allP) c) (ho : Old S W) => (unhide HQ).put 20 (stP T n i allP) (1 + (i : Int), T.getD i 0) A c S W ((unhide HF).ok hi) h ho (WalkArith.wf_i64 (by have := (unhide HL); omega)) (WalkArith.wf_i64 (by omega)))
      rw [hput, stP_len] at HPut
      have HPut := hide (unhide HPut)
      clear hput hcs gAn
      go_upto_region 13 with fail
      generalize hti : T.getD i 0 = ti at *
      have HTI := hide hti
      have HCI := hide hci
      have HSd := hide (show (fun Z : World => Z.heap[g]? = some (lnsO 20 A n c) ∧ Z.cell? ⟨gA, oA + i, none⟩ = some (.int .i64 ti)) wo.drew from ⟨hbx, hci⟩)
      clear hci hti hbx
      refine wp_region_held (S := fun Z => Z.heap[g]? = some (lnsO 20 A n c) ∧ Z.cell? ⟨gA, oA + i, none⟩ = some (.int .i64 ti)) (by kernel_rfl) ?_
      refine wpAnyH_take (i := 0) (v := lnsV 20 A n c) rfl (by kernel_rfl) (by kernel_rfl) (by kernel_rfl) (fun _ _ _ h => h) (yields_loadLn _ rfl rfl rfl (fun _ h => h.1)) (unhide HSd) ?_
      refine wpAnyH_take (i := 1) (v := .int .i64 (i : Int)) rfl (by kernel_rfl) (by kernel_rfl) (by kernel_rfl) (fun _ _ _ h => h) (Or.inl ⟨by rfl, by intro Z hs; go_simp <;> omega⟩) (unhide HSd) ?_
      refine wpAnyH_take (i := 2) (v := .int .i64 (1 + (i : Int))) rfl (by kernel_rfl) (by kernel_rfl) (by kernel_rfl) (fun _ _ _ h => h) (Or.inl ⟨by rfl, by intro Z hs; go_simp <;> omega⟩) (unhide HSd) ?_
      refine wpAnyH_take (i := 3) (v := .slice (some ⟨gA, oA, none⟩) T.length c1) rfl (by kernel_rfl) (by kernel_rfl) (by kernel_rfl) (fun _ _ _ h => h) (Or.inl ⟨by rfl, by intro Z hs; go_simp <;> omega⟩) (unhide HSd) ?_
      go_simp
      refine wpAnyH_take (i := 4) (v := .int .i64 (i : Int)) rfl (by kernel_rfl) (by kernel_rfl) (by kernel_rfl) (fun _ _ _ h => h) (Or.inl ⟨by rfl, by intro Z hs; go_simp <;> omega⟩) (unhide HSd) ?_
      refine wpAnyH_take (i := 5) (v := .pointer (some ⟨gA, oA + i, none⟩)) rfl (by kernel_rfl) (by kernel_rfl) (by kernel_rfl) (fun _ _ _ h => h) (Or.inl ⟨by rfl, by intro Z hs; go_simp <;> omega⟩) (unhide HSd) ?_
      refine wpAnyH_take (i := 6) (v := .int .i64 ti) rfl (by kernel_rfl) (by kernel_rfl) (by kernel_rfl) (fun _ _ _ h => h) (Or.inl ⟨by rfl, by intro Z hs; have h9 := hs.2; go_simp⟩) (unhide HSd) ?_
      refine wpAnyH_take (i := 7) (v := .agg #[.int .i64 (1 + (i : Int)), .int .i64 ti]) rfl (by kernel_rfl) (by kernel_rfl) (by kernel_rfl) (fun _ _ _ h => h) (Or.inl ⟨by rfl, by intro Z hs; go_simp <;> omega⟩) (unhide HSd) ?_
      go_simp
      refine wpAnyH_two (i := 8) (j := 13) (by kernel_rfl) rfl rfl (fun K hK => ?_) (fun K hK => ?_)
      case' refine_1 =>
        go_simp
        go_at_call 30
        have HC := hide ((unhide HPut) _ _ (unhide HS1).sto (unhide HS1).old)
        refine (unhide HC).mono ?_
        rintro e w4 ⟨hb4, ⟨h4, _⟩ | ⟨_, A4, c4, rfl, hs4⟩⟩
        · exact absurd rfl h4
        try go_simp
        have HS4 := hide ((unhide HS1).below hb4)
        have HSd := hide (show (fun Z : World => Z.heap[g]? = some (lnsO 20 A n c) ∧ Z.cell? ⟨gA, oA + i, none⟩ = some (.int .i64 ti)) w4 from ⟨(unhide HS4).box, kept hb4 (unhide HCI)⟩)
        have HN := hide (FrN.one (unhide HS4) hs4)
        have HCI := hide (kept hb4 (unhide HCI))
        refine hK _ _ ⟨(unhide HSd), ?_⟩
        clear hK K hb4 hs4
        refine wpAnyH_take (i := 9) (v := .tuple #[lnsV 20 A4 n c4, .int .i64 (((asgF T).getD i 0 : Nat) : Int), .int .i64 0]) rfl (by kernel_rfl) (by kernel_rfl) (by kernel_rfl) (fun _ _ _ h => h) (Or.inl ⟨by rfl, by intro Z hs; go_simp <;> omega⟩) (unhide HSd) ?_
        refine wpAnyH_take (i := 10) (v := lnsV 20 A4 n c4) rfl (by kernel_rfl) (by kernel_rfl) (by kernel_rfl) (fun _ _ _ h => h) (Or.inl ⟨by rfl, by intro Z hs; go_simp <;> omega⟩) (unhide HSd) ?_
        refine wpAnyH_take (i := 11) (v := .int .i64 (((asgF T).getD i 0 : Nat) : Int)) rfl (by kernel_rfl) (by kernel_rfl) (by kernel_rfl) (fun _ _ _ h => h) (Or.inl ⟨by rfl, by intro Z hs; go_simp <;> omega⟩) (unhide HSd) ?_
        refine wpAnyH_take (i := 12) (v := .int .i64 0) rfl (by kernel_rfl) (by kernel_rfl) (by kernel_rfl) (fun _ _ _ h => h) (Or.inl ⟨by rfl, by intro Z hs; go_simp <;> omega⟩) (unhide HSd) ?_
        go_simp
        refine wpAnyH_one (i := 13) (by kernel_rfl) rfl (fun K hK => ?_)
        go_simp
        have b5 := below_new (Below.refl w4.heap.size w4) (lnsO 0 none 0 0)
        have hy := heap_alloc_new w4 (lnsO 0 none 0 0)
        refine hK _ _ ⟨⟨heap_below (unhide HS4).box b5, kept b5 (unhide HCI)⟩, ?_⟩
        clear hK K
        refine wpAnyH_one (i := 14) (by kernel_rfl) rfl (fun K hK => ?_)
        rw [if_pos (by rfl)]
        refine wp_store_row 42 _ _ rfl w4.heap.size #[.int .i64 20, .slice A4 n c4] rfl rfl _ _ hy infoLn rfl (by simp [Value.oneCell']) ?_
        have HNw := unhide HN
        generalize (w4.alloc (lnsO 0 none 0 0)).setRow w4.heap.size #[.int .i64 20, .slice A4 n c4] = W5 at HNw ⊢
        generalize w4.heap.size = y at HNw ⊢
        have HN := hide HNw
        have HSd := hide (show (fun Z : World => Z.heap[g]? = some (lnsO 20 A n c) ∧ Z.cell? ⟨gA, oA + i, none⟩ = some (.int .i64 ti)) W5 from ⟨HNw.st.box, by
          obtain ⟨q, off, e1, _, h1⟩ := HNw.st.due (by omega)
          injection e1 with e1; injection e1 with e2 e3; subst e2; subst e3
          rw [h1 i hil, unhide HTI]⟩)
        refine hK _ _ ⟨(unhide HSd), ?_⟩
        clear hK K hy HNw
        refine wpAnyH_take (i := 15) (v := .int .i64 (((asgF T).getD i 0 : Nat) : Int)) rfl (by kernel_rfl) (by kernel_rfl) (by kernel_rfl) (fun _ _ _ h => h) (Or.inl ⟨by rfl, by intro Z hs; go_simp <;> omega⟩) (unhide HSd) ?_
        refine wpAnyH_take (i := 16) (v := .int .i64 0) rfl (by kernel_rfl) (by kernel_rfl) (by kernel_rfl) (fun _ _ _ h => h) (Or.inl ⟨by rfl, by intro Z hs; go_simp <;> omega⟩) (unhide HSd) ?_
        refine wpAnyH_done (by kernel_rfl) ?_ _
        go_simp
        go_upto_region 16 with fail
        go_wp2_with (first
          | (refine wpList_loadLn (unhide HN).yb rfl _ rfl rfl ?_)
          | (refine wpList_storeLn (unhide HN).st.box rfl _ _ rfl rfl rfl ?_))
        go_roundw
        case rel => exact ⟨i + 1, A4, c4, by omega, by go_num, hide ((unhide HN).take (stP_len _ _ _ _))⟩
        case measure => simp [intOf]; omega
      case' refine_2 =>
        go_simp
        obtain ⟨ht1, ht2⟩ := (unhide HS1).two
        have HT1 := hide ht1
        have HT2 := hide ht2
        have b5 := below_new (Below.refl wo.drew.heap.size wo.drew) (lnsO 0 none 0 0)
        have HY := hide (heap_alloc_new wo.drew (lnsO 0 none 0 0))
        have HSd := hide (show (fun Z : World => Z.heap[g]? = some (lnsO 20 A n c) ∧ Z.cell? ⟨gA, oA + i, none⟩ = some (.int .i64 ti)) (wo.drew.alloc (lnsO 0 none 0 0)) from ⟨heap_below (unhide HS1).box b5, kept b5 (unhide HCI)⟩)
        refine hK _ _ ⟨(unhide HSd), ?_⟩
        clear hK K ht1 ht2 b5
        refine wpAnyH_one (i := 8) (by kernel_rfl) rfl (fun K hK => ?_)
        go_simp
        go_at_call 30
        have HC := hide ((unhide HPut) _ _ (unhide HT1) (unhide HT2))
        refine (unhide HC).mono ?_
        rintro e w4 ⟨hb4, ⟨h4, _⟩ | ⟨_, A4, c4, rfl, hs4⟩⟩
        · exact absurd rfl h4
        try go_simp
        have HN := hide (FrN.two (unhide HS1) hb4 hs4)
        have hy := heap_below (unhide HY) hb4
        have HSd := hide (show (fun Z : World => Z.heap[g]? = some (lnsO 20 A n c) ∧ Z.cell? ⟨gA, oA + i, none⟩ = some (.int .i64 ti)) w4 from ⟨heap_below (unhide HSd).1 hb4, kept hb4 (unhide HSd).2⟩)
        refine hK _ _ ⟨(unhide HSd), ?_⟩
        clear hK K hb4 hs4
        refine wpAnyH_take (i := 9) (v := .tuple #[lnsV 20 A4 n c4, .int .i64 (((asgF T).getD i 0 : Nat) : Int), .int .i64 0]) rfl (by kernel_rfl) (by kernel_rfl) (by kernel_rfl) (fun _ _ _ h => h) (Or.inl ⟨by rfl, by intro Z hs; go_simp <;> omega⟩) (unhide HSd) ?_
        refine wpAnyH_take (i := 10) (v := lnsV 20 A4 n c4) rfl (by kernel_rfl) (by kernel_rfl) (by kernel_rfl) (fun _ _ _ h => h) (Or.inl ⟨by rfl, by intro Z hs; go_simp <;> omega⟩) (unhide HSd) ?_
        refine wpAnyH_take (i := 11) (v := .int .i64 (((asgF T).getD i 0 : Nat) : Int)) rfl (by kernel_rfl) (by kernel_rfl) (by kernel_rfl) (fun _ _ _ h => h) (Or.inl ⟨by rfl, by intro Z hs; go_simp <;> omega⟩) (unhide HSd) ?_
        refine wpAnyH_take (i := 12) (v := .int .i64 0) rfl (by kernel_rfl) (by kernel_rfl) (by kernel_rfl) (fun _ _ _ h => h) (Or.inl ⟨by rfl, by intro Z hs; go_simp <;> omega⟩) (unhide HSd) ?_
        go_simp
        refine wpAnyH_one (i := 14) (by kernel_rfl) rfl (fun K hK => ?_)
        rw [if_pos (by rfl)]
        refine wp_store_row 42 _ _ rfl wo.drew.heap.size #[.int .i64 20, .slice A4 n c4] rfl rfl _ _ hy infoLn rfl (by simp [Value.oneCell']) ?_
        have HNw := unhide HN
        generalize w4.setRow wo.drew.heap.size #[.int .i64 20, .slice A4 n c4] = W5 at HNw ⊢
        generalize hyy : wo.drew.heap.size = y at HNw ⊢
        rw [show wo.heap.size = y from hyy]
        have HN := hide HNw
        have HSd := hide (show (fun Z : World => Z.heap[g]? = some (lnsO 20 A n c) ∧ Z.cell? ⟨gA, oA + i, none⟩ = some (.int .i64 ti)) W5 from ⟨HNw.st.box, by
          obtain ⟨q, off, e1, _, h1⟩ := HNw.st.due (by omega)
          injection e1 with e1; injection e1 with e2 e3; subst e2; subst e3
          rw [h1 i hil, unhide HTI]⟩)
        refine hK _ _ ⟨(unhide HSd), ?_⟩
        clear hK K hy HNw
        refine wpAnyH_take (i := 15) (v := .int .i64 (((asgF T).getD i 0 : Nat) : Int)) rfl (by kernel_rfl) (by kernel_rfl) (by kernel_rfl) (fun _ _ _ h => h) (Or.inl ⟨by rfl, by intro Z hs; go_simp <;> omega⟩) (unhide HSd) ?_
        refine wpAnyH_take (i := 16) (v := .int .i64 0) rfl (by kernel_rfl) (by kernel_rfl) (by kernel_rfl) (fun _ _ _ h => h) (Or.inl ⟨by rfl, by intro Z hs; go_simp <;> omega⟩) (unhide HSd) ?_
        refine wpAnyH_done (by kernel_rfl) ?_ _
        go_simp
        go_upto_region 16 with fail
        go_wp2_with (first
          | (refine wpList_loadLn (unhide HN).yb rfl _ rfl rfl ?_)
          | (refine wpList_storeLn (unhide HN).st.box rfl _ _ rfl rfl rfl ?_))
        go_roundw
        case rel => exact ⟨i + 1, A4, c4, by omega, by go_num, hide ((unhide HN).take (stP_len _ _ _ _))⟩
        case measure => simp [intOf]; omega
    · have il : ¬ (i : Int) < (T.length : Int) := by omega
      obtain rfl : i = T.length := by omega
      have hmk := smakeB T.length (by have := unhide HL; omega)
      have HT := hide (FrT.start (unhide HS))
      go_upto_region 18 with fail
      obtain ⟨Wd, hWd⟩ : ∃ Wd : World, wo.alloc (.cells (madeCells #[.bool false] T.length) 4) = Wd := ⟨_, rfl⟩
      rw [hWd] at HT ⊢
      obtain ⟨h, hh⟩ : ∃ h, wo.heap.size = h := ⟨_, rfl⟩
      rw [hh] at HT ⊢
      have HT := hide (unhide HT)
      clear hWd hh HS hmk
      go_wp2_with fail
      go_loopw [12] (fun s12 wr => ∃ (m : Nat) (p : Nat → Bool) (A : Option Addr) (c : Nat), m ≤ T.length ∧ s12 = .int .i64 m ∧ Hid (((List.range T.length).filter p).length = T.length - m) ∧ Hid (FrT w g h A1 T n p (stP T n T.length p) A c wr)) (fun s12 _ => T.length - (intOf s12).toNat)
      case atStart => exact ⟨0, allP, A, c, Nat.zero_le _, rfl, hide (by rw [show (List.range T.length).filter allP = List.range T.length from List.filter_eq_self.mpr fun _ _ => rfl, List.length_range]; rfl), HT⟩
      case round =>
        clear HT
        obtain ⟨m, p, A, c, hm, rfl, HCn, HS⟩ := hrel
        obtain ⟨wm, rfl⟩ : ∃ wm : World, wm = wr := ⟨_, rfl⟩
        by_cases hml : m < T.length
        · have ml : (m : Int) < (T.length : Int) := by omega
          go_wp2_with fail
          go_loopw [13, 14] (fun s13 s14 wr => ∃ k : Nat, k ≤ T.length ∧ s13 = .int .i64 (bst (minS T p k)) ∧ s14 = .int .i64 k ∧ Hid (Below wm.heap.size wm wr)) (fun _ s14 _ => T.length - (intOf s14).toNat)
          case atStart => exact ⟨0, Nat.zero_le _, rfl, rfl, hide (Below.refl _ _)⟩
          case round =>
            obtain ⟨k, hk, rfl, rfl, HBk⟩ := hrel
            obtain ⟨wk, rfl⟩ : ∃ wk : World, wk = wr := ⟨_, rfl⟩
            by_cases hkl : k < T.length
            · have kl : (k : Int) < (T.length : Int) := by omega
              have k0 : (0 : Int) ≤ (k : Int) := by omega
              have hd := (unhide HS).below (unhide HBk)
              obtain ⟨gA, oA, rfl, _, hcs⟩ := hd.due (by omega)
              have ck := hcs k hkl
              have cd : wk.cell? ⟨h, k, none⟩ = some (.bool (!p k)) := by rw [Lib.cell_of_heap hd.done, doneA_at hkl]
              clear hd
              cases hpk : p k with
              | false =>
                rw [hpk] at cd
                have cd : wk.cell? ⟨h, k, none⟩ = some (.bool true) := cd
                have HM := hide (minS_no (T := T) hpk)
                clear hcs ck hpk
                go_wp2_with fail
                go_quiet (fail)
                go_wp2
                go_roundw
                case rel => exact ⟨k + 1, by omega, by rw [unhide HM], by go_num, hide (draws (unhide HBk) _)⟩
                case measure => simp [intOf]; omega
              | true =>
                rw [hpk] at cd
                have cd : wk.cell? ⟨h, k, none⟩ = some (.bool false) := cd
                cases hmn : minS T p k with
                | none =>
                  have HM := hide (minS_new hpk hmn)
                  clear hcs ck hpk
                  simp only [bst]
                  go_wp2_with fail
                  go_quiet (fail)
                  go_wp2
                  go_roundw
                  case rel => exact ⟨k + 1, by omega, by rw [unhide HM], by go_num, hide (draws (unhide HBk) _)⟩
                  case measure => simp [intOf]; omega
                | some b =>
                  have hbk := (minS_lt hmn).1
                  have cb := hcs b (by omega)
                  have b0 : ¬ (b : Int) < 0 := by omega
                  have b1 : (0 : Int) ≤ (b : Int) := by omega
                  have b2 : (b : Int) < (T.length : Int) := by omega
                  simp only [bst]
                  by_cases hlt : T.getD k 0 < T.getD b 0
                  · have HM := hide (minS_less hpk hmn hlt)
                    clear hcs hpk hmn
                    generalize T.getD k 0 = tk at *
                    generalize T.getD b 0 = tb at *
                    go_wp2_with fail
                    go_quiet (fail)
                    go_wp2
                    go_roundw
                    case rel => exact ⟨k + 1, by omega, by rw [unhide HM], by go_num, hide (draws (unhide HBk) _)⟩
                    case measure => simp [intOf]; omega
                  · have HM := hide (minS_more (p := p) hmn hlt)
                    clear hcs hpk hmn
                    generalize T.getD k 0 = tk at *
                    generalize T.getD b 0 = tb at *
                    go_wp2_with fail
                    go_quiet (fail)
                    go_wp2
                    go_roundw
                    case rel => exact ⟨k + 1, by omega, by rw [unhide HM], by go_num, hide (draws (unhide HBk) _)⟩
                    case measure => simp [intOf]; omega
            · have kl : ¬ (k : Int) < (T.length : Int) := by omega
              obtain rfl : k = T.length := by omega
              obtain ⟨b, hb⟩ := minS_some (due := T) (p := p) (m := T.length) (by rw [unhide HCn]; omega)
              obtain ⟨hbl, hbp⟩ := minS_lt hb
              have htk := take_step (unhide HF).cnt hb
              rw [hb]
              simp only [bst]
              have b1 : (0 : Int) ≤ (b : Int) := by omega
              have b2 : (b : Int) < (T.length : Int) := by omega
              have hwb : IntKind.i64.wrap (1 + (b : Int)) = 1 + (b : Int) := by rw [IntKind.wrap_i64]; have := (unhide HL); omega
              have HS2 := hide ((unhide HS).below (unhide HBk))
              have HTk := hide ((unhide HQ).take 20 (stP T n T.length p) (1 + (b : Int)) A c _ wk ((unhide HF).ok (Nat.le_refl _)) (unhide HS2).sto (unhide HS2).old (WalkArith.wf_i64 (by have := (unhide HL); omega)))
              rw [htk, stP_len] at HTk
              have HTk := hide (unhide HTk)
              have HCn2 := hide (show ((List.range T.length).filter (butP p b)).length = T.length - (m + 1) from by
                have h1 := less_filter hbl hbp
                have h2 := unhide HCn
                show ((List.range T.length).filter fun a => p a && !(a == b)).length = _
                omega)
              clear htk hb
              go_wp2_with (first | (refine wpList_loadLn (unhide HS2).box rfl _ rfl rfl ?_))
              refine (unhide HTk).mono ?_
              rintro e w6 ⟨hb6, ⟨h6, _⟩ | ⟨_, A6, c6, B6, d6, rfl, _, hs6, _⟩⟩
              · exact absurd rfl h6
              have HS6 := hide ((unhide HS2).below hb6)
              have HN6 := hide hs6
              clear hb6 hs6
              go_upto_region 28 with fail
              have b7 := below_new (Below.refl w6.heap.size w6) (lnsO 20 A6 n c6)
              have HS7 := hide ((unhide HS6).below b7)
              have HY7 := hide (heap_alloc_new w6 (lnsO 20 A6 n c6))
              have HN7 := hide ((unhide HN6).below b7)
              have HYh := hide (show w6.heap.size ≠ h from by have := (unhide HS6).lth; omega)
              obtain ⟨W7, hW7⟩ : ∃ W7 : World, w6.alloc (lnsO 20 A6 n c6) = W7 := ⟨_, rfl⟩
              rw [hW7] at HS7 HY7 HN7 ⊢
              obtain ⟨y, hy⟩ : ∃ y, w6.heap.size = y := ⟨_, rfl⟩
              rw [hy] at HY7 HYh ⊢
              have HS7 := hide (unhide HS7)
              have HY7 := hide (unhide HY7)
              have HN7 := hide (unhide HN7)
              have HYh := hide (unhide HYh)
              clear b7 hW7 hy HS6 HN6
              have hdn := (unhide HS7).done
              have cd : W7.cell? ⟨h, b, none⟩ = some (.bool (!p b)) := by rw [Lib.cell_of_heap hdn, doneA_at hbl]
              have fd := frozen_of_row W7 h b _ _ hdn
              clear hdn
              go_upto_region 31 with fail
              have HS8 := hide ((unhide HS7).mark b)
              have HY8 := hide (heap_setOther (q := h) (i := b) (unhide HY7) (unhide HYh) (.bool true))
              have HN8 := hide ((unhide HN7).keep (KepS.grown (grown_set W7 h b (.bool true)) (.inr rfl)))
              obtain ⟨W8, hW8⟩ : ∃ W8 : World, W7.setCell ⟨h, b, none⟩ (.bool true) = W8 := ⟨_, rfl⟩
              rw [hW8] at HS8 HY8 HN8 ⊢
              have HS8 := hide (unhide HS8)
              have HY8 := hide (unhide HY8)
              have HN8 := hide (unhide HN8)
              clear hW8 cd fd
              go_wp2_with (first
                | (refine wpList_loadLn (unhide HY8) rfl _ rfl rfl ?_)
                | (refine wpList_storeLn (unhide HS8).box rfl _ _ rfl rfl rfl ?_))
              go_roundw
              case rel => exact ⟨m + 1, butP p b, A6, c6, by omega, by go_num, HCn2, hide ((unhide HS8).put (unhide HN8) (stP_len _ _ _ _))⟩
              case measure => simp [intOf]; omega
        · have ml : ¬ (m : Int) < (T.length : Int) := by omega
          go_wp2_with (go_at_call 9; refine ((unhide HAw) _).mono ?_; rintro e wz ⟨rfl, hbz⟩; have HBZ := hide (onward (unhide HS).bel hbz); clear hbz)
          go_ret
          exact ⟨rfl, unhide HBZ⟩
end Go.Proofs.Ytmmhchhekmcihaa
