/-
  MessagePlates: the walk.
-/
import Derived.Test.YtjlafhfbgdjlcaaDoorMsgAE
import Derived.OrdersHeld
namespace Go.Proofs.YtjlafhfbgdjlcaaDoor
open Go.RowKit

/-- A message in its box, with what it points at. -/
structure Bx (W : World) (g : Nat) (m : Msg) (A : Option Addr) (c : Nat) (L : Option Addr) (d : Nat) : Prop where
  box : W.heap[g]? = some (msgO m A c L d)
  legs : LegsIn W.heap.size W A m.onw
  nums : NumsIn W.heap.size W L m.lst
theorem Bx.lt {W : World} {g : Nat} {m : Msg} {A : Option Addr} {c : Nat} {L : Option Addr} {d : Nat} (h : Bx W g m A c L d) : g < W.heap.size := (Array.getElem?_eq_some_iff.1 h.box).1
theorem LegsIn.later {W W' : World} {A : Option Addr} {l : List Lg} (h : LegsIn W.heap.size W A l) (hb : Below W.heap.size W W') : LegsIn W'.heap.size W' A l := (h.other hb.size).keep hb
theorem NumsIn.later {W W' : World} {A : Option Addr} {l : List Int} (h : NumsIn W.heap.size W A l) (hb : Below W.heap.size W W') : NumsIn W'.heap.size W' A l := (h.other hb.size).keep hb
theorem Bx.keep {W W' : World} {g : Nat} {m : Msg} {A : Option Addr} {c : Nat} {L : Option Addr} {d : Nat} (h : Bx W g m A c L d) (hb : Below W.heap.size W W') : Bx W' g m A c L d :=
  ⟨(hb.block _ h.lt).trans h.box, h.legs.later hb, h.nums.later hb⟩
theorem ints_later {w w' : World} {A : Option Addr} {n : Nat} (h : IntsIn w.heap.size w A n) (hb : Below w.heap.size w w') : IntsIn w'.heap.size w' A n := fun hn => by
  obtain ⟨g, off, hA, hg, hx⟩ := h hn
  have := hb.size
  refine ⟨g, off, hA, by omega, fun i hi => ?_⟩
  obtain ⟨x, hx⟩ := hx i hi
  exact ⟨x, kept hb hx⟩

theorem plates_cnt {m : Msg} (h : valE m = 0) : m.cnt = (platesN m : Int) := by
  obtain ⟨h1, h2, -, -, -, h3, -⟩ := valE_ok.1 h
  obtain ⟨k1, k5⟩ := inB_iff.1 (show inB m.kind 1 5 = true from h1)
  by_cases hk : m.kind = 5
  · have hc : m.cnt = 0 := by
      have := congrArg Msg.cnt h2
      unfold ownM at this
      rw [if_neg (by omega), if_neg (by omega), if_neg (by omega), if_neg (by omega), if_pos hk] at this
      exact this
    unfold platesN
    rw [hc, if_neg (by rw [Bool.and_eq_true]; intro h; have := inB_iff.1 h.2; omega)]
    rfl
  · have h78 : (78 : Int) ∈ keysL m.kind := by
      have : m.kind = 1 ∨ m.kind = 2 ∨ m.kind = 3 ∨ m.kind = 4 := by omega
      rcases this with e | e | e | e <;> rw [e] <;> decide
    have h4 := List.all_eq_true.1 h3 _ h78
    have hr : (vld m.pl m.pa m.ps && inB m.cnt 1 99) = true := by simpa [rangB] using h4
    unfold platesN
    rw [if_pos hr]
    rw [Bool.and_eq_true] at hr
    have := inB_iff.1 hr.2
    omega
theorem plates_vld {m : Msg} (h : 0 < platesN m) : 0 ≤ m.ps ∧ m.ps ≤ 999999 := by
  unfold platesN at h
  split at h
  · rename_i hr
    rw [Bool.and_eq_true] at hr
    have := vld_iff.1 hr.1
    omega
  · omega

section
variable {P : Program} {ops : Array Oper} {Q : Exit → Act → World → Prop} {md : Region.Mode} {S : World → Prop}
/-- Only one operation may come up. -/
theorem wpAnyH_one {i : Nat} {o : Oper} {fuel : Nat} {listed : Array Bool} {a : Act} {w : World} (hr : Region.ready md ops listed = [i]) (ho : ops[i]? = some o)
    (h : ∀ K' : Act → World → Prop, (∀ a w, (S w ∧ wpAnyH P md ops Q S fuel (listed.setIfInBounds i true) a w) → K' a w) → if Region.wanted o (yielded ops a.tmps) = true then Oper.wp P o a w K' Q else K' (a.put o.dst undef) w) :
    wpAnyH P md ops Q S (fuel + 1) listed a w := wpAnyH_all hr (by simp) (fun j hj => by cases List.mem_singleton.1 hj; exact wpOp_step ho h)
set_option maxRecDepth 100000 in
theorem yields_loadM {o : Oper} {a : Act} {t : TypeId} {g : Nat} {fr : Nat × Nat} {m : Msg} {A : Option Addr} {c : Nat} {L : Option Addr} {d : Nat} (x : Operand) (ho : o.op = .load 32 x)
    (hx : a.eval x = .pointer (some ⟨g, 0, none⟩)) (hw : Region.wanted o (yielded ops a.tmps) = true) (hS : ∀ w, S w → w.heap[g]? = some (.cells (msgL m A c L d) t fr)) : YieldsIf Tryd.prog ops S o (msgV m A c L d) a := by
  refine .inl ⟨hw, fun w hs => ?_⟩
  unfold execOp
  simp only [ho, hx, Instr.loadAt, Instr.sureAddr, Sem.run_bind, Sem.run_pure, Result.andThen_ok, run_loadVar_row w g t _ _ fr _ (hS w hs) undM' undM infoM]
end

set_option maxHeartbeats 8000000 in
set_option maxRecDepth 100000 in
theorem mplates_any (A : Option Addr) (len cap : Nat) (A' : Option Addr) (len' cap' : Nat) (raw oth : Msg) (P Q P' Q' : Option Addr) (c d c' d' : Nat) (w : World) (hcap : len ≤ cap) (hA : IntsIn w.heap.size w A len) (hcap' : len' ≤ cap') (hA' : IntsIn w.heap.size w A' len')
    (h1 : LegsIn w.heap.size w P raw.onw) (h2 : NumsIn w.heap.size w Q raw.lst) (h3 : LegsIn w.heap.size w P' oth.onw) (h4 : NumsIn w.heap.size w Q' oth.lst) (hK : Keys w) (hT : Tabs w) :
    Calls Tryd.prog 4 #[.slice A len cap, .slice A' len' cap', msgV raw P c Q d, msgV oth P' c' Q' d'] w fun e w' => e = .returned (.bool true) ∧ Below w.heap.size w w' := by
  obtain ⟨W0, hW⟩ : ∃ W0 : World, (w.alloc (msgO raw P c Q d)).alloc (msgO oth P' c' Q' d') = W0 := ⟨_, rfl⟩
  have ba := (Below.refl w.heap.size w).alloc (Nat.le_refl _) (msgO raw P c Q d)
  have bb := (Below.refl (w.alloc (msgO raw P c Q d)).heap.size (w.alloc (msgO raw P c Q d))).alloc (Nat.le_refl _) (msgO oth P' c' Q' d')
  have b0 : Below w.heap.size w W0 := by rw [← hW]; exact onward ba bb
  have X0 : Bx W0 w.heap.size raw P c Q d := ⟨by rw [← hW]; exact (bb.block _ (by rw [World.size_alloc]; omega)).trans (heap_alloc_new w _), h1.later b0, h2.later b0⟩
  have Y0 : Bx W0 (w.heap.size + 1) oth P' c' Q' d' := ⟨by rw [← hW]; have := heap_alloc_new (w.alloc (msgO raw P c Q d)) (msgO oth P' c' Q' d'); rwa [World.size_alloc] at this, h3.later b0, h4.later b0⟩
  have HI := hide (ints_later hA b0)
  have HI' := hide (ints_later hA' b0)
  have HK := hide hK
  have HT := hide hT
  have HB0 := hide b0
  have HX0 := hide X0
  have HY0 := hide Y0
  clear ba bb X0 Y0 hA hA' h1 h2 h3 h4 hK hT b0
  go_enter Tryd.func4, Tryd.ntmps4
  go_wp2_with (refine wpList_loadM (unhide HX0).box rfl _ rfl rfl ?_)
  clear hW
  refine (light_any raw P Q c d _).mono ?_
  rintro e w1 ⟨rfl, hb1⟩
  have HX1 := hide ((unhide HX0).keep hb1)
  have HY1 := hide ((unhide HY0).keep hb1)
  have HI1 := hide (ints_later (unhide HI) hb1)
  have HI1' := hide (ints_later (unhide HI') hb1)
  have HB1 := hide (onward (unhide HB0) hb1)
  clear HX0 HY0 HI HI' HB0 hb1
  cases hl : lightB raw with
  | false =>
    go_wp2_with fail
    refine (awake_msg w1 ((unhide HK).keep (unhide HB1)) ((unhide HT).keep (unhide HB1))).mono ?_
    rintro e w2 ⟨rfl, hb2⟩
    have HB2 := hide (onward (unhide HB1) hb2)
    clear hb2
    go_wp2
    go_ret
    exact ⟨rfl, unhide HB2⟩
  | true =>
  have HL := hide (light_iff.1 hl)
  clear hl
  go_wp2_with (refine wpList_loadM_w (unhide HY1).box _ rfl rfl rfl ?_)
  refine (light_any oth P' Q' c' d' _).mono ?_
  rintro e w2 ⟨rfl, hb2⟩
  have HX2 := hide ((unhide HX1).keep hb2)
  have HY2 := hide ((unhide HY1).keep hb2)
  have HI2 := hide (ints_later (unhide HI1) hb2)
  have HI2' := hide (ints_later (unhide HI1') hb2)
  have HB2 := hide (onward (unhide HB1) hb2)
  clear HX1 HY1 HI1 HI1' HB1 hb2
  cases hl : lightB oth with
  | false =>
    go_wp2_with fail
    refine (awake_msg w2 ((unhide HK).keep (unhide HB2)) ((unhide HT).keep (unhide HB2))).mono ?_
    rintro e w3 ⟨rfl, hb3⟩
    have HB3 := hide (onward (unhide HB2) hb3)
    clear hb3
    go_wp2
    go_ret
    exact ⟨rfl, unhide HB3⟩
  | true =>
  clear hl
  go_wp2_with fail
  refine (new_any A len cap w2 hcap (unhide HI2)).mono ?_
  rintro e w3 ⟨rfl, hs3, hb3⟩
  go_wp2_with fail
  refine (message_any _ _ _ hs3).mono ?_
  rintro e w4 ⟨m, M, c1, N, d1, rfl, hv, hm1, hm2, -, hg4⟩
  have bb := below_reads hb3 hg4 (Nat.le_refl _) hb3.size
  have HX4 := hide ((unhide HX2).keep bb)
  have HY4 := hide ((unhide HY2).keep bb)
  have HI4' := hide (ints_later (unhide HI2') bb)
  have HB4 := hide (onward (unhide HB2) bb)
  have HM1 := hide (hm1.other (Nat.le_refl _))
  have HM2 := hide (hm2.other (Nat.le_refl _))
  have HV := hide hv
  clear HX2 HY2 HI2 HI2' HB2 hs3 hb3 hg4 hv hm1 hm2 bb
  go_wp2_with fail
  refine (new_any A' len' cap' w4 hcap' (unhide HI4')).mono ?_
  rintro e w5 ⟨rfl, hs5, hb5⟩
  go_wp2_with fail
  refine (message_any _ _ _ hs5).mono ?_
  rintro e w6 ⟨u, U, c2, V, d2, rfl, -, hu1, hu2, -, hg6⟩
  have bb := below_reads hb5 hg6 (Nat.le_refl _) hb5.size
  obtain ⟨W7, hW7⟩ : ∃ W7 : World, (w6.alloc (.cells zeroL 32)).alloc (.cells zeroL 32) = W7 := ⟨_, rfl⟩
  have ba := (Below.refl w6.heap.size w6).alloc (Nat.le_refl _) (.cells zeroL 32)
  have bc := (Below.refl (w6.alloc (.cells zeroL 32)).heap.size (w6.alloc (.cells zeroL 32))).alloc (Nat.le_refl _) (.cells zeroL 32)
  have b7 : Below w6.heap.size w6 W7 := by rw [← hW7]; exact onward ba bc
  have r7 : W7.heap[w6.heap.size]? = some (.cells zeroL 32 (0, 0)) := by rw [← hW7]; exact (bc.block _ (by rw [World.size_alloc]; omega)).trans (heap_alloc_new w6 _)
  have q7 : W7.heap[w6.heap.size + 1]? = some (.cells zeroL 32 (0, 0)) := by rw [← hW7]; have := heap_alloc_new (w6.alloc (.cells zeroL 32)) (.cells zeroL 32); rwa [World.size_alloc] at this
  obtain ⟨W8, hW8⟩ : ∃ W8 : World, W7.setRow w6.heap.size (msgL m M c1 N d1) = W8 := ⟨_, rfl⟩
  have b8 : Below w6.heap.size w6 W8 := by rw [← hW8]; exact below_setRow b7 (Nat.le_refl _) _
  have r8 : W8.heap[w6.heap.size]? = some (msgO m M c1 N d1) := by rw [← hW8]; exact setRow_heap W7 _ _ _ _ _ r7
  have q8 : W8.heap[w6.heap.size + 1]? = some (.cells zeroL 32 (0, 0)) := by rw [← hW8, setRow_other _ _ _ _ (by omega)]; exact q7
  obtain ⟨W9, hW9⟩ : ∃ W9 : World, W8.setRow (w6.heap.size + 1) (msgL u U c2 V d2) = W9 := ⟨_, rfl⟩
  have b9 : Below w6.heap.size w6 W9 := by rw [← hW9]; exact below_setRow b8 (Nat.le_succ _) _
  have r9 : W9.heap[w6.heap.size]? = some (msgO m M c1 N d1) := by rw [← hW9, setRow_other _ _ _ _ (by omega)]; exact r8
  have q9 : W9.heap[w6.heap.size + 1]? = some (msgO u U c2 V d2) := by rw [← hW9]; exact setRow_heap W8 _ _ _ _ _ q8
  have HX9 := hide (((unhide HX4).keep bb).keep b9)
  have HY9 := hide (((unhide HY4).keep bb).keep b9)
  have HM9 := hide (show Bx W9 w6.heap.size m M c1 N d1 from ⟨r9, ((unhide HM1).later bb).later b9, ((unhide HM2).later bb).later b9⟩)
  have HU9 := hide (show Bx W9 (w6.heap.size + 1) u U c2 V d2 from ⟨q9, LegsIn.later (hu1.other (Nat.le_refl _)) b9, NumsIn.later (hu2.other (Nat.le_refl _)) b9⟩)
  have HB9 := hide (onward (onward (unhide HB4) bb) b9)
  have HR7 := hide r7
  have HQ8 := hide q8
  clear HX4 HY4 HI4' HB4 HM1 HM2 ba bc b7 r7 q7 b8 r8 q8 b9 r9 q9 hs5 hb5 hg6 hu1 hu2 bb
  go_wp2_with (refine wpList_storeM (unhide HR7) m M c1 N d1 rfl _ _ rfl rfl rfl rfl ?_; rw [hW8]; refine wpList_storeM (unhide HQ8) u U c2 V d2 rfl _ _ rfl rfl rfl rfl ?_; rw [hW9])
  refine wp_region_held (S := fun x => x.heap[w.heap.size]? = some (msgO raw P c Q d)) (by kernel_rfl) ?_
  have HS := hide (show (W9.drew).heap[w.heap.size]? = some (msgO raw P c Q d) from (unhide HX9).box)
  refine wpAnyH_take (i := 0) (v := msgV raw P c Q d) rfl (by kernel_rfl) (by kernel_rfl) (by kernel_rfl) (fun _ _ _ h => h) (yields_loadM _ rfl rfl rfl (fun _ h => h)) (unhide HS) ?_
  refine wpAnyH_take (i := 2) (v := msgV raw P c Q d) rfl (by kernel_rfl) (by kernel_rfl) (by kernel_rfl) (fun _ _ _ h => h) (yields_loadM _ rfl rfl rfl (fun _ h => h)) (unhide HS) ?_
  refine wpAnyH_one (i := 1) (by kernel_rfl) rfl (fun K hK => ?_)
  go_simp
  go_at_call 17
  refine (plates_any raw P Q c d _).mono ?_
  rintro e w10 ⟨A10, q10, rfl, hp10, hb10⟩
  try go_simp
  have hS10 : w10.heap[w.heap.size]? = some (msgO raw P c Q d) := (hb10.block _ (unhide HX9).lt).trans (unhide HS)
  refine hK _ _ ⟨hS10, ?_⟩
  clear hK K
  refine wpAnyH_one (i := 3) (by kernel_rfl) rfl (fun K hK => ?_)
  go_simp
  go_at_call 18
  refine (rplates_any raw P Q c d _).mono ?_
  rintro e w11 ⟨A11, q11, rfl, hp11, hb11⟩
  try go_simp
  have hS11 : w11.heap[w.heap.size]? = some (msgO raw P c Q d) := (hb11.block _ (Array.getElem?_eq_some_iff.1 hS10).1).trans hS10
  refine hK _ _ ⟨hS11, ?_⟩
  clear hK K
  refine wpAnyH_take (i := 4) (v := .slice A10 (platesN raw) q10) rfl (by kernel_rfl) (by kernel_rfl) (by kernel_rfl) (fun _ _ _ h => h) (Or.inl ⟨by rfl, by intro w _; go_simp⟩) hS11 ?_
  refine wpAnyH_take (i := 5) (v := .slice A11 (platesN raw) q11) rfl (by kernel_rfl) (by kernel_rfl) (by kernel_rfl) (fun _ _ _ h => h) (Or.inl ⟨by rfl, by intro w _; go_simp⟩) hS11 ?_
  refine wpAnyH_done (by kernel_rfl) ?_ _
  have hb9 : Below W9.heap.size W9 W9.drew := draws (Below.refl _ _) 1
  have bb := onward (onward hb9 hb10) hb11
  have HX11 := hide ((unhide HX9).keep bb)
  have HY11 := hide ((unhide HY9).keep bb)
  have HM11 := hide ((unhide HM9).keep bb)
  have HU11 := hide ((unhide HU9).keep bb)
  have HB11 := hide (onward (unhide HB9) bb)
  have HP10 := hide (hp10.keep hb11)
  have HP11 := hide hp11
  clear HX9 HY9 HM9 HU9 HB9 HS hb9 hb10 hb11 bb hp10 hp11 hS10 hS11 hW7 hW8 hW9 HR7 HQ8
  have HPC := hide (plates_cnt (unhide HV))
  go_wp2_with (refine wpList_loadM (unhide HM11).box rfl _ rfl rfl ?_)
  refine (plates_any m M N c1 d1 _).mono ?_
  rintro e w12 ⟨A12, q12, rfl, hp12, hb12⟩
  have HX12 := hide ((unhide HX11).keep hb12)
  have HY12 := hide ((unhide HY11).keep hb12)
  have HM12 := hide ((unhide HM11).keep hb12)
  have HU12 := hide ((unhide HU11).keep hb12)
  have HB12 := hide (onward (unhide HB11) hb12)
  have HP10b := hide ((unhide HP10).keep hb12)
  have HP11b := hide ((unhide HP11).keep hb12)
  have HP12 := hide hp12
  clear HX11 HY11 HM11 HU11 HB11 HP10 HP11 hp12 hb12
  have hcnt : w12.cell? ⟨w6.heap.size, 20, none⟩ = some (.int .i64 (platesN m : Int)) := by rw [Lib.cell_of_heap (unhide HM12).box, ← unhide HPC]; rfl
  have HVL := hide (@plates_vld m)
  have hn1 := platesN_le raw
  have hn2 := platesN_le m
  generalize platesN raw = N1 at *
  generalize platesN m = N2 at *
  go_wp2_with fail
  clear hcnt
  go_loopw [14] (fun i wr => ∃ k : Nat, k ≤ N1 ∧ i = .int .i64 k ∧ Below w12.heap.size w12 wr) (fun i _ => N1 - (intOf i).toNat)
  case atStart => exact ⟨0, Nat.zero_le _, rfl, Below.refl _ _⟩
  case round =>
    obtain ⟨k, hk, rfl, hb⟩ := hrel
    obtain ⟨wo, rfl⟩ : ∃ wo : World, wo = wr := ⟨_, rfl⟩
    have HBO := hide hb
    clear hb
    by_cases hlt : k < N1
    · have kl : (k : Int) < (N1 : Int) := by omega
      have kz : (0 : Int) ≤ (k : Int) := by omega
      obtain ⟨g1, rfl, hc1⟩ := unhide HP10b (by omega)
      obtain ⟨g2, rfl, hc2⟩ := unhide HP11b (by omega)
      have a0 := kept (unhide HBO) (hc1 (k * 3) (by omega))
      have a1 := kept (unhide HBO) (hc1 (k * 3 + 1) (by omega))
      have a2 := kept (unhide HBO) (hc1 (k * 3 + 2) (by omega))
      have b0 := kept (unhide HBO) (hc2 (k * 3) (by omega))
      have b1 := kept (unhide HBO) (hc2 (k * 3 + 1) (by omega))
      have b2 := kept (unhide HBO) (hc2 (k * 3 + 2) (by omega))
      clear hc1 hc2
      go_wp2_with fail
      go_quiet (fail)
      go_wp2
      go_roundw
      case rel => exact ⟨k + 1, by omega, by go_num, draws (unhide HBO) _⟩
      case measure => simp [intOf]; omega
    · obtain rfl : k = N1 := by omega
      have HX13 := hide ((unhide HX12).keep (unhide HBO))
      have HY13 := hide ((unhide HY12).keep (unhide HBO))
      have HM13 := hide ((unhide HM12).keep (unhide HBO))
      have HU13 := hide ((unhide HU12).keep (unhide HBO))
      have HB13 := hide (onward (unhide HB12) (unhide HBO))
      have HP13 := hide ((unhide HP12).keep (unhide HBO))
      clear HX12 HY12 HM12 HU12 HB12 HP12 HP10b HP11b HBO
      go_wp2
      go_loopw [15] (fun i wr => ∃ k : Nat, k ≤ N2 ∧ i = .int .i64 k ∧ Below wo.heap.size wo wr) (fun i _ => N2 - (intOf i).toNat)
      case atStart => exact ⟨0, Nat.zero_le _, rfl, Below.refl _ _⟩
      case round =>
        obtain ⟨j, hj, rfl, hb⟩ := hrel
        obtain ⟨wi, rfl⟩ : ∃ wi : World, wi = wr := ⟨_, rfl⟩
        have HBI := hide hb
        clear hb
        by_cases hlt : j < N2
        · have jl : (j : Int) < (N2 : Int) := by omega
          have jz : (0 : Int) ≤ (j : Int) := by omega
          obtain ⟨g, rfl, hc⟩ := unhide HP13 (by omega)
          have a1 := kept (unhide HBI) (hc (j * 3 + 1) (by omega))
          have a2 := kept (unhide HBI) (hc (j * 3 + 2) (by omega))
          rw [runC1] at a1
          rw [runC2] at a2
          have hbx := ((unhide HBI).block _ (unhide HM13).lt).trans (unhide HM13).box
          have z18 : wi.cell? ⟨w6.heap.size, 18, none⟩ = some (.int .i64 m.pa) := by rw [Lib.cell_of_heap hbx]; rfl
          have z19 : wi.cell? ⟨w6.heap.size, 19, none⟩ = some (.int .i64 m.ps) := by rw [Lib.cell_of_heap hbx]; rfl
          obtain ⟨p0, p1⟩ := unhide HVL (by omega)
          have hmod : Int.tmod (m.ps + (j : Int)) 1000000 = (m.ps + (j : Int)) % 1000000 := Int.tmod_eq_emod_of_nonneg (by omega)
          clear hc hbx
          go_wp2_with fail
          go_quiet (fail)
          go_wp2
          go_roundw
          case rel => exact ⟨j + 1, by omega, by go_num, draws (unhide HBI) _⟩
          case measure => simp [intOf]; omega
        · obtain rfl : j = N2 := by omega
          have hm := (valE_ok.1 (unhide HV)).2.2.1
          unfold limB at hm
          rw [Bool.and_eq_true, decide_eq_true_eq, decide_eq_true_eq] at hm
          obtain ⟨hm1, hm2⟩ := hm
          obtain ⟨hr1, hr2, -⟩ := unhide HL
          have BX := (unhide HX13).keep (unhide HBI)
          have BY := (unhide HY13).keep (unhide HBI)
          have BM := (unhide HM13).keep (unhide HBI)
          have BU := (unhide HU13).keep (unhide HBI)
          have HB14 := hide (onward (unhide HB13) (unhide HBI))
          obtain ⟨x, hx⟩ : ∃ x, sameM m u = x := ⟨_, rfl⟩
          obtain ⟨y, hy⟩ : ∃ y, sameM raw oth = y := ⟨_, rfl⟩
          have T1 := hide (fun t : After wi => by
            have h := same_any wi.heap.size m u M U N V c1 c2 d1 d2 t.to (by omega) (by omega) (BM.legs.keep t.is) (BU.legs.keep t.is) (BM.nums.keep t.is) (BU.nums.keep t.is)
            rw [hx] at h
            exact h)
          have T2 := hide (fun t : After wi => by
            have h := rsame4_any wi.heap.size m u M U N V c1 c2 d1 d2 t.to (by omega) (by omega) (BM.legs.keep t.is) (BU.legs.keep t.is) (BM.nums.keep t.is) (BU.nums.keep t.is)
            rw [hx] at h
            exact h)
          have T3 := hide (fun t : After wi => by
            have h := same_any wi.heap.size raw oth P P' Q Q' c c' d d' t.to (by omega) (by omega) (BX.legs.keep t.is) (BY.legs.keep t.is) (BX.nums.keep t.is) (BY.nums.keep t.is)
            rw [hy] at h
            exact h)
          have T4 := hide (fun t : After wi => by
            have h := rsame4_any wi.heap.size raw oth P P' Q Q' c c' d d' t.to (by omega) (by omega) (BX.legs.keep t.is) (BY.legs.keep t.is) (BX.nums.keep t.is) (BY.nums.keep t.is)
            rw [hy] at h
            exact h)
          have T5 := hide (fun t : After wi => by
            have h := same_any wi.heap.size raw raw P P Q Q c c d d t.to (by omega) (by omega) (BX.legs.keep t.is) (BX.legs.keep t.is) (BX.nums.keep t.is) (BX.nums.keep t.is)
            rw [show sameM raw raw = true from decide_eq_true rfl] at h
            exact h)
          have T6 := hide (fun t : After wi => awake_msg t.to ((unhide HK).keep (onward (unhide HB14) t.is)) ((unhide HT).keep (onward (unhide HB14) t.is)))
          have QX := hide (fun (w' : World) (hw' : ∃ t : After wi, w' = t.to) => show w'.heap[w.heap.size]? = some (msgO raw P c Q d) by
            obtain ⟨t, rfl⟩ := hw'
            rw [t.is.block _ BX.lt]; exact BX.box)
          have QY := hide (fun (w' : World) (hw' : ∃ t : After wi, w' = t.to) => show w'.heap[w.heap.size + 1]? = some (msgO oth P' c' Q' d') by
            obtain ⟨t, rfl⟩ := hw'
            rw [t.is.block _ BY.lt]; exact BY.box)
          have QM := hide (fun (w' : World) (hw' : ∃ t : After wi, w' = t.to) => show w'.heap[w6.heap.size]? = some (msgO m M c1 N d1) by
            obtain ⟨t, rfl⟩ := hw'
            rw [t.is.block _ BM.lt]; exact BM.box)
          have QU := hide (fun (w' : World) (hw' : ∃ t : After wi, w' = t.to) => show w'.heap[w6.heap.size + 1]? = some (msgO u U c2 V d2) by
            obtain ⟨t, rfl⟩ := hw'
            rw [t.is.block _ BU.lt]; exact BU.box)
          clear hx hy BX BY BM BU hm1 hm2 hr1 hr2 HX13 HY13 HM13 HU13 HB13 HBI HP13 HVL HPC HL HV
          go_wp2_with fail
          cases x <;> cases y
          all_goals
            refine wp_region_after (by kernel_rfl) (by kernel_rfl) ?_
            repeat (first
              | (refine BigFrame.wpQuiet_want rfl (fun K hK => ?_)
                 (first
                   | (refine quiet_loadM _ rfl rfl (unhide QM) (hK _ ?_))
                   | (refine quiet_loadM _ rfl rfl (unhide QU) (hK _ ?_))
                   | (refine quiet_loadM _ rfl rfl (unhide QX) (hK _ ?_))
                   | (refine quiet_loadM _ rfl rfl (unhide QY) (hK _ ?_)))
                 clear hK K
                 try simp only [Act.put, List.setIfInBounds_toArray, List.set_cons_succ, List.set_cons_zero])
              | (go_big_quiet_step ((first
                  | (go_at_call 19; (first | (with_reducible exact After.call (unhide T1 _)) | (with_reducible exact After.call (unhide T3 _)) | (with_reducible exact After.call (unhide T5 _))))
                  | (go_at_call 20; (first | (with_reducible exact After.call (unhide T2 _)) | (with_reducible exact After.call (unhide T4 _))))
                  | (go_at_call 11; exact After.call (unhide T6 _))))))
            refine wpQuiet_nil ?_
            rintro _ ⟨t, rfl⟩
            go_wp2
            go_ret
            exact ⟨rfl, onward (unhide HB14) t.is⟩
end Go.Proofs.YtjlafhfbgdjlcaaDoor
