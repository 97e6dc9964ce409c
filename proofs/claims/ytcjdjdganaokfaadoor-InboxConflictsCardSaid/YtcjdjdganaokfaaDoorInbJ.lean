/-
  Receive: accepted, held, or nothing changes.
-/
import Derived.Test.YtcjdjdganaokfaaDoorInbI

/- InbJ: Contract of Receive where the message is accepted or held: the sender is known. -/
namespace Go.Proofs.YtcjdjdganaokfaaDoor
open Go.RowKit

set_option maxHeartbeats 8000000 in
set_option maxRecDepth 100000 in
theorem rcv_old1 (b : Nat) (win : Int) (A : Option Addr) (c : Nat) (ss : List SnS) (x : MsS) (w : World) (hI : Ibx b w win A ss x.m) (hK : Keys w) (hb : b < w.heap.size) (hx : x.Lies b w) (hv : valE x.m = 0) (hz1 : x.m.onw.length ≤ 1000) (hz2 : x.m.lst.length ≤ 1000)
    (hh : hasF (portC x.m.port) ss = true) (hw : decR (ss.getD (lbF (portC x.m.port) ss) sn0) win x.m = 1) :
    Calls Tryd.prog 18 #[ibV win A ss.length c, x.v] w fun e w' => ∃ (A' : Option Addr) (c' : Nat) (ss' : List SnS) (Ao : Option Addr) (co : Nat) (out : List MsS),
      e = .returned (.tuple #[ibV win A' ss'.length c', .slice Ao out.length co, .int .i64 1, .int .i64 0]) ∧ ss'.map SnS.mod = (ss.map SnS.mod).set (lbF (portM x.m.port) (ss.map SnS.mod)) (rcvS (ss.getD (lbF (portC x.m.port) ss) sn0).mod x.m) ∧ out.map (·.m) = rcvO (ss.getD (lbF (portC x.m.port) ss) sn0).mod x.m ∧ (∀ b', b' < w.heap.size → SndsIn b' w' A' ss') ∧ (∀ b', b' < w.heap.size → MsgsIn b' w' Ao out) ∧ Below w.heap.size w w' := by
  obtain ⟨W1, hW⟩ : ∃ W1 : World, ((w.alloc (ibO win A ss.length c)).alloc (.cells x.arr 32)).alloc (ibO 0 none 0 0) = W1 := ⟨_, rfl⟩
  have b1 : Below w.heap.size w W1 := by rw [← hW]; exact below_new (below_new ((Below.refl _ _).alloc (Nat.le_refl _) _) _) _
  have hX1 : W1.heap[w.heap.size]? = some (ibO win A ss.length c) := by rw [← hW, Below.heap_alloc _ _ _ (by rw [World.size_alloc, World.size_alloc]; omega), Below.heap_alloc _ _ _ (by rw [World.size_alloc]; omega)]; exact heap_alloc_new w _
  have hM1 : W1.heap[w.heap.size + 1]? = some (.cells x.arr 32 (0, 0)) := by
    rw [← hW, Below.heap_alloc _ _ _ (by rw [World.size_alloc, World.size_alloc]; omega)]
    have := heap_alloc_new (w.alloc (ibO win A ss.length c)) (.cells x.arr 32)
    rwa [World.size_alloc] at this
  have hR1 : W1.heap[w.heap.size + 2]? = some (ibO 0 none 0 0) := by
    rw [← hW]
    have := heap_alloc_new ((w.alloc (ibO win A ss.length c)).alloc (.cells x.arr 32)) (ibO 0 none 0 0)
    rwa [World.size_alloc, World.size_alloc] at this
  have hz := b1.size
  have hsz1 : w.heap.size + 3 = W1.heap.size := by rw [← hW, World.size_alloc, World.size_alloc, World.size_alloc]
  have hVal := val_any b x.m x.P x.Q x.c x.d W1 (by omega) (by omega) (hx.1.keep b1) (hx.2.keep b1) (hK.keep b1)
  rw [hv] at hVal
  have HVal := hide hVal
  have HM1 := hide hM1
  have HX1 := hide hX1
  have HR1 := hide hR1
  have HI := hide hI
  have HB1 := hide b1
  have HL := hide hx
  have HSZ := hide hsz1
  have HH := hide hh
  have HWt := hide hw
  have HBb := hide hb
  clear hVal hM1 hX1 hR1 hI b1 hx hK hv hz hsz1 hh hw hb
  go_enter Tryd.func18, Tryd.ntmps18
  go_wp2_with (refine wpList_loadM (unhide HM1) rfl _ rfl rfl ?_)
  refine (unhide HVal).mono ?_
  rintro e w2 ⟨rfl, hb2⟩
  have hsz1 := unhide HSZ
  have hX2 := (hb2.block _ (by omega)).trans (unhide HX1)
  have hM2 := (hb2.block _ (by omega)).trans (unhide HM1)
  have hR2 := (hb2.block _ (by omega)).trans (unhide HR1)
  have bw2 := onward (unhide HB1) hb2
  have y2 : w2.cell? ⟨w.heap.size + 1, 2, none⟩ = some (.string x.m.port) := by rw [Lib.cell_of_heap hM2]; rfl
  have hFd := find_any b win A c ss x.m.port w2 ((unhide HI).ins.keep bw2) (by have := (unhide HI).len; omega) (unhide HI).mono
  rw [unhide HH] at hFd
  have HFd := hide hFd
  have HX2 := hide hX2
  have HM2 := hide hM2
  have HR2 := hide hR2
  have HB2 := hide bw2
  have HZ2 := hide hb2.size
  clear hb2 hX2 hM2 hR2 bw2 hFd HVal HM1 HX1 HR1 HB1
  go_wp2_with (refine wpList_loadI (unhide HX2) rfl _ rfl rfl ?_)
  refine (unhide HFd).mono ?_
  rintro e w3 ⟨rfl, hb3⟩
  have hz2' := unhide HZ2
  have hX3 := (hb3.block _ (by omega)).trans (unhide HX2)
  have hM3 := (hb3.block _ (by omega)).trans (unhide HM2)
  have hR3 := (hb3.block _ (by omega)).trans (unhide HR2)
  have bw3 := onward (unhide HB2) hb3
  have hil : lbF (portC x.m.port) ss < ss.length := hasF_lt (unhide HH)
  obtain ⟨g, off, rfl, -, hc, hlh⟩ := ((unhide HI).ins.keep bw3).at hil
  have hmem : ss.getD (lbF (portC x.m.port) ss) sn0 ∈ ss := by rw [at_k hil]; exact List.getElem_mem _
  have il : (lbF (portC x.m.port) ss : Int) < (ss.length : Int) := by omega
  obtain ⟨s, hs⟩ : ∃ s, ss.getD (lbF (portC x.m.port) ss) sn0 = s := ⟨_, rfl⟩
  rw [hs] at hc hlh hmem
  have hfs := (unhide HI).few s hmem
  have hms := (unhide HI).monoH s hmem
  have hns := (unhide HI).next s hmem
  have HC := hide hc
  have HSS := hide hs
  have hb4 := (Below.refl w3.heap.size w3).alloc (Nat.le_refl _) (.cells s.arr 93)
  have hX4 := (hb4.block _ (Array.getElem?_eq_some_iff.1 hX3).1).trans hX3
  have hM4 := (hb4.block _ (Array.getElem?_eq_some_iff.1 hM3).1).trans hM3
  have hR4 := (hb4.block _ (Array.getElem?_eq_some_iff.1 hR3).1).trans hR3
  have hS4 := heap_alloc_new w3 (.cells s.arr 93)
  have bw4 := onward bw3 hb4
  have hwin := (unhide HI).win0
  have hwin1 := (unhide HI).win1
  have hdc := decide_any b s win x (w3.alloc (.cells s.arr 93)) (hlh.keep hb4) (by have := hfs.2; omega) ((unhide HL).keep bw4) hfs.1.2 hms hns.1 (by have := hns.2; omega) hwin (by omega)
  have hwt := unhide HWt
  rw [unhide HSS] at hwt
  rw [hwt] at hdc
  have HDc := hide hdc
  have HX3 := hide hX3
  have HX4 := hide hX4
  have HM4 := hide hM4
  have HR4 := hide hR4
  have HS4 := hide hS4
  have HB4 := hide bw4
  have HFS := hide hfs
  have HMS := hide hms
  have HNS := hide hns
  have HZ3 := hide hb3.size
  have y3 := y2
  have z1 : w3.cell? ⟨w.heap.size, 1, none⟩ = some (.slice (some ⟨g, off, none⟩) ss.length c) := by rw [Lib.cell_of_heap hX3]; rfl
  have z2 : w3.cell? ⟨w.heap.size + 1, 2, none⟩ = some (.string x.m.port) := by rw [Lib.cell_of_heap hM3]; rfl
  have x0 : (w3.alloc (.cells s.arr 93)).cell? ⟨w.heap.size, 0, none⟩ = some (.int .i64 win) := by rw [Lib.cell_of_heap hX4]; rfl
  have z1' := alloc_cell z1 (.cells (sns0 x.m.port).arr 93)
  have HC' := hide (fun (j : Nat) (u : Value) (hu : s.arr[j]? = some u) => alloc_cell ((unhide HC) j u hu) (.cells (sns0 x.m.port).arr 93))
  clear hb3 hX3 hM3 hR3 bw3 hb4 hX4 hM4 hR4 hS4 bw4 hdc hwt hfs hms hns hlh hs y2 y3 hwin hwin1 hz2' HFd HX2 HM2 HR2 HB2 hc hmem hil
  go_wp2_with (first
    | (refine wpList_storeS_new (g := w3.heap.size) rfl (sns0 x.m.port) rfl _ _ rfl rfl rfl rfl ?_)
    | (refine wpList_load_at rfl _ _ rfl g (off + lbF (portC x.m.port) ss * 3) rfl s.arr _ (unhide HC') undS' undS infoS ?_)
    | (refine wpList_storeS_new (g := w3.heap.size) rfl s rfl _ _ rfl rfl rfl rfl ?_)
    | (refine wpList_loadS (unhide HS4) rfl _ rfl rfl ?_)
    | (refine wpList_loadM (unhide HM4) rfl _ rfl rfl ?_))
  refine (unhide HDc).mono ?_
  rintro e w5 ⟨rfl, hb5⟩
  have bw5 := onward (unhide HB4) hb5
  have hX5 := (hb5.block _ (Array.getElem?_eq_some_iff.1 (unhide HX4)).1).trans (unhide HX4)
  have hM5 := (hb5.block _ (Array.getElem?_eq_some_iff.1 (unhide HM4)).1).trans (unhide HM4)
  have hR5 := (hb5.block _ (Array.getElem?_eq_some_iff.1 (unhide HR4)).1).trans (unhide HR4)
  have hS5 := (hb5.block _ (Array.getElem?_eq_some_iff.1 (unhide HS4)).1).trans (unhide HS4)
  have HX5 := hide hX5
  have HCp := hide (cpi_any b win (some ⟨g, off, none⟩) c ss w5 ((unhide HI).ins.keep bw5) (by have := (unhide HI).len; omega) (fun s hs => ((unhide HI).few s hs).1))
  have HM5 := hide hM5
  have HR5 := hide hR5
  have HS5 := hide hS5
  have HB5 := hide bw5
  have u1 : w5.cell? ⟨w.heap.size, 1, none⟩ = some (.slice (some ⟨g, off, none⟩) ss.length c) := by rw [Lib.cell_of_heap hX5]; rfl
  clear hb5 bw5 hX5 hM5 hR5 hS5 HDc HX3 HX4 HM4 HR4 HS4 HB4 z1 z2 x0 z1' HC' HC
  go_wp2_with (refine wpList_loadI (unhide HX5) rfl _ rfl rfl ?_)
  clear u1
  refine (unhide HCp).mono ?_
  rintro e w6 ⟨A1, c1, ss1, rfl, hmod, hown, hb6⟩
  have hb7 := (Below.refl w6.heap.size w6).alloc (Nat.le_refl _) (ibO win A1 ss1.length c1)
  have hb57 := onward hb6 hb7
  have hY7 := heap_alloc_new w6 (ibO win A1 ss1.length c1)
  have hM7 := (hb57.block _ (Array.getElem?_eq_some_iff.1 (unhide HM5)).1).trans (unhide HM5)
  have hR7 := (hb57.block _ (Array.getElem?_eq_some_iff.1 (unhide HR5)).1).trans (unhide HR5)
  have hS7 := (hb57.block _ (Array.getElem?_eq_some_iff.1 (unhide HS5)).1).trans (unhide HS5)
  have hO7 := hown.below hb7
  have hBw7 := onward (unhide HB5) hb57
  have hlen1 : ss1.length = ss.length := by have := congrArg List.length hmod; simpa using this
  have HM7l := hide (Array.getElem?_eq_some_iff.1 (unhide HM5)).1
  have HR7l := hide (Array.getElem?_eq_some_iff.1 (unhide HR5)).1
  have HZ67 := hide hb6.size
  have HMod := hide hmod
  have HLen := hide hlen1
  clear hlen1 hmod

  obtain ⟨WH, hWH⟩ : ∃ WH : World, w6.alloc (ibO win A1 ss1.length c1) = WH := ⟨_, rfl⟩
  rw [hWH] at hY7 hM7 hR7 hS7 hO7 hBw7
  have hbz : w5.heap.size ≤ WH.heap.size := by rw [← hWH]; exact hb57.size
  clear hb7 hb57 hown hb6
  go_wp2_with (refine wpList_storeI_new (g := w6.heap.size) rfl win A1 ss1.length c1 rfl _ _ rfl rfl rfl rfl ?_)
  have hi : lbF (portC x.m.port) ss < ss1.length := by have := hasF_lt (unhide HH); have := unhide HLen; omega
  have hsI : (ss1.getD (lbF (portC x.m.port) ss) sn0).mod = s.mod := by rw [← unhide HSS]; exact mod_at (unhide HMod) (hasF_lt (unhide HH))
  obtain ⟨WD, hWD⟩ : ∃ WD : World, WH.drew = WD := ⟨_, rfl⟩
  have hbD : Below WH.heap.size WH WD := by rw [← hWD]; exact (Below.refl _ _).drew
  have hOD := hO7.below hbD
  have hYD := (hbD.block _ (Array.getElem?_eq_some_iff.1 hY7).1).trans hY7
  have hMD := (hbD.block _ (Array.getElem?_eq_some_iff.1 hM7).1).trans hM7
  have hRD := (hbD.block _ (Array.getElem?_eq_some_iff.1 hR7).1).trans hR7
  have bwD := onward hBw7 hbD
  have hbzD : w5.heap.size ≤ WD.heap.size := Nat.le_trans hbz hbD.size
  have hbb : b < w5.heap.size := Nat.lt_of_lt_of_le (unhide HBb) (unhide HB5).size
  have hmi : (ss1.getD (lbF (portC x.m.port) ss) sn0).held.map (·.m) = s.held.map (·.m) := congrArg Snd.held hsI
  have hpi : (ss1.getD (lbF (portC x.m.port) ss) sn0).port = s.port := congrArg Snd.port hsI
  have hni : (ss1.getD (lbF (portC x.m.port) ss) sn0).next = s.next := congrArg Snd.next hsI
  have hli : (ss1.getD (lbF (portC x.m.port) ss) sn0).held.length ≤ 900 := by
    have e := congrArg List.length hmi
    simp only [List.length_map] at e
    have := (unhide HFS).2
    omega
  obtain ⟨G, hAI, hHold⟩ := hold_at b w5.heap.size (lbF (portC x.m.port) ss) A1 c1 ss1 x WD hOD hi hbb hbzD hli ((unhide HL).keep bwD) hz1 hz2 (mono_of hmi (unhide HMS))
  subst hAI
  have il2 : (lbF (portC x.m.port) ss : Int) < (ss1.length : Int) := by have := hi; omega
  have HHold := hide hHold
  have HYD := hide hYD
  have HMD := hide hMD
  have HRD := hide hRD
  have HBD := hide bwD
  have HIi := hide hi
  have HBB := hide hbb
  have HBZ := hide hbzD
  have HMI := hide hmi
  have HPI := hide hpi
  have HNI := hide hni
  clear hHold hYD hMD hRD bwD hi hbb hbzD hOD hli hbD hY7 hM7 hR7 hS7 hO7 hBw7 hbz hsI hmi hpi hni HS5 HM5 HR5 HX5 HCp
  refine wp_region_held (S := fun X => X.heap[w.heap.size + 1]? = some (.cells x.arr 32 (0, 0)) ∧ X.heap[w6.heap.size]? = some (ibO win (some ⟨G, 0, none⟩) ss1.length c1)) (by kernel_rfl) ?_
  have HS0 := hide (show (WH.drew).heap[w.heap.size + 1]? = some (.cells x.arr 32 (0, 0)) ∧ (WH.drew).heap[w6.heap.size]? = some (ibO win (some ⟨G, 0, none⟩) ss1.length c1) from by rw [hWD]; exact ⟨unhide HMD, unhide HYD⟩)
  refine wpAnyH_take (i := 0) (v := .pointer (some ⟨w6.heap.size, 1, none⟩)) rfl (by kernel_rfl) (by kernel_rfl) (by kernel_rfl) (fun _ _ _ h => h) (Or.inl ⟨by rfl, by intro w _; go_simp⟩) (unhide HS0) ?_
  refine wpAnyH_take (i := 1) (v := .slice (some ⟨G, 0, none⟩) ss1.length c1) rfl (by kernel_rfl) (by kernel_rfl) (by kernel_rfl) (fun _ _ _ h => h) (Or.inl ⟨by rfl, by intro w hS; have hc1 := Lib.cell_of_heap hS.2 1; go_simp⟩) (unhide HS0) ?_
  refine wpAnyH_take (i := 2) (v := .int .i64 (lbF (portC x.m.port) ss : Nat)) rfl (by kernel_rfl) (by kernel_rfl) (by kernel_rfl) (fun _ _ _ h => h) (Or.inl ⟨by rfl, by intro w _; go_simp⟩) (unhide HS0) ?_
  refine wpAnyH_take (i := 3) (v := .pointer (some ⟨G, lbF (portC x.m.port) ss * 3, none⟩)) rfl (by kernel_rfl) (by kernel_rfl) (by kernel_rfl) (fun _ _ _ h => h) (Or.inl ⟨by rfl, by intro w _; go_simp⟩) (unhide HS0) ?_
  refine wpAnyH_take (i := 4) (v := x.v) rfl (by kernel_rfl) (by kernel_rfl) (by kernel_rfl) (fun _ _ _ h => h) (yields_loadM _ rfl rfl rfl (fun _ h => h.1)) (unhide HS0) ?_
  refine wpAnyH_one (i := 5) (by kernel_rfl) rfl (fun K hK => ?_)
  go_simp
  go_at_call 41
  refine (unhide HHold).mono ?_
  rintro e wA ⟨rfl, s1, cur, hHalf, hp1, hn1, hh1, hbA, hkA⟩
  try go_simp
  have hMA := (hbA.block _ (Nat.lt_of_lt_of_le (unhide HM7l) (Nat.le_refl _))).trans (unhide HMD)
  have hRA := (hbA.block _ (unhide HR7l)).trans (unhide HRD)
  have hYA := hkA _ _ _ (unhide HYD)
  refine hK _ _ ⟨⟨hMA, hYA⟩, ?_⟩
  clear hK K
  refine wpAnyH_done (by kernel_rfl) ?_ _
  have v1 : wA.cell? ⟨w6.heap.size, 1, none⟩ = some (.slice (some ⟨G, 0, none⟩) ss1.length c1) := by rw [Lib.cell_of_heap hYA]; rfl
  have hh2 : s1.held.map (·.m) = rcvH s.mod x.m := by rw [hh1, unhide HMI]; rfl
  have hlen1 : s1.held.length = s.held.length + 1 := by
    have e := congrArg List.length hh2
    unfold rcvH at e
    rw [insL_len] at e
    simpa [SnS.mod] using e
  have hfs := unhide HFS
  have hns := unhide HNS
  have hfew : FewM s1.held := by
    refine ⟨by have := hfs.2; omega, fun u hu => ?_⟩
    have hm1 : u.m ∈ s1.held.map (·.m) := List.mem_map.2 ⟨u, hu, rfl⟩
    rw [hh2] at hm1
    rcases insL_mem hm1 with e | hm1
    · rw [e]; exact ⟨hz1, hz2⟩
    · obtain ⟨v, hv, e⟩ := List.mem_map.1 hm1
      rw [← e]; exact hfs.1.2 v hv
  have hn1' : s1.next = s.next := hn1.trans (unhide HNI)
  have hp1' : s1.port = s.port := hp1.trans (unhide HPI)
  have HRel := hide (release_at b w5.heap.size G (lbF (portC x.m.port) ss) ss1 s1 wA cur hHalf (unhide HIi) (unhide HBB) (by omega) hfew (by rw [hn1']; exact hns.1) (by rw [hn1']; have := hns.2; omega))
  have HYA := hide hYA
  have HRA := hide hRA
  have HBA := hide hbA
  have HH2 := hide hh2
  have HN1 := hide hn1'
  have HP1 := hide hp1'
  clear hHalf hp1 hn1 hh1 hbA hkA hMA hRA hYA hh2 hlen1 hfs hns hfew hn1' hp1' HHold HYD HMD
  go_wp2_with fail
  refine (unhide HRel).mono ?_
  rintro e wB ⟨Ao, co, ys, s2, rfl, hys, hyo, hs2, hin, hbB, hkB⟩
  have HYB := hide (hkB _ _ _ (unhide HYA))
  have HRB := hide ((hbB.block _ (unhide HR7l)).trans (unhide HRA))
  have HIN := hide hin
  have HBBB := hide hbB
  have HYO := hide hyo
  have HYS := hide hys
  have HS2 := hide hs2
  clear hys hyo hs2 hin hbB hkB v1
  go_wp2_with (first
    | (refine wpList_storeI (unhide HRB) win (some ⟨G, 0, none⟩) ss1.length c1 rfl _ _ rfl rfl rfl rfl ?_)
    | (refine wpList_loadI (unhide HYB) rfl _ rfl rfl ?_))
  have hR := setRow_heap wB (w.heap.size + 2) _ #[.int .i64 win, .slice (some ⟨G, 0, none⟩) ss1.length c1] _ _ (unhide HRB)
  have r0 := Lib.cell_of_heap hR 0
  have r1 := Lib.cell_of_heap hR 1
  refine bodyPost_ret (v := .tuple #[ibV win (some ⟨G, 0, none⟩) ss1.length c1, .slice Ao ys.length co, .int .i64 1, .int .i64 0]) (by simp [results, go_sem, r0, r1]) rfl ?_
  have hs2 : s2.mod = rcvS s.mod x.m := by
    have e := unhide HS2
    rw [unhide HH2, unhide HN1, unhide HP1] at e
    exact e
  have hgr := gr_setRow wB (w.heap.size + 2) #[.int .i64 win, .slice (some ⟨G, 0, none⟩) ss1.length c1]
  have hbw : w.heap.size ≤ w5.heap.size := (unhide HB5).size
  refine ⟨some ⟨G, 0, none⟩, c1, (ss1).set (lbF (portC x.m.port) ss) s2, Ao, co, ys, by rw [List.length_set], ?_, ?_, ?_, ?_, ?_⟩
  · rw [List.map_set, unhide HMod, hs2, unhide HSS, portC_lb]
  · rw [unhide HYS, unhide HH2, unhide HN1, unhide HSS]; rfl
  · exact fun b' hb' => ((unhide HIN _ (unhide HR7l)).grown hgr).merge (unhide HIN b' (by omega))
  · exact fun b' hb' => ((unhide HYO).step (KeepTy.setRow (unhide HRB) (by decide)) (KeepTy.setRow (unhide HRB) (by decide)) (KeepTy.setRow (unhide HRB) (by decide))).ins (by have := unhide HBZ; have := (unhide HBA).size; omega)
  · exact below_setRow (((unhide HBD).trans ((unhide HBA).mono hbw)).trans ((unhide HBBB).mono hbw)) (by omega) _

set_option maxHeartbeats 8000000 in
set_option maxRecDepth 100000 in
theorem rcv_old2 (b : Nat) (win : Int) (A : Option Addr) (c : Nat) (ss : List SnS) (x : MsS) (w : World) (hI : Ibx b w win A ss x.m) (hK : Keys w) (hb : b < w.heap.size) (hx : x.Lies b w) (hv : valE x.m = 0) (hz1 : x.m.onw.length ≤ 1000) (hz2 : x.m.lst.length ≤ 1000)
    (hh : hasF (portC x.m.port) ss = true) (hw : decR (ss.getD (lbF (portC x.m.port) ss) sn0) win x.m = 2) :
    Calls Tryd.prog 18 #[ibV win A ss.length c, x.v] w fun e w' => ∃ (A' : Option Addr) (c' : Nat) (ss' : List SnS) (Ao : Option Addr) (co : Nat) (out : List MsS),
      e = .returned (.tuple #[ibV win A' ss'.length c', .slice Ao out.length co, .int .i64 2, .int .i64 0]) ∧ ss'.map SnS.mod = (ss.map SnS.mod).set (lbF (portM x.m.port) (ss.map SnS.mod)) (rcvS (ss.getD (lbF (portC x.m.port) ss) sn0).mod x.m) ∧ out.map (·.m) = rcvO (ss.getD (lbF (portC x.m.port) ss) sn0).mod x.m ∧ (∀ b', b' < w.heap.size → SndsIn b' w' A' ss') ∧ (∀ b', b' < w.heap.size → MsgsIn b' w' Ao out) ∧ Below w.heap.size w w' := by
  obtain ⟨W1, hW⟩ : ∃ W1 : World, ((w.alloc (ibO win A ss.length c)).alloc (.cells x.arr 32)).alloc (ibO 0 none 0 0) = W1 := ⟨_, rfl⟩
  have b1 : Below w.heap.size w W1 := by rw [← hW]; exact below_new (below_new ((Below.refl _ _).alloc (Nat.le_refl _) _) _) _
  have hX1 : W1.heap[w.heap.size]? = some (ibO win A ss.length c) := by rw [← hW, Below.heap_alloc _ _ _ (by rw [World.size_alloc, World.size_alloc]; omega), Below.heap_alloc _ _ _ (by rw [World.size_alloc]; omega)]; exact heap_alloc_new w _
  have hM1 : W1.heap[w.heap.size + 1]? = some (.cells x.arr 32 (0, 0)) := by
    rw [← hW, Below.heap_alloc _ _ _ (by rw [World.size_alloc, World.size_alloc]; omega)]
    have := heap_alloc_new (w.alloc (ibO win A ss.length c)) (.cells x.arr 32)
    rwa [World.size_alloc] at this
  have hR1 : W1.heap[w.heap.size + 2]? = some (ibO 0 none 0 0) := by
    rw [← hW]
    have := heap_alloc_new ((w.alloc (ibO win A ss.length c)).alloc (.cells x.arr 32)) (ibO 0 none 0 0)
    rwa [World.size_alloc, World.size_alloc] at this
  have hz := b1.size
  have hsz1 : w.heap.size + 3 = W1.heap.size := by rw [← hW, World.size_alloc, World.size_alloc, World.size_alloc]
  have hVal := val_any b x.m x.P x.Q x.c x.d W1 (by omega) (by omega) (hx.1.keep b1) (hx.2.keep b1) (hK.keep b1)
  rw [hv] at hVal
  have HVal := hide hVal
  have HM1 := hide hM1
  have HX1 := hide hX1
  have HR1 := hide hR1
  have HI := hide hI
  have HB1 := hide b1
  have HL := hide hx
  have HSZ := hide hsz1
  have HH := hide hh
  have HWt := hide hw
  have HBb := hide hb
  clear hVal hM1 hX1 hR1 hI b1 hx hK hv hz hsz1 hh hw hb
  go_enter Tryd.func18, Tryd.ntmps18
  go_wp2_with (refine wpList_loadM (unhide HM1) rfl _ rfl rfl ?_)
  refine (unhide HVal).mono ?_
  rintro e w2 ⟨rfl, hb2⟩
  have hsz1 := unhide HSZ
  have hX2 := (hb2.block _ (by omega)).trans (unhide HX1)
  have hM2 := (hb2.block _ (by omega)).trans (unhide HM1)
  have hR2 := (hb2.block _ (by omega)).trans (unhide HR1)
  have bw2 := onward (unhide HB1) hb2
  have y2 : w2.cell? ⟨w.heap.size + 1, 2, none⟩ = some (.string x.m.port) := by rw [Lib.cell_of_heap hM2]; rfl
  have hFd := find_any b win A c ss x.m.port w2 ((unhide HI).ins.keep bw2) (by have := (unhide HI).len; omega) (unhide HI).mono
  rw [unhide HH] at hFd
  have HFd := hide hFd
  have HX2 := hide hX2
  have HM2 := hide hM2
  have HR2 := hide hR2
  have HB2 := hide bw2
  have HZ2 := hide hb2.size
  clear hb2 hX2 hM2 hR2 bw2 hFd HVal HM1 HX1 HR1 HB1
  go_wp2_with (refine wpList_loadI (unhide HX2) rfl _ rfl rfl ?_)
  refine (unhide HFd).mono ?_
  rintro e w3 ⟨rfl, hb3⟩
  have hz2' := unhide HZ2
  have hX3 := (hb3.block _ (by omega)).trans (unhide HX2)
  have hM3 := (hb3.block _ (by omega)).trans (unhide HM2)
  have hR3 := (hb3.block _ (by omega)).trans (unhide HR2)
  have bw3 := onward (unhide HB2) hb3
  have hil : lbF (portC x.m.port) ss < ss.length := hasF_lt (unhide HH)
  obtain ⟨g, off, rfl, -, hc, hlh⟩ := ((unhide HI).ins.keep bw3).at hil
  have hmem : ss.getD (lbF (portC x.m.port) ss) sn0 ∈ ss := by rw [at_k hil]; exact List.getElem_mem _
  have il : (lbF (portC x.m.port) ss : Int) < (ss.length : Int) := by omega
  obtain ⟨s, hs⟩ : ∃ s, ss.getD (lbF (portC x.m.port) ss) sn0 = s := ⟨_, rfl⟩
  rw [hs] at hc hlh hmem
  have hfs := (unhide HI).few s hmem
  have hms := (unhide HI).monoH s hmem
  have hns := (unhide HI).next s hmem
  have HC := hide hc
  have HSS := hide hs
  have hb4 := (Below.refl w3.heap.size w3).alloc (Nat.le_refl _) (.cells s.arr 93)
  have hX4 := (hb4.block _ (Array.getElem?_eq_some_iff.1 hX3).1).trans hX3
  have hM4 := (hb4.block _ (Array.getElem?_eq_some_iff.1 hM3).1).trans hM3
  have hR4 := (hb4.block _ (Array.getElem?_eq_some_iff.1 hR3).1).trans hR3
  have hS4 := heap_alloc_new w3 (.cells s.arr 93)
  have bw4 := onward bw3 hb4
  have hwin := (unhide HI).win0
  have hwin1 := (unhide HI).win1
  have hdc := decide_any b s win x (w3.alloc (.cells s.arr 93)) (hlh.keep hb4) (by have := hfs.2; omega) ((unhide HL).keep bw4) hfs.1.2 hms hns.1 (by have := hns.2; omega) hwin (by omega)
  have hwt := unhide HWt
  rw [unhide HSS] at hwt
  rw [hwt] at hdc
  have HDc := hide hdc
  have HX3 := hide hX3
  have HX4 := hide hX4
  have HM4 := hide hM4
  have HR4 := hide hR4
  have HS4 := hide hS4
  have HB4 := hide bw4
  have HFS := hide hfs
  have HMS := hide hms
  have HNS := hide hns
  have HZ3 := hide hb3.size
  have y3 := y2
  have z1 : w3.cell? ⟨w.heap.size, 1, none⟩ = some (.slice (some ⟨g, off, none⟩) ss.length c) := by rw [Lib.cell_of_heap hX3]; rfl
  have z2 : w3.cell? ⟨w.heap.size + 1, 2, none⟩ = some (.string x.m.port) := by rw [Lib.cell_of_heap hM3]; rfl
  have x0 : (w3.alloc (.cells s.arr 93)).cell? ⟨w.heap.size, 0, none⟩ = some (.int .i64 win) := by rw [Lib.cell_of_heap hX4]; rfl
  have z1' := alloc_cell z1 (.cells (sns0 x.m.port).arr 93)
  have HC' := hide (fun (j : Nat) (u : Value) (hu : s.arr[j]? = some u) => alloc_cell ((unhide HC) j u hu) (.cells (sns0 x.m.port).arr 93))
  clear hb3 hX3 hM3 hR3 bw3 hb4 hX4 hM4 hR4 hS4 bw4 hdc hwt hfs hms hns hlh hs y2 y3 hwin hwin1 hz2' HFd HX2 HM2 HR2 HB2 hc hmem hil
  go_wp2_with (first
    | (refine wpList_storeS_new (g := w3.heap.size) rfl (sns0 x.m.port) rfl _ _ rfl rfl rfl rfl ?_)
    | (refine wpList_load_at rfl _ _ rfl g (off + lbF (portC x.m.port) ss * 3) rfl s.arr _ (unhide HC') undS' undS infoS ?_)
    | (refine wpList_storeS_new (g := w3.heap.size) rfl s rfl _ _ rfl rfl rfl rfl ?_)
    | (refine wpList_loadS (unhide HS4) rfl _ rfl rfl ?_)
    | (refine wpList_loadM (unhide HM4) rfl _ rfl rfl ?_))
  refine (unhide HDc).mono ?_
  rintro e w5 ⟨rfl, hb5⟩
  have bw5 := onward (unhide HB4) hb5
  have hX5 := (hb5.block _ (Array.getElem?_eq_some_iff.1 (unhide HX4)).1).trans (unhide HX4)
  have hM5 := (hb5.block _ (Array.getElem?_eq_some_iff.1 (unhide HM4)).1).trans (unhide HM4)
  have hR5 := (hb5.block _ (Array.getElem?_eq_some_iff.1 (unhide HR4)).1).trans (unhide HR4)
  have hS5 := (hb5.block _ (Array.getElem?_eq_some_iff.1 (unhide HS4)).1).trans (unhide HS4)
  have HX5 := hide hX5
  have HCp := hide (cpi_any b win (some ⟨g, off, none⟩) c ss w5 ((unhide HI).ins.keep bw5) (by have := (unhide HI).len; omega) (fun s hs => ((unhide HI).few s hs).1))
  have HM5 := hide hM5
  have HR5 := hide hR5
  have HS5 := hide hS5
  have HB5 := hide bw5
  have u1 : w5.cell? ⟨w.heap.size, 1, none⟩ = some (.slice (some ⟨g, off, none⟩) ss.length c) := by rw [Lib.cell_of_heap hX5]; rfl
  clear hb5 bw5 hX5 hM5 hR5 hS5 HDc HX3 HX4 HM4 HR4 HS4 HB4 z1 z2 x0 z1' HC' HC
  go_wp2_with (refine wpList_loadI (unhide HX5) rfl _ rfl rfl ?_)
  clear u1
  refine (unhide HCp).mono ?_
  rintro e w6 ⟨A1, c1, ss1, rfl, hmod, hown, hb6⟩
  have hb7 := (Below.refl w6.heap.size w6).alloc (Nat.le_refl _) (ibO win A1 ss1.length c1)
  have hb57 := onward hb6 hb7
  have hY7 := heap_alloc_new w6 (ibO win A1 ss1.length c1)
  have hM7 := (hb57.block _ (Array.getElem?_eq_some_iff.1 (unhide HM5)).1).trans (unhide HM5)
  have hR7 := (hb57.block _ (Array.getElem?_eq_some_iff.1 (unhide HR5)).1).trans (unhide HR5)
  have hS7 := (hb57.block _ (Array.getElem?_eq_some_iff.1 (unhide HS5)).1).trans (unhide HS5)
  have hO7 := hown.below hb7
  have hBw7 := onward (unhide HB5) hb57
  have hlen1 : ss1.length = ss.length := by have := congrArg List.length hmod; simpa using this
  have HM7l := hide (Array.getElem?_eq_some_iff.1 (unhide HM5)).1
  have HR7l := hide (Array.getElem?_eq_some_iff.1 (unhide HR5)).1
  have HZ67 := hide hb6.size
  have HMod := hide hmod
  have HLen := hide hlen1
  clear hlen1 hmod

  obtain ⟨WH, hWH⟩ : ∃ WH : World, w6.alloc (ibO win A1 ss1.length c1) = WH := ⟨_, rfl⟩
  rw [hWH] at hY7 hM7 hR7 hS7 hO7 hBw7
  have hbz : w5.heap.size ≤ WH.heap.size := by rw [← hWH]; exact hb57.size
  clear hb7 hb57 hown hb6
  go_wp2_with (refine wpList_storeI_new (g := w6.heap.size) rfl win A1 ss1.length c1 rfl _ _ rfl rfl rfl rfl ?_)
  have hi : lbF (portC x.m.port) ss < ss1.length := by have := hasF_lt (unhide HH); have := unhide HLen; omega
  have hsI : (ss1.getD (lbF (portC x.m.port) ss) sn0).mod = s.mod := by rw [← unhide HSS]; exact mod_at (unhide HMod) (hasF_lt (unhide HH))
  obtain ⟨WD, hWD⟩ : ∃ WD : World, WH.drew = WD := ⟨_, rfl⟩
  have hbD : Below WH.heap.size WH WD := by rw [← hWD]; exact (Below.refl _ _).drew
  have hOD := hO7.below hbD
  have hYD := (hbD.block _ (Array.getElem?_eq_some_iff.1 hY7).1).trans hY7
  have hMD := (hbD.block _ (Array.getElem?_eq_some_iff.1 hM7).1).trans hM7
  have hRD := (hbD.block _ (Array.getElem?_eq_some_iff.1 hR7).1).trans hR7
  have bwD := onward hBw7 hbD
  have hbzD : w5.heap.size ≤ WD.heap.size := Nat.le_trans hbz hbD.size
  have hbb : b < w5.heap.size := Nat.lt_of_lt_of_le (unhide HBb) (unhide HB5).size
  have hmi : (ss1.getD (lbF (portC x.m.port) ss) sn0).held.map (·.m) = s.held.map (·.m) := congrArg Snd.held hsI
  have hpi : (ss1.getD (lbF (portC x.m.port) ss) sn0).port = s.port := congrArg Snd.port hsI
  have hni : (ss1.getD (lbF (portC x.m.port) ss) sn0).next = s.next := congrArg Snd.next hsI
  have hli : (ss1.getD (lbF (portC x.m.port) ss) sn0).held.length ≤ 900 := by
    have e := congrArg List.length hmi
    simp only [List.length_map] at e
    have := (unhide HFS).2
    omega
  obtain ⟨G, hAI, hHold⟩ := hold_at b w5.heap.size (lbF (portC x.m.port) ss) A1 c1 ss1 x WD hOD hi hbb hbzD hli ((unhide HL).keep bwD) hz1 hz2 (mono_of hmi (unhide HMS))
  subst hAI
  have il2 : (lbF (portC x.m.port) ss : Int) < (ss1.length : Int) := by have := hi; omega
  have HHold := hide hHold
  have HYD := hide hYD
  have HMD := hide hMD
  have HRD := hide hRD
  have HBD := hide bwD
  have HIi := hide hi
  have HBB := hide hbb
  have HBZ := hide hbzD
  have HMI := hide hmi
  have HPI := hide hpi
  have HNI := hide hni
  clear hHold hYD hMD hRD bwD hi hbb hbzD hOD hli hbD hY7 hM7 hR7 hS7 hO7 hBw7 hbz hsI hmi hpi hni HS5 HM5 HR5 HX5 HCp
  refine wp_region_held (S := fun X => X.heap[w.heap.size + 1]? = some (.cells x.arr 32 (0, 0)) ∧ X.heap[w6.heap.size]? = some (ibO win (some ⟨G, 0, none⟩) ss1.length c1)) (by kernel_rfl) ?_
  have HS0 := hide (show (WH.drew).heap[w.heap.size + 1]? = some (.cells x.arr 32 (0, 0)) ∧ (WH.drew).heap[w6.heap.size]? = some (ibO win (some ⟨G, 0, none⟩) ss1.length c1) from by rw [hWD]; exact ⟨unhide HMD, unhide HYD⟩)
  refine wpAnyH_take (i := 0) (v := .pointer (some ⟨w6.heap.size, 1, none⟩)) rfl (by kernel_rfl) (by kernel_rfl) (by kernel_rfl) (fun _ _ _ h => h) (Or.inl ⟨by rfl, by intro w _; go_simp⟩) (unhide HS0) ?_
  refine wpAnyH_take (i := 1) (v := .slice (some ⟨G, 0, none⟩) ss1.length c1) rfl (by kernel_rfl) (by kernel_rfl) (by kernel_rfl) (fun _ _ _ h => h) (Or.inl ⟨by rfl, by intro w hS; have hc1 := Lib.cell_of_heap hS.2 1; go_simp⟩) (unhide HS0) ?_
  refine wpAnyH_take (i := 2) (v := .int .i64 (lbF (portC x.m.port) ss : Nat)) rfl (by kernel_rfl) (by kernel_rfl) (by kernel_rfl) (fun _ _ _ h => h) (Or.inl ⟨by rfl, by intro w _; go_simp⟩) (unhide HS0) ?_
  refine wpAnyH_take (i := 3) (v := .pointer (some ⟨G, lbF (portC x.m.port) ss * 3, none⟩)) rfl (by kernel_rfl) (by kernel_rfl) (by kernel_rfl) (fun _ _ _ h => h) (Or.inl ⟨by rfl, by intro w _; go_simp⟩) (unhide HS0) ?_
  refine wpAnyH_take (i := 4) (v := x.v) rfl (by kernel_rfl) (by kernel_rfl) (by kernel_rfl) (fun _ _ _ h => h) (yields_loadM _ rfl rfl rfl (fun _ h => h.1)) (unhide HS0) ?_
  refine wpAnyH_one (i := 5) (by kernel_rfl) rfl (fun K hK => ?_)
  go_simp
  go_at_call 41
  refine (unhide HHold).mono ?_
  rintro e wA ⟨rfl, s1, cur, hHalf, hp1, hn1, hh1, hbA, hkA⟩
  try go_simp
  have hMA := (hbA.block _ (Nat.lt_of_lt_of_le (unhide HM7l) (Nat.le_refl _))).trans (unhide HMD)
  have hRA := (hbA.block _ (unhide HR7l)).trans (unhide HRD)
  have hYA := hkA _ _ _ (unhide HYD)
  refine hK _ _ ⟨⟨hMA, hYA⟩, ?_⟩
  clear hK K
  refine wpAnyH_done (by kernel_rfl) ?_ _
  have v1 : wA.cell? ⟨w6.heap.size, 1, none⟩ = some (.slice (some ⟨G, 0, none⟩) ss1.length c1) := by rw [Lib.cell_of_heap hYA]; rfl
  have hh2 : s1.held.map (·.m) = rcvH s.mod x.m := by rw [hh1, unhide HMI]; rfl
  have hlen1 : s1.held.length = s.held.length + 1 := by
    have e := congrArg List.length hh2
    unfold rcvH at e
    rw [insL_len] at e
    simpa [SnS.mod] using e
  have hfs := unhide HFS
  have hns := unhide HNS
  have hfew : FewM s1.held := by
    refine ⟨by have := hfs.2; omega, fun u hu => ?_⟩
    have hm1 : u.m ∈ s1.held.map (·.m) := List.mem_map.2 ⟨u, hu, rfl⟩
    rw [hh2] at hm1
    rcases insL_mem hm1 with e | hm1
    · rw [e]; exact ⟨hz1, hz2⟩
    · obtain ⟨v, hv, e⟩ := List.mem_map.1 hm1
      rw [← e]; exact hfs.1.2 v hv
  have hn1' : s1.next = s.next := hn1.trans (unhide HNI)
  have hp1' : s1.port = s.port := hp1.trans (unhide HPI)
  have HRel := hide (release_at b w5.heap.size G (lbF (portC x.m.port) ss) ss1 s1 wA cur hHalf (unhide HIi) (unhide HBB) (by omega) hfew (by rw [hn1']; exact hns.1) (by rw [hn1']; have := hns.2; omega))
  have HYA := hide hYA
  have HRA := hide hRA
  have HBA := hide hbA
  have HH2 := hide hh2
  have HN1 := hide hn1'
  have HP1 := hide hp1'
  clear hHalf hp1 hn1 hh1 hbA hkA hMA hRA hYA hh2 hlen1 hfs hns hfew hn1' hp1' HHold HYD HMD
  go_wp2_with fail
  refine (unhide HRel).mono ?_
  rintro e wB ⟨Ao, co, ys, s2, rfl, hys, hyo, hs2, hin, hbB, hkB⟩
  have HYB := hide (hkB _ _ _ (unhide HYA))
  have HRB := hide ((hbB.block _ (unhide HR7l)).trans (unhide HRA))
  have HIN := hide hin
  have HBBB := hide hbB
  have HYO := hide hyo
  have HYS := hide hys
  have HS2 := hide hs2
  clear hys hyo hs2 hin hbB hkB v1
  go_wp2_with (first
    | (refine wpList_storeI (unhide HRB) win (some ⟨G, 0, none⟩) ss1.length c1 rfl _ _ rfl rfl rfl rfl ?_)
    | (refine wpList_loadI (unhide HYB) rfl _ rfl rfl ?_))
  have hR := setRow_heap wB (w.heap.size + 2) _ #[.int .i64 win, .slice (some ⟨G, 0, none⟩) ss1.length c1] _ _ (unhide HRB)
  have r0 := Lib.cell_of_heap hR 0
  have r1 := Lib.cell_of_heap hR 1
  refine bodyPost_ret (v := .tuple #[ibV win (some ⟨G, 0, none⟩) ss1.length c1, .slice Ao ys.length co, .int .i64 2, .int .i64 0]) (by simp [results, go_sem, r0, r1]) rfl ?_
  have hs2 : s2.mod = rcvS s.mod x.m := by
    have e := unhide HS2
    rw [unhide HH2, unhide HN1, unhide HP1] at e
    exact e
  have hgr := gr_setRow wB (w.heap.size + 2) #[.int .i64 win, .slice (some ⟨G, 0, none⟩) ss1.length c1]
  have hbw : w.heap.size ≤ w5.heap.size := (unhide HB5).size
  refine ⟨some ⟨G, 0, none⟩, c1, (ss1).set (lbF (portC x.m.port) ss) s2, Ao, co, ys, by rw [List.length_set], ?_, ?_, ?_, ?_, ?_⟩
  · rw [List.map_set, unhide HMod, hs2, unhide HSS, portC_lb]
  · rw [unhide HYS, unhide HH2, unhide HN1, unhide HSS]; rfl
  · exact fun b' hb' => ((unhide HIN _ (unhide HR7l)).grown hgr).merge (unhide HIN b' (by omega))
  · exact fun b' hb' => ((unhide HYO).step (KeepTy.setRow (unhide HRB) (by decide)) (KeepTy.setRow (unhide HRB) (by decide)) (KeepTy.setRow (unhide HRB) (by decide))).ins (by have := unhide HBZ; have := (unhide HBA).size; omega)
  · exact below_setRow (((unhide HBD).trans ((unhide HBA).mono hbw)).trans ((unhide HBBB).mono hbw)) (by omega) _
end Go.Proofs.YtcjdjdganaokfaaDoor

/- InbK: Contract of Receive where the message is accepted or held: the sender is new. -/
namespace Go.Proofs.YtcjdjdganaokfaaDoor
open Go.RowKit

set_option maxHeartbeats 8000000 in
set_option maxRecDepth 100000 in
theorem rcv_new1 (b : Nat) (win : Int) (A : Option Addr) (c : Nat) (ss : List SnS) (x : MsS) (w : World) (hI : Ibx b w win A ss x.m) (hK : Keys w) (hb : b < w.heap.size) (hx : x.Lies b w) (hv : valE x.m = 0) (hz1 : x.m.onw.length ≤ 1000) (hz2 : x.m.lst.length ≤ 1000)
    (hh : hasF (portC x.m.port) ss = false) (hw : decR (sns0 x.m.port) win x.m = 1) (hl : ss.length < 16) :
    Calls Tryd.prog 18 #[ibV win A ss.length c, x.v] w fun e w' => ∃ (A' : Option Addr) (c' : Nat) (ss' : List SnS) (Ao : Option Addr) (co : Nat) (out : List MsS),
      e = .returned (.tuple #[ibV win A' ss'.length c', .slice Ao out.length co, .int .i64 1, .int .i64 0]) ∧ ss'.map SnS.mod = insL (ss.map SnS.mod) (lbF (portM x.m.port) (ss.map SnS.mod)) (rcvS (sns0 x.m.port).mod x.m) ∧ out.map (·.m) = rcvO (sns0 x.m.port).mod x.m ∧ (∀ b', b' < w.heap.size → SndsIn b' w' A' ss') ∧ (∀ b', b' < w.heap.size → MsgsIn b' w' Ao out) ∧ Below w.heap.size w w' := by
  obtain ⟨W1, hW⟩ : ∃ W1 : World, ((w.alloc (ibO win A ss.length c)).alloc (.cells x.arr 32)).alloc (ibO 0 none 0 0) = W1 := ⟨_, rfl⟩
  have b1 : Below w.heap.size w W1 := by rw [← hW]; exact below_new (below_new ((Below.refl _ _).alloc (Nat.le_refl _) _) _) _
  have hX1 : W1.heap[w.heap.size]? = some (ibO win A ss.length c) := by rw [← hW, Below.heap_alloc _ _ _ (by rw [World.size_alloc, World.size_alloc]; omega), Below.heap_alloc _ _ _ (by rw [World.size_alloc]; omega)]; exact heap_alloc_new w _
  have hM1 : W1.heap[w.heap.size + 1]? = some (.cells x.arr 32 (0, 0)) := by
    rw [← hW, Below.heap_alloc _ _ _ (by rw [World.size_alloc, World.size_alloc]; omega)]
    have := heap_alloc_new (w.alloc (ibO win A ss.length c)) (.cells x.arr 32)
    rwa [World.size_alloc] at this
  have hR1 : W1.heap[w.heap.size + 2]? = some (ibO 0 none 0 0) := by
    rw [← hW]
    have := heap_alloc_new ((w.alloc (ibO win A ss.length c)).alloc (.cells x.arr 32)) (ibO 0 none 0 0)
    rwa [World.size_alloc, World.size_alloc] at this
  have hz := b1.size
  have hsz1 : w.heap.size + 3 = W1.heap.size := by rw [← hW, World.size_alloc, World.size_alloc, World.size_alloc]
  have hVal := val_any b x.m x.P x.Q x.c x.d W1 (by omega) (by omega) (hx.1.keep b1) (hx.2.keep b1) (hK.keep b1)
  rw [hv] at hVal
  have HVal := hide hVal
  have HM1 := hide hM1
  have HX1 := hide hX1
  have HR1 := hide hR1
  have HI := hide hI
  have HB1 := hide b1
  have HL := hide hx
  have HSZ := hide hsz1
  have HH := hide hh
  have HWt := hide hw
  have HBb := hide hb
  clear hVal hM1 hX1 hR1 hI b1 hx hK hv hz hsz1 hh hw hb
  go_enter Tryd.func18, Tryd.ntmps18
  go_wp2_with (refine wpList_loadM (unhide HM1) rfl _ rfl rfl ?_)
  refine (unhide HVal).mono ?_
  rintro e w2 ⟨rfl, hb2⟩
  have hsz1 := unhide HSZ
  have hX2 := (hb2.block _ (by omega)).trans (unhide HX1)
  have hM2 := (hb2.block _ (by omega)).trans (unhide HM1)
  have hR2 := (hb2.block _ (by omega)).trans (unhide HR1)
  have bw2 := onward (unhide HB1) hb2
  have y2 : w2.cell? ⟨w.heap.size + 1, 2, none⟩ = some (.string x.m.port) := by rw [Lib.cell_of_heap hM2]; rfl
  have hFd := find_any b win A c ss x.m.port w2 ((unhide HI).ins.keep bw2) (by have := (unhide HI).len; omega) (unhide HI).mono
  rw [unhide HH] at hFd
  have HFd := hide hFd
  have HX2 := hide hX2
  have HM2 := hide hM2
  have HR2 := hide hR2
  have HB2 := hide bw2
  have HZ2 := hide hb2.size
  clear hb2 hX2 hM2 hR2 bw2 hFd HVal HM1 HX1 HR1 HB1
  go_wp2_with (refine wpList_loadI (unhide HX2) rfl _ rfl rfl ?_)
  refine (unhide HFd).mono ?_
  rintro e w3 ⟨rfl, hb3⟩
  have hz2' := unhide HZ2
  have hX3 := (hb3.block _ (by omega)).trans (unhide HX2)
  have hM3 := (hb3.block _ (by omega)).trans (unhide HM2)
  have hR3 := (hb3.block _ (by omega)).trans (unhide HR2)
  have bw3 := onward (unhide HB2) hb3
  obtain ⟨s, hs⟩ : ∃ s, sns0 x.m.port = s := ⟨_, rfl⟩
  have hfs : FewM s.held ∧ s.held.length ≤ 100 := by rw [← hs]; exact ⟨⟨Nat.zero_le _, fun _ h => by cases h⟩, Nat.zero_le _⟩
  have hms : MonoF (numC x.m.num) s.held ms0 := by rw [← hs]; exact fun a b _ h => absurd h (Nat.not_lt_zero _)
  have hns : 0 ≤ s.next ∧ s.next ≤ 1000000 := by rw [← hs]; exact ⟨by show (0 : Int) ≤ 1; decide, by show (1 : Int) ≤ 1000000; decide⟩
  have hlh : MsgsIn b w3 s.A s.held := by rw [← hs]; exact MsgsIn.nil _ _ _
  have HSS := hide hs
  have hb4 := (Below.refl w3.heap.size w3).alloc (Nat.le_refl _) (.cells s.arr 93)
  have hX4 := (hb4.block _ (Array.getElem?_eq_some_iff.1 hX3).1).trans hX3
  have hM4 := (hb4.block _ (Array.getElem?_eq_some_iff.1 hM3).1).trans hM3
  have hR4 := (hb4.block _ (Array.getElem?_eq_some_iff.1 hR3).1).trans hR3
  have hS4 := heap_alloc_new w3 (.cells s.arr 93)
  have bw4 := onward bw3 hb4
  have hwin := (unhide HI).win0
  have hwin1 := (unhide HI).win1
  have hdc := decide_any b s win x (w3.alloc (.cells s.arr 93)) (hlh.keep hb4) (by have := hfs.2; omega) ((unhide HL).keep bw4) hfs.1.2 hms hns.1 (by have := hns.2; omega) hwin (by omega)
  have hwt := unhide HWt
  rw [unhide HSS] at hwt
  rw [hwt] at hdc
  have HDc := hide hdc
  have HX3 := hide hX3
  have HX4 := hide hX4
  have HM4 := hide hM4
  have HR4 := hide hR4
  have HS4 := hide hS4
  have HB4 := hide bw4
  have HFS := hide hfs
  have HMS := hide hms
  have HNS := hide hns
  have HZ3 := hide hb3.size
  have y3 := y2
  have z1 : w3.cell? ⟨w.heap.size, 1, none⟩ = some (.slice A ss.length c) := by rw [Lib.cell_of_heap hX3]; rfl
  have z2 : w3.cell? ⟨w.heap.size + 1, 2, none⟩ = some (.string x.m.port) := by rw [Lib.cell_of_heap hM3]; rfl
  have x0 : (w3.alloc (.cells s.arr 93)).cell? ⟨w.heap.size, 0, none⟩ = some (.int .i64 win) := by rw [Lib.cell_of_heap hX4]; rfl
  clear hb3 hX3 hM3 hR3 bw3 hb4 hX4 hM4 hR4 hS4 bw4 hdc hwt hfs hms hns hlh hs y2 y3 hwin hwin1 hz2' HFd HX2 HM2 HR2 HB2
  go_wp2_with (first
    | (refine wpList_storeS_new (g := w3.heap.size) rfl s rfl _ _ rfl rfl (by rw [← unhide HSS]; rfl) rfl ?_)
    | (refine wpList_loadS (unhide HS4) rfl _ rfl rfl ?_)
    | (refine wpList_loadM (unhide HM4) rfl _ rfl rfl ?_))
  refine (unhide HDc).mono ?_
  rintro e w5 ⟨rfl, hb5⟩
  have bw5 := onward (unhide HB4) hb5
  have hX5 := (hb5.block _ (Array.getElem?_eq_some_iff.1 (unhide HX4)).1).trans (unhide HX4)
  have hM5 := (hb5.block _ (Array.getElem?_eq_some_iff.1 (unhide HM4)).1).trans (unhide HM4)
  have hR5 := (hb5.block _ (Array.getElem?_eq_some_iff.1 (unhide HR4)).1).trans (unhide HR4)
  have hS5 := (hb5.block _ (Array.getElem?_eq_some_iff.1 (unhide HS4)).1).trans (unhide HS4)
  have HX5 := hide hX5
  have HCp := hide (cpi_any b win A c ss w5 ((unhide HI).ins.keep bw5) (by have := (unhide HI).len; omega) (fun s hs => ((unhide HI).few s hs).1))
  have HM5 := hide hM5
  have HR5 := hide hR5
  have HS5 := hide hS5
  have HB5 := hide bw5
  have u1 : w5.cell? ⟨w.heap.size, 1, none⟩ = some (.slice A ss.length c) := by rw [Lib.cell_of_heap hX5]; rfl
  have hl' : ¬ (16 ≤ (ss.length : Int)) := by omega
  clear hb5 bw5 hX5 hM5 hR5 hS5 HDc HX3 HX4 HM4 HR4 HS4 HB4 z1 z2 x0
  go_wp2_with (refine wpList_loadI (unhide HX5) rfl _ rfl rfl ?_)
  clear u1
  refine (unhide HCp).mono ?_
  rintro e w6 ⟨A1, c1, ss1, rfl, hmod, hown, hb6⟩
  have hb7 := (Below.refl w6.heap.size w6).alloc (Nat.le_refl _) (ibO win A1 ss1.length c1)
  have hb57 := onward hb6 hb7
  have hY7 := heap_alloc_new w6 (ibO win A1 ss1.length c1)
  have hM7 := (hb57.block _ (Array.getElem?_eq_some_iff.1 (unhide HM5)).1).trans (unhide HM5)
  have hR7 := (hb57.block _ (Array.getElem?_eq_some_iff.1 (unhide HR5)).1).trans (unhide HR5)
  have hS7 := (hb57.block _ (Array.getElem?_eq_some_iff.1 (unhide HS5)).1).trans (unhide HS5)
  have hO7 := hown.below hb7
  have hBw7 := onward (unhide HB5) hb57
  have hlen1 : ss1.length = ss.length := by have := congrArg List.length hmod; simpa using this
  have HM7l := hide (Array.getElem?_eq_some_iff.1 (unhide HM5)).1
  have HR7l := hide (Array.getElem?_eq_some_iff.1 (unhide HR5)).1
  have HZ67 := hide hb6.size
  have HMod := hide hmod
  have HLen := hide hlen1
  clear hlen1 hmod

  obtain ⟨W7, hW7⟩ : ∃ W7 : World, w6.alloc (ibO win A1 ss1.length c1) = W7 := ⟨_, rfl⟩
  rw [hW7] at hY7 hM7 hR7 hS7 hO7 hBw7
  have hbz7 : w5.heap.size ≤ W7.heap.size := by rw [← hW7]; exact hb57.size
  have q1 : W7.cell? ⟨w6.heap.size, 1, none⟩ = some (.slice A1 ss1.length c1) := by rw [Lib.cell_of_heap hY7]; rfl
  obtain ⟨i0, z0, hi0, hia, hib, hic, hid⟩ := info_size info_snd
  have H0 := hide hi0
  have HA0 := hide hia
  have HB0 := hide hib
  have HD0 := hide hid
  have hb8 := (Below.refl W7.heap.size W7).alloc (Nat.le_refl _) (.cells s.arr 93)
  have hY8 := (hb8.block _ (Array.getElem?_eq_some_iff.1 hY7).1).trans hY7
  have hM8 := (hb8.block _ (Array.getElem?_eq_some_iff.1 hM7).1).trans hM7
  have hR8 := (hb8.block _ (Array.getElem?_eq_some_iff.1 hR7).1).trans hR7
  have hO8 := hO7.below hb8
  have hv8 : (W7.alloc (.cells s.arr 93)).heap[W7.heap.size]? = some (.cells s.cs.toArray 93 (0, 0)) := heap_alloc_new W7 _
  have hap8 : ∀ k, (Value.slice A1 ss1.length c1).ownBlock = some k → W7.heap.size ≠ k := fun k hk => by
    have := (hO7.row.lt k hk).2
    omega
  have hBw8 := onward hBw7 hb8
  have hbz8 := Nat.le_trans hbz7 hb8.size
  have HIns := hide (insS_any w5.heap.size A1 ss1.length c1 (lbF (portC x.m.port) ss) W7.heap.size (ss1.flatMap SnS.cs) s.cs (W7.alloc (.cells s.arr 93)) hO8.row (by have := lbF_le (portC x.m.port) ss; have := unhide HLen; omega) (by have := unhide HLen; omega) rfl hv8 hap8 ss_one (fun u hu => ss_one (xs := [s]) u (by simpa using hu)) hbz8)
  have HY8 := hide hY8
  have HM8 := hide hM8
  have HR8 := hide hR8
  have HO8 := hide hO8
  have HBw8 := hide hBw8
  have HBz8 := hide hbz8
  have HS7 := hide hS7
  clear hb7 hb57 hown hb6 hi0 hia hib hic hid hb8 hY8 hM8 hR8 hO8 hv8 hap8 hBw8 hbz8 hY7 hM7 hR7 hS7 hO7 hBw7 hbz7
  go_wp2_with (first
    | (refine wpList_storeI_new (g := w6.heap.size) rfl win A1 ss1.length c1 rfl _ _ rfl rfl rfl rfl ?_)
    | (refine wpList_loadS (unhide HS7) rfl _ rfl rfl ?_)
    | (refine wpList_build1 rfl 44 93 _ rfl s.arr i0 z0 3 Tryd.underlying44 (unhide H0) (unhide HA0) (unhide HB0) (by decide) (by decide) (unhide HD0) rfl rfl ?_))
  refine (unhide HIns).mono ?_
  rintro e w9 ⟨A2, c2, rfl, hown9, hg9⟩
  have hO8 := unhide HO8
  have hY9 := (hg9.block _ (Array.getElem?_eq_some_iff.1 (unhide HY8)).1 (own_ne hO8.row (unhide HY8) (by decide))).trans (unhide HY8)
  have hM9 := (hg9.block _ (Array.getElem?_eq_some_iff.1 (unhide HM8)).1 (own_ne hO8.row (unhide HM8) (by decide))).trans (unhide HM8)
  have hR9 := (hg9.block _ (Array.getElem?_eq_some_iff.1 (unhide HR8)).1 (own_ne hO8.row (unhide HR8) (by decide))).trans (unhide HR8)
  have hO9 : SndsOwn w5.heap.size w9 A2 c2 (insL ss1 (lbF (portC x.m.port) ss) s) := by
    rw [← unhide HSS] at hown9 ⊢
    exact hO8.insert hown9 hg9
  have p1 := Lib.cell_of_heap hY9 1
  have pf := Lib.frozen_of_heap hY9 1
  obtain ⟨WH, hWH⟩ : ∃ WH : World, w9.setCell ⟨w6.heap.size, 1, none⟩ (.slice A2 (ss1.length + 1) c2) = WH := ⟨_, rfl⟩
  have hgY := Lib.grownBy_setB (World.grownBy.refl w9 (some w6.heap.size)) 1 (.slice A2 (ss1.length + 1) c2)
  have hRY : w.heap.size + 2 ≠ w6.heap.size := by have := unhide HR7l; have := unhide HZ67; omega
  have hMY : w.heap.size + 1 ≠ w6.heap.size := by have := unhide HM7l; have := unhide HZ67; omega
  have hY7 : WH.heap[w6.heap.size]? = some (ibO win A2 (ss1.length + 1) c2) := by rw [← hWH, heap_setM _ hY9]; rfl
  have hM7 : WH.heap[w.heap.size + 1]? = some (.cells x.arr 32 (0, 0)) := by rw [← hWH, Below.heap_setCell _ _ _ _ hMY]; exact hM9
  have hR7 : WH.heap[w.heap.size + 2]? = some (ibO 0 none 0 0) := by rw [← hWH, Below.heap_setCell _ _ _ _ hRY]; exact hR9
  have hS7 : True := trivial
  have hO7 : SndsOwn w5.heap.size WH A2 c2 (insL ss1 (lbF (portC x.m.port) ss) s) := by rw [← hWH]; exact hO9.set hY9 (by decide) (by decide) (by decide) (by decide) _ _
  have hBw7 : Below w.heap.size w WH := by
    rw [← hWH]
    exact ((unhide HBw8).grown hg9 (unhide HBw8).size (fun k hk => Nat.le_trans (unhide HB5).size (hO8.row.lt k hk).1)).setCell (p := ⟨w6.heap.size, 1, none⟩) (Nat.le_trans (unhide HB5).size (unhide HZ67)) _
  have hbz : w5.heap.size ≤ WH.heap.size := by rw [← hWH]; exact Nat.le_trans (Nat.le_trans (unhide HBz8) hg9.size) hgY.size
  clear hown9 hg9 hO8 hY9 hM9 hR9 hO9 hgY hRY hMY q1 HIns HY8 HM8 HR8 HO8 HBw8 HBz8 HS7 H0 HA0 HB0 HD0
  go_wp2_with fail
  have hi : lbF (portC x.m.port) ss < (insL ss1 (lbF (portC x.m.port) ss) s).length := by
    rw [insL_len]; have := lbF_le (portC x.m.port) ss; have := unhide HLen; omega
  have hsI : ((insL ss1 (lbF (portC x.m.port) ss) s).getD (lbF (portC x.m.port) ss) sn0).mod = s.mod := by
    rw [insL_at _ _ (by have := lbF_le (portC x.m.port) ss; have := unhide HLen; omega)]
  obtain ⟨WD, hWD⟩ : ∃ WD : World, WH.drew = WD := ⟨_, rfl⟩
  have hbD : Below WH.heap.size WH WD := by rw [← hWD]; exact (Below.refl _ _).drew
  have hOD := hO7.below hbD
  have hYD := (hbD.block _ (Array.getElem?_eq_some_iff.1 hY7).1).trans hY7
  have hMD := (hbD.block _ (Array.getElem?_eq_some_iff.1 hM7).1).trans hM7
  have hRD := (hbD.block _ (Array.getElem?_eq_some_iff.1 hR7).1).trans hR7
  have bwD := onward hBw7 hbD
  have hbzD : w5.heap.size ≤ WD.heap.size := Nat.le_trans hbz hbD.size
  have hbb : b < w5.heap.size := Nat.lt_of_lt_of_le (unhide HBb) (unhide HB5).size
  have hmi : ((insL ss1 (lbF (portC x.m.port) ss) s).getD (lbF (portC x.m.port) ss) sn0).held.map (·.m) = s.held.map (·.m) := congrArg Snd.held hsI
  have hpi : ((insL ss1 (lbF (portC x.m.port) ss) s).getD (lbF (portC x.m.port) ss) sn0).port = s.port := congrArg Snd.port hsI
  have hni : ((insL ss1 (lbF (portC x.m.port) ss) s).getD (lbF (portC x.m.port) ss) sn0).next = s.next := congrArg Snd.next hsI
  have hli : ((insL ss1 (lbF (portC x.m.port) ss) s).getD (lbF (portC x.m.port) ss) sn0).held.length ≤ 900 := by
    have e := congrArg List.length hmi
    simp only [List.length_map] at e
    have := (unhide HFS).2
    omega
  obtain ⟨G, hAI, hHold⟩ := hold_at b w5.heap.size (lbF (portC x.m.port) ss) A2 c2 (insL ss1 (lbF (portC x.m.port) ss) s) x WD hOD hi hbb hbzD hli ((unhide HL).keep bwD) hz1 hz2 (mono_of hmi (unhide HMS))
  subst hAI
  have il2 : (lbF (portC x.m.port) ss : Int) < ((ss1.length + 1) : Int) := by have := hi; rw [insL_len] at this; omega
  have HHold := hide hHold
  have HYD := hide hYD
  have HMD := hide hMD
  have HRD := hide hRD
  have HBD := hide bwD
  have HIi := hide hi
  have HBB := hide hbb
  have HBZ := hide hbzD
  have HMI := hide hmi
  have HPI := hide hpi
  have HNI := hide hni
  clear hHold hYD hMD hRD bwD hi hbb hbzD hOD hli hbD hY7 hM7 hR7 hS7 hO7 hBw7 hbz hsI hmi hpi hni HS5 HM5 HR5 HX5 HCp
  refine wp_region_held (S := fun X => X.heap[w.heap.size + 1]? = some (.cells x.arr 32 (0, 0)) ∧ X.heap[w6.heap.size]? = some (ibO win (some ⟨G, 0, none⟩) (ss1.length + 1) c2)) (by kernel_rfl) ?_
  have HS0 := hide (show (WH.drew).heap[w.heap.size + 1]? = some (.cells x.arr 32 (0, 0)) ∧ (WH.drew).heap[w6.heap.size]? = some (ibO win (some ⟨G, 0, none⟩) (ss1.length + 1) c2) from by rw [hWD]; exact ⟨unhide HMD, unhide HYD⟩)
  refine wpAnyH_take (i := 0) (v := .pointer (some ⟨w6.heap.size, 1, none⟩)) rfl (by kernel_rfl) (by kernel_rfl) (by kernel_rfl) (fun _ _ _ h => h) (Or.inl ⟨by rfl, by intro w _; go_simp⟩) (unhide HS0) ?_
  refine wpAnyH_take (i := 1) (v := .slice (some ⟨G, 0, none⟩) (ss1.length + 1) c2) rfl (by kernel_rfl) (by kernel_rfl) (by kernel_rfl) (fun _ _ _ h => h) (Or.inl ⟨by rfl, by intro w hS; have hc1 := Lib.cell_of_heap hS.2 1; go_simp⟩) (unhide HS0) ?_
  refine wpAnyH_take (i := 2) (v := .int .i64 (lbF (portC x.m.port) ss : Nat)) rfl (by kernel_rfl) (by kernel_rfl) (by kernel_rfl) (fun _ _ _ h => h) (Or.inl ⟨by rfl, by intro w _; go_simp⟩) (unhide HS0) ?_
  refine wpAnyH_take (i := 3) (v := .pointer (some ⟨G, lbF (portC x.m.port) ss * 3, none⟩)) rfl (by kernel_rfl) (by kernel_rfl) (by kernel_rfl) (fun _ _ _ h => h) (Or.inl ⟨by rfl, by intro w _; go_simp⟩) (unhide HS0) ?_
  refine wpAnyH_take (i := 4) (v := x.v) rfl (by kernel_rfl) (by kernel_rfl) (by kernel_rfl) (fun _ _ _ h => h) (yields_loadM _ rfl rfl rfl (fun _ h => h.1)) (unhide HS0) ?_
  refine wpAnyH_one (i := 5) (by kernel_rfl) rfl (fun K hK => ?_)
  go_simp
  go_at_call 41
  refine (unhide HHold).mono ?_
  rintro e wA ⟨rfl, s1, cur, hHalf, hp1, hn1, hh1, hbA, hkA⟩
  try go_simp
  have hMA := (hbA.block _ (Nat.lt_of_lt_of_le (unhide HM7l) (Nat.le_refl _))).trans (unhide HMD)
  have hRA := (hbA.block _ (unhide HR7l)).trans (unhide HRD)
  have hYA := hkA _ _ _ (unhide HYD)
  refine hK _ _ ⟨⟨hMA, hYA⟩, ?_⟩
  clear hK K
  refine wpAnyH_done (by kernel_rfl) ?_ _
  have v1 : wA.cell? ⟨w6.heap.size, 1, none⟩ = some (.slice (some ⟨G, 0, none⟩) (ss1.length + 1) c2) := by rw [Lib.cell_of_heap hYA]; rfl
  have hh2 : s1.held.map (·.m) = rcvH s.mod x.m := by rw [hh1, unhide HMI]; rfl
  have hlen1 : s1.held.length = s.held.length + 1 := by
    have e := congrArg List.length hh2
    unfold rcvH at e
    rw [insL_len] at e
    simpa [SnS.mod] using e
  have hfs := unhide HFS
  have hns := unhide HNS
  have hfew : FewM s1.held := by
    refine ⟨by have := hfs.2; omega, fun u hu => ?_⟩
    have hm1 : u.m ∈ s1.held.map (·.m) := List.mem_map.2 ⟨u, hu, rfl⟩
    rw [hh2] at hm1
    rcases insL_mem hm1 with e | hm1
    · rw [e]; exact ⟨hz1, hz2⟩
    · obtain ⟨v, hv, e⟩ := List.mem_map.1 hm1
      rw [← e]; exact hfs.1.2 v hv
  have hn1' : s1.next = s.next := hn1.trans (unhide HNI)
  have hp1' : s1.port = s.port := hp1.trans (unhide HPI)
  have HRel := hide (release_at b w5.heap.size G (lbF (portC x.m.port) ss) (insL ss1 (lbF (portC x.m.port) ss) s) s1 wA cur hHalf (unhide HIi) (unhide HBB) (by omega) hfew (by rw [hn1']; exact hns.1) (by rw [hn1']; have := hns.2; omega))
  have HYA := hide hYA
  have HRA := hide hRA
  have HBA := hide hbA
  have HH2 := hide hh2
  have HN1 := hide hn1'
  have HP1 := hide hp1'
  clear hHalf hp1 hn1 hh1 hbA hkA hMA hRA hYA hh2 hlen1 hfs hns hfew hn1' hp1' HHold HYD HMD
  go_wp2_with fail
  refine (unhide HRel).mono ?_
  rintro e wB ⟨Ao, co, ys, s2, rfl, hys, hyo, hs2, hin, hbB, hkB⟩
  have HYB := hide (hkB _ _ _ (unhide HYA))
  have HRB := hide ((hbB.block _ (unhide HR7l)).trans (unhide HRA))
  have HIN := hide hin
  have HBBB := hide hbB
  have HYO := hide hyo
  have HYS := hide hys
  have HS2 := hide hs2
  clear hys hyo hs2 hin hbB hkB v1
  go_wp2_with (first
    | (refine wpList_storeI (unhide HRB) win (some ⟨G, 0, none⟩) (ss1.length + 1) c2 rfl _ _ rfl rfl rfl rfl ?_)
    | (refine wpList_loadI (unhide HYB) rfl _ rfl rfl ?_))
  have hR := setRow_heap wB (w.heap.size + 2) _ #[.int .i64 win, .slice (some ⟨G, 0, none⟩) (ss1.length + 1) c2] _ _ (unhide HRB)
  have r0 := Lib.cell_of_heap hR 0
  have r1 := Lib.cell_of_heap hR 1
  refine bodyPost_ret (v := .tuple #[ibV win (some ⟨G, 0, none⟩) (ss1.length + 1) c2, .slice Ao ys.length co, .int .i64 1, .int .i64 0]) (by simp [results, go_sem, r0, r1]) rfl ?_
  have hs2 : s2.mod = rcvS s.mod x.m := by
    have e := unhide HS2
    rw [unhide HH2, unhide HN1, unhide HP1] at e
    exact e
  have hgr := gr_setRow wB (w.heap.size + 2) #[.int .i64 win, .slice (some ⟨G, 0, none⟩) (ss1.length + 1) c2]
  have hbw : w.heap.size ≤ w5.heap.size := (unhide HB5).size
  refine ⟨some ⟨G, 0, none⟩, c2, ((insL ss1 (lbF (portC x.m.port) ss) s)).set (lbF (portC x.m.port) ss) s2, Ao, co, ys, by rw [List.length_set, insL_len], ?_, ?_, ?_, ?_, ?_⟩
  · rw [insL_set _ _ (by have := lbF_le (portC x.m.port) ss; have := unhide HLen; omega), insL_map, unhide HMod, hs2, unhide HSS, portC_lb]
  · rw [unhide HYS, unhide HH2, unhide HN1, unhide HSS]; rfl
  · exact fun b' hb' => ((unhide HIN _ (unhide HR7l)).grown hgr).merge (unhide HIN b' (by omega))
  · exact fun b' hb' => ((unhide HYO).step (KeepTy.setRow (unhide HRB) (by decide)) (KeepTy.setRow (unhide HRB) (by decide)) (KeepTy.setRow (unhide HRB) (by decide))).ins (by have := unhide HBZ; have := (unhide HBA).size; omega)
  · exact below_setRow (((unhide HBD).trans ((unhide HBA).mono hbw)).trans ((unhide HBBB).mono hbw)) (by omega) _

set_option maxHeartbeats 8000000 in
set_option maxRecDepth 100000 in
theorem rcv_new2 (b : Nat) (win : Int) (A : Option Addr) (c : Nat) (ss : List SnS) (x : MsS) (w : World) (hI : Ibx b w win A ss x.m) (hK : Keys w) (hb : b < w.heap.size) (hx : x.Lies b w) (hv : valE x.m = 0) (hz1 : x.m.onw.length ≤ 1000) (hz2 : x.m.lst.length ≤ 1000)
    (hh : hasF (portC x.m.port) ss = false) (hw : decR (sns0 x.m.port) win x.m = 2) (hl : ss.length < 16) :
    Calls Tryd.prog 18 #[ibV win A ss.length c, x.v] w fun e w' => ∃ (A' : Option Addr) (c' : Nat) (ss' : List SnS) (Ao : Option Addr) (co : Nat) (out : List MsS),
      e = .returned (.tuple #[ibV win A' ss'.length c', .slice Ao out.length co, .int .i64 2, .int .i64 0]) ∧ ss'.map SnS.mod = insL (ss.map SnS.mod) (lbF (portM x.m.port) (ss.map SnS.mod)) (rcvS (sns0 x.m.port).mod x.m) ∧ out.map (·.m) = rcvO (sns0 x.m.port).mod x.m ∧ (∀ b', b' < w.heap.size → SndsIn b' w' A' ss') ∧ (∀ b', b' < w.heap.size → MsgsIn b' w' Ao out) ∧ Below w.heap.size w w' := by
  obtain ⟨W1, hW⟩ : ∃ W1 : World, ((w.alloc (ibO win A ss.length c)).alloc (.cells x.arr 32)).alloc (ibO 0 none 0 0) = W1 := ⟨_, rfl⟩
  have b1 : Below w.heap.size w W1 := by rw [← hW]; exact below_new (below_new ((Below.refl _ _).alloc (Nat.le_refl _) _) _) _
  have hX1 : W1.heap[w.heap.size]? = some (ibO win A ss.length c) := by rw [← hW, Below.heap_alloc _ _ _ (by rw [World.size_alloc, World.size_alloc]; omega), Below.heap_alloc _ _ _ (by rw [World.size_alloc]; omega)]; exact heap_alloc_new w _
  have hM1 : W1.heap[w.heap.size + 1]? = some (.cells x.arr 32 (0, 0)) := by
    rw [← hW, Below.heap_alloc _ _ _ (by rw [World.size_alloc, World.size_alloc]; omega)]
    have := heap_alloc_new (w.alloc (ibO win A ss.length c)) (.cells x.arr 32)
    rwa [World.size_alloc] at this
  have hR1 : W1.heap[w.heap.size + 2]? = some (ibO 0 none 0 0) := by
    rw [← hW]
    have := heap_alloc_new ((w.alloc (ibO win A ss.length c)).alloc (.cells x.arr 32)) (ibO 0 none 0 0)
    rwa [World.size_alloc, World.size_alloc] at this
  have hz := b1.size
  have hsz1 : w.heap.size + 3 = W1.heap.size := by rw [← hW, World.size_alloc, World.size_alloc, World.size_alloc]
  have hVal := val_any b x.m x.P x.Q x.c x.d W1 (by omega) (by omega) (hx.1.keep b1) (hx.2.keep b1) (hK.keep b1)
  rw [hv] at hVal
  have HVal := hide hVal
  have HM1 := hide hM1
  have HX1 := hide hX1
  have HR1 := hide hR1
  have HI := hide hI
  have HB1 := hide b1
  have HL := hide hx
  have HSZ := hide hsz1
  have HH := hide hh
  have HWt := hide hw
  have HBb := hide hb
  clear hVal hM1 hX1 hR1 hI b1 hx hK hv hz hsz1 hh hw hb
  go_enter Tryd.func18, Tryd.ntmps18
  go_wp2_with (refine wpList_loadM (unhide HM1) rfl _ rfl rfl ?_)
  refine (unhide HVal).mono ?_
  rintro e w2 ⟨rfl, hb2⟩
  have hsz1 := unhide HSZ
  have hX2 := (hb2.block _ (by omega)).trans (unhide HX1)
  have hM2 := (hb2.block _ (by omega)).trans (unhide HM1)
  have hR2 := (hb2.block _ (by omega)).trans (unhide HR1)
  have bw2 := onward (unhide HB1) hb2
  have y2 : w2.cell? ⟨w.heap.size + 1, 2, none⟩ = some (.string x.m.port) := by rw [Lib.cell_of_heap hM2]; rfl
  have hFd := find_any b win A c ss x.m.port w2 ((unhide HI).ins.keep bw2) (by have := (unhide HI).len; omega) (unhide HI).mono
  rw [unhide HH] at hFd
  have HFd := hide hFd
  have HX2 := hide hX2
  have HM2 := hide hM2
  have HR2 := hide hR2
  have HB2 := hide bw2
  have HZ2 := hide hb2.size
  clear hb2 hX2 hM2 hR2 bw2 hFd HVal HM1 HX1 HR1 HB1
  go_wp2_with (refine wpList_loadI (unhide HX2) rfl _ rfl rfl ?_)
  refine (unhide HFd).mono ?_
  rintro e w3 ⟨rfl, hb3⟩
  have hz2' := unhide HZ2
  have hX3 := (hb3.block _ (by omega)).trans (unhide HX2)
  have hM3 := (hb3.block _ (by omega)).trans (unhide HM2)
  have hR3 := (hb3.block _ (by omega)).trans (unhide HR2)
  have bw3 := onward (unhide HB2) hb3
  obtain ⟨s, hs⟩ : ∃ s, sns0 x.m.port = s := ⟨_, rfl⟩
  have hfs : FewM s.held ∧ s.held.length ≤ 100 := by rw [← hs]; exact ⟨⟨Nat.zero_le _, fun _ h => by cases h⟩, Nat.zero_le _⟩
  have hms : MonoF (numC x.m.num) s.held ms0 := by rw [← hs]; exact fun a b _ h => absurd h (Nat.not_lt_zero _)
  have hns : 0 ≤ s.next ∧ s.next ≤ 1000000 := by rw [← hs]; exact ⟨by show (0 : Int) ≤ 1; decide, by show (1 : Int) ≤ 1000000; decide⟩
  have hlh : MsgsIn b w3 s.A s.held := by rw [← hs]; exact MsgsIn.nil _ _ _
  have HSS := hide hs
  have hb4 := (Below.refl w3.heap.size w3).alloc (Nat.le_refl _) (.cells s.arr 93)
  have hX4 := (hb4.block _ (Array.getElem?_eq_some_iff.1 hX3).1).trans hX3
  have hM4 := (hb4.block _ (Array.getElem?_eq_some_iff.1 hM3).1).trans hM3
  have hR4 := (hb4.block _ (Array.getElem?_eq_some_iff.1 hR3).1).trans hR3
  have hS4 := heap_alloc_new w3 (.cells s.arr 93)
  have bw4 := onward bw3 hb4
  have hwin := (unhide HI).win0
  have hwin1 := (unhide HI).win1
  have hdc := decide_any b s win x (w3.alloc (.cells s.arr 93)) (hlh.keep hb4) (by have := hfs.2; omega) ((unhide HL).keep bw4) hfs.1.2 hms hns.1 (by have := hns.2; omega) hwin (by omega)
  have hwt := unhide HWt
  rw [unhide HSS] at hwt
  rw [hwt] at hdc
  have HDc := hide hdc
  have HX3 := hide hX3
  have HX4 := hide hX4
  have HM4 := hide hM4
  have HR4 := hide hR4
  have HS4 := hide hS4
  have HB4 := hide bw4
  have HFS := hide hfs
  have HMS := hide hms
  have HNS := hide hns
  have HZ3 := hide hb3.size
  have y3 := y2
  have z1 : w3.cell? ⟨w.heap.size, 1, none⟩ = some (.slice A ss.length c) := by rw [Lib.cell_of_heap hX3]; rfl
  have z2 : w3.cell? ⟨w.heap.size + 1, 2, none⟩ = some (.string x.m.port) := by rw [Lib.cell_of_heap hM3]; rfl
  have x0 : (w3.alloc (.cells s.arr 93)).cell? ⟨w.heap.size, 0, none⟩ = some (.int .i64 win) := by rw [Lib.cell_of_heap hX4]; rfl
  clear hb3 hX3 hM3 hR3 bw3 hb4 hX4 hM4 hR4 hS4 bw4 hdc hwt hfs hms hns hlh hs y2 y3 hwin hwin1 hz2' HFd HX2 HM2 HR2 HB2
  go_wp2_with (first
    | (refine wpList_storeS_new (g := w3.heap.size) rfl s rfl _ _ rfl rfl (by rw [← unhide HSS]; rfl) rfl ?_)
    | (refine wpList_loadS (unhide HS4) rfl _ rfl rfl ?_)
    | (refine wpList_loadM (unhide HM4) rfl _ rfl rfl ?_))
  refine (unhide HDc).mono ?_
  rintro e w5 ⟨rfl, hb5⟩
  have bw5 := onward (unhide HB4) hb5
  have hX5 := (hb5.block _ (Array.getElem?_eq_some_iff.1 (unhide HX4)).1).trans (unhide HX4)
  have hM5 := (hb5.block _ (Array.getElem?_eq_some_iff.1 (unhide HM4)).1).trans (unhide HM4)
  have hR5 := (hb5.block _ (Array.getElem?_eq_some_iff.1 (unhide HR4)).1).trans (unhide HR4)
  have hS5 := (hb5.block _ (Array.getElem?_eq_some_iff.1 (unhide HS4)).1).trans (unhide HS4)
  have HX5 := hide hX5
  have HCp := hide (cpi_any b win A c ss w5 ((unhide HI).ins.keep bw5) (by have := (unhide HI).len; omega) (fun s hs => ((unhide HI).few s hs).1))
  have HM5 := hide hM5
  have HR5 := hide hR5
  have HS5 := hide hS5
  have HB5 := hide bw5
  have u1 : w5.cell? ⟨w.heap.size, 1, none⟩ = some (.slice A ss.length c) := by rw [Lib.cell_of_heap hX5]; rfl
  have hl' : ¬ (16 ≤ (ss.length : Int)) := by omega
  clear hb5 bw5 hX5 hM5 hR5 hS5 HDc HX3 HX4 HM4 HR4 HS4 HB4 z1 z2 x0
  go_wp2_with (refine wpList_loadI (unhide HX5) rfl _ rfl rfl ?_)
  clear u1
  refine (unhide HCp).mono ?_
  rintro e w6 ⟨A1, c1, ss1, rfl, hmod, hown, hb6⟩
  have hb7 := (Below.refl w6.heap.size w6).alloc (Nat.le_refl _) (ibO win A1 ss1.length c1)
  have hb57 := onward hb6 hb7
  have hY7 := heap_alloc_new w6 (ibO win A1 ss1.length c1)
  have hM7 := (hb57.block _ (Array.getElem?_eq_some_iff.1 (unhide HM5)).1).trans (unhide HM5)
  have hR7 := (hb57.block _ (Array.getElem?_eq_some_iff.1 (unhide HR5)).1).trans (unhide HR5)
  have hS7 := (hb57.block _ (Array.getElem?_eq_some_iff.1 (unhide HS5)).1).trans (unhide HS5)
  have hO7 := hown.below hb7
  have hBw7 := onward (unhide HB5) hb57
  have hlen1 : ss1.length = ss.length := by have := congrArg List.length hmod; simpa using this
  have HM7l := hide (Array.getElem?_eq_some_iff.1 (unhide HM5)).1
  have HR7l := hide (Array.getElem?_eq_some_iff.1 (unhide HR5)).1
  have HZ67 := hide hb6.size
  have HMod := hide hmod
  have HLen := hide hlen1
  clear hlen1 hmod

  obtain ⟨W7, hW7⟩ : ∃ W7 : World, w6.alloc (ibO win A1 ss1.length c1) = W7 := ⟨_, rfl⟩
  rw [hW7] at hY7 hM7 hR7 hS7 hO7 hBw7
  have hbz7 : w5.heap.size ≤ W7.heap.size := by rw [← hW7]; exact hb57.size
  have q1 : W7.cell? ⟨w6.heap.size, 1, none⟩ = some (.slice A1 ss1.length c1) := by rw [Lib.cell_of_heap hY7]; rfl
  obtain ⟨i0, z0, hi0, hia, hib, hic, hid⟩ := info_size info_snd
  have H0 := hide hi0
  have HA0 := hide hia
  have HB0 := hide hib
  have HD0 := hide hid
  have hb8 := (Below.refl W7.heap.size W7).alloc (Nat.le_refl _) (.cells s.arr 93)
  have hY8 := (hb8.block _ (Array.getElem?_eq_some_iff.1 hY7).1).trans hY7
  have hM8 := (hb8.block _ (Array.getElem?_eq_some_iff.1 hM7).1).trans hM7
  have hR8 := (hb8.block _ (Array.getElem?_eq_some_iff.1 hR7).1).trans hR7
  have hO8 := hO7.below hb8
  have hv8 : (W7.alloc (.cells s.arr 93)).heap[W7.heap.size]? = some (.cells s.cs.toArray 93 (0, 0)) := heap_alloc_new W7 _
  have hap8 : ∀ k, (Value.slice A1 ss1.length c1).ownBlock = some k → W7.heap.size ≠ k := fun k hk => by
    have := (hO7.row.lt k hk).2
    omega
  have hBw8 := onward hBw7 hb8
  have hbz8 := Nat.le_trans hbz7 hb8.size
  have HIns := hide (insS_any w5.heap.size A1 ss1.length c1 (lbF (portC x.m.port) ss) W7.heap.size (ss1.flatMap SnS.cs) s.cs (W7.alloc (.cells s.arr 93)) hO8.row (by have := lbF_le (portC x.m.port) ss; have := unhide HLen; omega) (by have := unhide HLen; omega) rfl hv8 hap8 ss_one (fun u hu => ss_one (xs := [s]) u (by simpa using hu)) hbz8)
  have HY8 := hide hY8
  have HM8 := hide hM8
  have HR8 := hide hR8
  have HO8 := hide hO8
  have HBw8 := hide hBw8
  have HBz8 := hide hbz8
  have HS7 := hide hS7
  clear hb7 hb57 hown hb6 hi0 hia hib hic hid hb8 hY8 hM8 hR8 hO8 hv8 hap8 hBw8 hbz8 hY7 hM7 hR7 hS7 hO7 hBw7 hbz7
  go_wp2_with (first
    | (refine wpList_storeI_new (g := w6.heap.size) rfl win A1 ss1.length c1 rfl _ _ rfl rfl rfl rfl ?_)
    | (refine wpList_loadS (unhide HS7) rfl _ rfl rfl ?_)
    | (refine wpList_build1 rfl 44 93 _ rfl s.arr i0 z0 3 Tryd.underlying44 (unhide H0) (unhide HA0) (unhide HB0) (by decide) (by decide) (unhide HD0) rfl rfl ?_))
  refine (unhide HIns).mono ?_
  rintro e w9 ⟨A2, c2, rfl, hown9, hg9⟩
  have hO8 := unhide HO8
  have hY9 := (hg9.block _ (Array.getElem?_eq_some_iff.1 (unhide HY8)).1 (own_ne hO8.row (unhide HY8) (by decide))).trans (unhide HY8)
  have hM9 := (hg9.block _ (Array.getElem?_eq_some_iff.1 (unhide HM8)).1 (own_ne hO8.row (unhide HM8) (by decide))).trans (unhide HM8)
  have hR9 := (hg9.block _ (Array.getElem?_eq_some_iff.1 (unhide HR8)).1 (own_ne hO8.row (unhide HR8) (by decide))).trans (unhide HR8)
  have hO9 : SndsOwn w5.heap.size w9 A2 c2 (insL ss1 (lbF (portC x.m.port) ss) s) := by
    rw [← unhide HSS] at hown9 ⊢
    exact hO8.insert hown9 hg9
  have p1 := Lib.cell_of_heap hY9 1
  have pf := Lib.frozen_of_heap hY9 1
  obtain ⟨WH, hWH⟩ : ∃ WH : World, w9.setCell ⟨w6.heap.size, 1, none⟩ (.slice A2 (ss1.length + 1) c2) = WH := ⟨_, rfl⟩
  have hgY := Lib.grownBy_setB (World.grownBy.refl w9 (some w6.heap.size)) 1 (.slice A2 (ss1.length + 1) c2)
  have hRY : w.heap.size + 2 ≠ w6.heap.size := by have := unhide HR7l; have := unhide HZ67; omega
  have hMY : w.heap.size + 1 ≠ w6.heap.size := by have := unhide HM7l; have := unhide HZ67; omega
  have hY7 : WH.heap[w6.heap.size]? = some (ibO win A2 (ss1.length + 1) c2) := by rw [← hWH, heap_setM _ hY9]; rfl
  have hM7 : WH.heap[w.heap.size + 1]? = some (.cells x.arr 32 (0, 0)) := by rw [← hWH, Below.heap_setCell _ _ _ _ hMY]; exact hM9
  have hR7 : WH.heap[w.heap.size + 2]? = some (ibO 0 none 0 0) := by rw [← hWH, Below.heap_setCell _ _ _ _ hRY]; exact hR9
  have hS7 : True := trivial
  have hO7 : SndsOwn w5.heap.size WH A2 c2 (insL ss1 (lbF (portC x.m.port) ss) s) := by rw [← hWH]; exact hO9.set hY9 (by decide) (by decide) (by decide) (by decide) _ _
  have hBw7 : Below w.heap.size w WH := by
    rw [← hWH]
    exact ((unhide HBw8).grown hg9 (unhide HBw8).size (fun k hk => Nat.le_trans (unhide HB5).size (hO8.row.lt k hk).1)).setCell (p := ⟨w6.heap.size, 1, none⟩) (Nat.le_trans (unhide HB5).size (unhide HZ67)) _
  have hbz : w5.heap.size ≤ WH.heap.size := by rw [← hWH]; exact Nat.le_trans (Nat.le_trans (unhide HBz8) hg9.size) hgY.size
  clear hown9 hg9 hO8 hY9 hM9 hR9 hO9 hgY hRY hMY q1 HIns HY8 HM8 HR8 HO8 HBw8 HBz8 HS7 H0 HA0 HB0 HD0
  go_wp2_with fail
  have hi : lbF (portC x.m.port) ss < (insL ss1 (lbF (portC x.m.port) ss) s).length := by
    rw [insL_len]; have := lbF_le (portC x.m.port) ss; have := unhide HLen; omega
  have hsI : ((insL ss1 (lbF (portC x.m.port) ss) s).getD (lbF (portC x.m.port) ss) sn0).mod = s.mod := by
    rw [insL_at _ _ (by have := lbF_le (portC x.m.port) ss; have := unhide HLen; omega)]
  obtain ⟨WD, hWD⟩ : ∃ WD : World, WH.drew = WD := ⟨_, rfl⟩
  have hbD : Below WH.heap.size WH WD := by rw [← hWD]; exact (Below.refl _ _).drew
  have hOD := hO7.below hbD
  have hYD := (hbD.block _ (Array.getElem?_eq_some_iff.1 hY7).1).trans hY7
  have hMD := (hbD.block _ (Array.getElem?_eq_some_iff.1 hM7).1).trans hM7
  have hRD := (hbD.block _ (Array.getElem?_eq_some_iff.1 hR7).1).trans hR7
  have bwD := onward hBw7 hbD
  have hbzD : w5.heap.size ≤ WD.heap.size := Nat.le_trans hbz hbD.size
  have hbb : b < w5.heap.size := Nat.lt_of_lt_of_le (unhide HBb) (unhide HB5).size
  have hmi : ((insL ss1 (lbF (portC x.m.port) ss) s).getD (lbF (portC x.m.port) ss) sn0).held.map (·.m) = s.held.map (·.m) := congrArg Snd.held hsI
  have hpi : ((insL ss1 (lbF (portC x.m.port) ss) s).getD (lbF (portC x.m.port) ss) sn0).port = s.port := congrArg Snd.port hsI
  have hni : ((insL ss1 (lbF (portC x.m.port) ss) s).getD (lbF (portC x.m.port) ss) sn0).next = s.next := congrArg Snd.next hsI
  have hli : ((insL ss1 (lbF (portC x.m.port) ss) s).getD (lbF (portC x.m.port) ss) sn0).held.length ≤ 900 := by
    have e := congrArg List.length hmi
    simp only [List.length_map] at e
    have := (unhide HFS).2
    omega
  obtain ⟨G, hAI, hHold⟩ := hold_at b w5.heap.size (lbF (portC x.m.port) ss) A2 c2 (insL ss1 (lbF (portC x.m.port) ss) s) x WD hOD hi hbb hbzD hli ((unhide HL).keep bwD) hz1 hz2 (mono_of hmi (unhide HMS))
  subst hAI
  have il2 : (lbF (portC x.m.port) ss : Int) < ((ss1.length + 1) : Int) := by have := hi; rw [insL_len] at this; omega
  have HHold := hide hHold
  have HYD := hide hYD
  have HMD := hide hMD
  have HRD := hide hRD
  have HBD := hide bwD
  have HIi := hide hi
  have HBB := hide hbb
  have HBZ := hide hbzD
  have HMI := hide hmi
  have HPI := hide hpi
  have HNI := hide hni
  clear hHold hYD hMD hRD bwD hi hbb hbzD hOD hli hbD hY7 hM7 hR7 hS7 hO7 hBw7 hbz hsI hmi hpi hni HS5 HM5 HR5 HX5 HCp
  refine wp_region_held (S := fun X => X.heap[w.heap.size + 1]? = some (.cells x.arr 32 (0, 0)) ∧ X.heap[w6.heap.size]? = some (ibO win (some ⟨G, 0, none⟩) (ss1.length + 1) c2)) (by kernel_rfl) ?_
  have HS0 := hide (show (WH.drew).heap[w.heap.size + 1]? = some (.cells x.arr 32 (0, 0)) ∧ (WH.drew).heap[w6.heap.size]? = some (ibO win (some ⟨G, 0, none⟩) (ss1.length + 1) c2) from by rw [hWD]; exact ⟨unhide HMD, unhide HYD⟩)
  refine wpAnyH_take (i := 0) (v := .pointer (some ⟨w6.heap.size, 1, none⟩)) rfl (by kernel_rfl) (by kernel_rfl) (by kernel_rfl) (fun _ _ _ h => h) (Or.inl ⟨by rfl, by intro w _; go_simp⟩) (unhide HS0) ?_
  refine wpAnyH_take (i := 1) (v := .slice (some ⟨G, 0, none⟩) (ss1.length + 1) c2) rfl (by kernel_rfl) (by kernel_rfl) (by kernel_rfl) (fun _ _ _ h => h) (Or.inl ⟨by rfl, by intro w hS; have hc1 := Lib.cell_of_heap hS.2 1; go_simp⟩) (unhide HS0) ?_
  refine wpAnyH_take (i := 2) (v := .int .i64 (lbF (portC x.m.port) ss : Nat)) rfl (by kernel_rfl) (by kernel_rfl) (by kernel_rfl) (fun _ _ _ h => h) (Or.inl ⟨by rfl, by intro w _; go_simp⟩) (unhide HS0) ?_
  refine wpAnyH_take (i := 3) (v := .pointer (some ⟨G, lbF (portC x.m.port) ss * 3, none⟩)) rfl (by kernel_rfl) (by kernel_rfl) (by kernel_rfl) (fun _ _ _ h => h) (Or.inl ⟨by rfl, by intro w _; go_simp⟩) (unhide HS0) ?_
  refine wpAnyH_take (i := 4) (v := x.v) rfl (by kernel_rfl) (by kernel_rfl) (by kernel_rfl) (fun _ _ _ h => h) (yields_loadM _ rfl rfl rfl (fun _ h => h.1)) (unhide HS0) ?_
  refine wpAnyH_one (i := 5) (by kernel_rfl) rfl (fun K hK => ?_)
  go_simp
  go_at_call 41
  refine (unhide HHold).mono ?_
  rintro e wA ⟨rfl, s1, cur, hHalf, hp1, hn1, hh1, hbA, hkA⟩
  try go_simp
  have hMA := (hbA.block _ (Nat.lt_of_lt_of_le (unhide HM7l) (Nat.le_refl _))).trans (unhide HMD)
  have hRA := (hbA.block _ (unhide HR7l)).trans (unhide HRD)
  have hYA := hkA _ _ _ (unhide HYD)
  refine hK _ _ ⟨⟨hMA, hYA⟩, ?_⟩
  clear hK K
  refine wpAnyH_done (by kernel_rfl) ?_ _
  have v1 : wA.cell? ⟨w6.heap.size, 1, none⟩ = some (.slice (some ⟨G, 0, none⟩) (ss1.length + 1) c2) := by rw [Lib.cell_of_heap hYA]; rfl
  have hh2 : s1.held.map (·.m) = rcvH s.mod x.m := by rw [hh1, unhide HMI]; rfl
  have hlen1 : s1.held.length = s.held.length + 1 := by
    have e := congrArg List.length hh2
    unfold rcvH at e
    rw [insL_len] at e
    simpa [SnS.mod] using e
  have hfs := unhide HFS
  have hns := unhide HNS
  have hfew : FewM s1.held := by
    refine ⟨by have := hfs.2; omega, fun u hu => ?_⟩
    have hm1 : u.m ∈ s1.held.map (·.m) := List.mem_map.2 ⟨u, hu, rfl⟩
    rw [hh2] at hm1
    rcases insL_mem hm1 with e | hm1
    · rw [e]; exact ⟨hz1, hz2⟩
    · obtain ⟨v, hv, e⟩ := List.mem_map.1 hm1
      rw [← e]; exact hfs.1.2 v hv
  have hn1' : s1.next = s.next := hn1.trans (unhide HNI)
  have hp1' : s1.port = s.port := hp1.trans (unhide HPI)
  have HRel := hide (release_at b w5.heap.size G (lbF (portC x.m.port) ss) (insL ss1 (lbF (portC x.m.port) ss) s) s1 wA cur hHalf (unhide HIi) (unhide HBB) (by omega) hfew (by rw [hn1']; exact hns.1) (by rw [hn1']; have := hns.2; omega))
  have HYA := hide hYA
  have HRA := hide hRA
  have HBA := hide hbA
  have HH2 := hide hh2
  have HN1 := hide hn1'
  have HP1 := hide hp1'
  clear hHalf hp1 hn1 hh1 hbA hkA hMA hRA hYA hh2 hlen1 hfs hns hfew hn1' hp1' HHold HYD HMD
  go_wp2_with fail
  refine (unhide HRel).mono ?_
  rintro e wB ⟨Ao, co, ys, s2, rfl, hys, hyo, hs2, hin, hbB, hkB⟩
  have HYB := hide (hkB _ _ _ (unhide HYA))
  have HRB := hide ((hbB.block _ (unhide HR7l)).trans (unhide HRA))
  have HIN := hide hin
  have HBBB := hide hbB
  have HYO := hide hyo
  have HYS := hide hys
  have HS2 := hide hs2
  clear hys hyo hs2 hin hbB hkB v1
  go_wp2_with (first
    | (refine wpList_storeI (unhide HRB) win (some ⟨G, 0, none⟩) (ss1.length + 1) c2 rfl _ _ rfl rfl rfl rfl ?_)
    | (refine wpList_loadI (unhide HYB) rfl _ rfl rfl ?_))
  have hR := setRow_heap wB (w.heap.size + 2) _ #[.int .i64 win, .slice (some ⟨G, 0, none⟩) (ss1.length + 1) c2] _ _ (unhide HRB)
  have r0 := Lib.cell_of_heap hR 0
  have r1 := Lib.cell_of_heap hR 1
  refine bodyPost_ret (v := .tuple #[ibV win (some ⟨G, 0, none⟩) (ss1.length + 1) c2, .slice Ao ys.length co, .int .i64 2, .int .i64 0]) (by simp [results, go_sem, r0, r1]) rfl ?_
  have hs2 : s2.mod = rcvS s.mod x.m := by
    have e := unhide HS2
    rw [unhide HH2, unhide HN1, unhide HP1] at e
    exact e
  have hgr := gr_setRow wB (w.heap.size + 2) #[.int .i64 win, .slice (some ⟨G, 0, none⟩) (ss1.length + 1) c2]
  have hbw : w.heap.size ≤ w5.heap.size := (unhide HB5).size
  refine ⟨some ⟨G, 0, none⟩, c2, ((insL ss1 (lbF (portC x.m.port) ss) s)).set (lbF (portC x.m.port) ss) s2, Ao, co, ys, by rw [List.length_set, insL_len], ?_, ?_, ?_, ?_, ?_⟩
  · rw [insL_set _ _ (by have := lbF_le (portC x.m.port) ss; have := unhide HLen; omega), insL_map, unhide HMod, hs2, unhide HSS, portC_lb]
  · rw [unhide HYS, unhide HH2, unhide HN1, unhide HSS]; rfl
  · exact fun b' hb' => ((unhide HIN _ (unhide HR7l)).grown hgr).merge (unhide HIN b' (by omega))
  · exact fun b' hb' => ((unhide HYO).step (KeepTy.setRow (unhide HRB) (by decide)) (KeepTy.setRow (unhide HRB) (by decide)) (KeepTy.setRow (unhide HRB) (by decide))).ins (by have := unhide HBZ; have := (unhide HBA).size; omega)
  · exact below_setRow (((unhide HBD).trans ((unhide HBA).mono hbw)).trans ((unhide HBBB).mono hbw)) (by omega) _
end Go.Proofs.YtcjdjdganaokfaaDoor

/- InbL: Contract of Receive where the message changes nothing. -/
namespace Go.Proofs.YtcjdjdganaokfaaDoor
open Go.RowKit

set_option maxHeartbeats 8000000 in
set_option maxRecDepth 100000 in
theorem kp_old3 (b : Nat) (win : Int) (A : Option Addr) (c : Nat) (ss : List SnS) (x : MsS) (w : World) (hI : Ibx b w win A ss x.m) (hK : Keys w) (hb : b < w.heap.size) (hx : x.Lies b w) (hv : valE x.m = 0) (hz1 : x.m.onw.length ≤ 1000) (hz2 : x.m.lst.length ≤ 1000)
    (hh : hasF (portC x.m.port) ss = true) (hw : decR (ss.getD (lbF (portC x.m.port) ss) sn0) win x.m = 3) :
    Calls Tryd.prog 18 #[ibV win A ss.length c, x.v] w fun e w' => ∃ (A' : Option Addr) (c' : Nat) (ss' : List SnS),
      e = .returned (.tuple #[ibV win A' ss'.length c', .slice none 0 0, .int .i64 3, .int .i64 0]) ∧ ss'.map SnS.mod = ss.map SnS.mod ∧ (∀ b', b' < w.heap.size → SndsIn b' w' A' ss') ∧ Below w.heap.size w w' := by
  obtain ⟨W1, hW⟩ : ∃ W1 : World, ((w.alloc (ibO win A ss.length c)).alloc (.cells x.arr 32)).alloc (ibO 0 none 0 0) = W1 := ⟨_, rfl⟩
  have b1 : Below w.heap.size w W1 := by rw [← hW]; exact below_new (below_new ((Below.refl _ _).alloc (Nat.le_refl _) _) _) _
  have hX1 : W1.heap[w.heap.size]? = some (ibO win A ss.length c) := by rw [← hW, Below.heap_alloc _ _ _ (by rw [World.size_alloc, World.size_alloc]; omega), Below.heap_alloc _ _ _ (by rw [World.size_alloc]; omega)]; exact heap_alloc_new w _
  have hM1 : W1.heap[w.heap.size + 1]? = some (.cells x.arr 32 (0, 0)) := by
    rw [← hW, Below.heap_alloc _ _ _ (by rw [World.size_alloc, World.size_alloc]; omega)]
    have := heap_alloc_new (w.alloc (ibO win A ss.length c)) (.cells x.arr 32)
    rwa [World.size_alloc] at this
  have hR1 : W1.heap[w.heap.size + 2]? = some (ibO 0 none 0 0) := by
    rw [← hW]
    have := heap_alloc_new ((w.alloc (ibO win A ss.length c)).alloc (.cells x.arr 32)) (ibO 0 none 0 0)
    rwa [World.size_alloc, World.size_alloc] at this
  have hz := b1.size
  have hsz1 : w.heap.size + 3 = W1.heap.size := by rw [← hW, World.size_alloc, World.size_alloc, World.size_alloc]
  have hVal := val_any b x.m x.P x.Q x.c x.d W1 (by omega) (by omega) (hx.1.keep b1) (hx.2.keep b1) (hK.keep b1)
  rw [hv] at hVal
  have HVal := hide hVal
  have HM1 := hide hM1
  have HX1 := hide hX1
  have HR1 := hide hR1
  have HI := hide hI
  have HB1 := hide b1
  have HL := hide hx
  have HSZ := hide hsz1
  have HH := hide hh
  have HWt := hide hw
  have HBb := hide hb
  clear hVal hM1 hX1 hR1 hI b1 hx hK hv hz hsz1 hh hw hb
  go_enter Tryd.func18, Tryd.ntmps18
  go_wp2_with (refine wpList_loadM (unhide HM1) rfl _ rfl rfl ?_)
  refine (unhide HVal).mono ?_
  rintro e w2 ⟨rfl, hb2⟩
  have hsz1 := unhide HSZ
  have hX2 := (hb2.block _ (by omega)).trans (unhide HX1)
  have hM2 := (hb2.block _ (by omega)).trans (unhide HM1)
  have hR2 := (hb2.block _ (by omega)).trans (unhide HR1)
  have bw2 := onward (unhide HB1) hb2
  have y2 : w2.cell? ⟨w.heap.size + 1, 2, none⟩ = some (.string x.m.port) := by rw [Lib.cell_of_heap hM2]; rfl
  have hFd := find_any b win A c ss x.m.port w2 ((unhide HI).ins.keep bw2) (by have := (unhide HI).len; omega) (unhide HI).mono
  rw [unhide HH] at hFd
  have HFd := hide hFd
  have HX2 := hide hX2
  have HM2 := hide hM2
  have HR2 := hide hR2
  have HB2 := hide bw2
  have HZ2 := hide hb2.size
  clear hb2 hX2 hM2 hR2 bw2 hFd HVal HM1 HX1 HR1 HB1
  go_wp2_with (refine wpList_loadI (unhide HX2) rfl _ rfl rfl ?_)
  refine (unhide HFd).mono ?_
  rintro e w3 ⟨rfl, hb3⟩
  have hz2' := unhide HZ2
  have hX3 := (hb3.block _ (by omega)).trans (unhide HX2)
  have hM3 := (hb3.block _ (by omega)).trans (unhide HM2)
  have hR3 := (hb3.block _ (by omega)).trans (unhide HR2)
  have bw3 := onward (unhide HB2) hb3
  have hil : lbF (portC x.m.port) ss < ss.length := hasF_lt (unhide HH)
  obtain ⟨g, off, rfl, -, hc, hlh⟩ := ((unhide HI).ins.keep bw3).at hil
  have hmem : ss.getD (lbF (portC x.m.port) ss) sn0 ∈ ss := by rw [at_k hil]; exact List.getElem_mem _
  have il : (lbF (portC x.m.port) ss : Int) < (ss.length : Int) := by omega
  obtain ⟨s, hs⟩ : ∃ s, ss.getD (lbF (portC x.m.port) ss) sn0 = s := ⟨_, rfl⟩
  rw [hs] at hc hlh hmem
  have hfs := (unhide HI).few s hmem
  have hms := (unhide HI).monoH s hmem
  have hns := (unhide HI).next s hmem
  have HC := hide hc
  have HSS := hide hs
  have hb4 := (Below.refl w3.heap.size w3).alloc (Nat.le_refl _) (.cells s.arr 93)
  have hX4 := (hb4.block _ (Array.getElem?_eq_some_iff.1 hX3).1).trans hX3
  have hM4 := (hb4.block _ (Array.getElem?_eq_some_iff.1 hM3).1).trans hM3
  have hR4 := (hb4.block _ (Array.getElem?_eq_some_iff.1 hR3).1).trans hR3
  have hS4 := heap_alloc_new w3 (.cells s.arr 93)
  have bw4 := onward bw3 hb4
  have hwin := (unhide HI).win0
  have hwin1 := (unhide HI).win1
  have hdc := decide_any b s win x (w3.alloc (.cells s.arr 93)) (hlh.keep hb4) (by have := hfs.2; omega) ((unhide HL).keep bw4) hfs.1.2 hms hns.1 (by have := hns.2; omega) hwin (by omega)
  have hwt := unhide HWt
  rw [unhide HSS] at hwt
  rw [hwt] at hdc
  have HDc := hide hdc
  have HX3 := hide hX3
  have HX4 := hide hX4
  have HM4 := hide hM4
  have HR4 := hide hR4
  have HS4 := hide hS4
  have HB4 := hide bw4
  have HFS := hide hfs
  have HMS := hide hms
  have HNS := hide hns
  have HZ3 := hide hb3.size
  have y3 := y2
  have z1 : w3.cell? ⟨w.heap.size, 1, none⟩ = some (.slice (some ⟨g, off, none⟩) ss.length c) := by rw [Lib.cell_of_heap hX3]; rfl
  have z2 : w3.cell? ⟨w.heap.size + 1, 2, none⟩ = some (.string x.m.port) := by rw [Lib.cell_of_heap hM3]; rfl
  have x0 : (w3.alloc (.cells s.arr 93)).cell? ⟨w.heap.size, 0, none⟩ = some (.int .i64 win) := by rw [Lib.cell_of_heap hX4]; rfl
  have z1' := alloc_cell z1 (.cells (sns0 x.m.port).arr 93)
  have HC' := hide (fun (j : Nat) (u : Value) (hu : s.arr[j]? = some u) => alloc_cell ((unhide HC) j u hu) (.cells (sns0 x.m.port).arr 93))
  clear hb3 hX3 hM3 hR3 bw3 hb4 hX4 hM4 hR4 hS4 bw4 hdc hwt hfs hms hns hlh hs y2 y3 hwin hwin1 hz2' HFd HX2 HM2 HR2 HB2 hc hmem hil
  go_wp2_with (first
    | (refine wpList_storeS_new (g := w3.heap.size) rfl (sns0 x.m.port) rfl _ _ rfl rfl rfl rfl ?_)
    | (refine wpList_load_at rfl _ _ rfl g (off + lbF (portC x.m.port) ss * 3) rfl s.arr _ (unhide HC') undS' undS infoS ?_)
    | (refine wpList_storeS_new (g := w3.heap.size) rfl s rfl _ _ rfl rfl rfl rfl ?_)
    | (refine wpList_loadS (unhide HS4) rfl _ rfl rfl ?_)
    | (refine wpList_loadM (unhide HM4) rfl _ rfl rfl ?_))
  refine (unhide HDc).mono ?_
  rintro e w5 ⟨rfl, hb5⟩
  have bw5 := onward (unhide HB4) hb5
  have hX5 := (hb5.block _ (Array.getElem?_eq_some_iff.1 (unhide HX4)).1).trans (unhide HX4)
  have hR5 := (hb5.block _ (Array.getElem?_eq_some_iff.1 (unhide HR4)).1).trans (unhide HR4)
  have HX5 := hide hX5
  have HCp := hide (cpi_any b win (some ⟨g, off, none⟩) c ss w5 ((unhide HI).ins.keep bw5) (by have := (unhide HI).len; omega) (fun s hs => ((unhide HI).few s hs).1))
  have HR5 := hide hR5
  have HB5 := hide bw5
  clear hb5 bw5 hX5 hR5 HDc HX3 HX4 HM4 HR4 HS4 HB4 z1 z2 x0 z1' HC' HC
  go_wp2_with (refine wpList_loadI (unhide HX5) rfl _ rfl rfl ?_)
  refine (unhide HCp).mono ?_
  rintro e w6 ⟨A1, c1, ss1, rfl, hmod, hown, hb6⟩
  have hR6 := (hb6.block _ (Array.getElem?_eq_some_iff.1 (unhide HR5)).1).trans (unhide HR5)
  have HR6 := hide hR6
  have HOwn := hide hown
  have HMod := hide hmod
  have HB6 := hide hb6
  clear hR6 hown hmod hb6
  go_wp2_with (refine wpList_storeI (unhide HR6) win A1 ss1.length c1 rfl _ _ rfl rfl rfl rfl ?_)
  have hR := setRow_heap w6 (w.heap.size + 2) _ #[.int .i64 win, .slice A1 ss1.length c1] _ _ (unhide HR6)
  have r0 := Lib.cell_of_heap hR 0
  have r1 := Lib.cell_of_heap hR 1
  refine bodyPost_ret (v := .tuple #[ibV win A1 ss1.length c1, .slice none 0 0, .int .i64 3, .int .i64 0]) (by simp [results, go_sem, r0, r1]) rfl ?_
  refine ⟨A1, c1, ss1, rfl, unhide HMod, ?_, below_setRow (onward (unhide HB5) (unhide HB6)) (by omega) _⟩
  exact fun b' hb' => ((unhide HOwn).step (KeepTy.setRow (unhide HR6) (by decide)) (KeepTy.setRow (unhide HR6) (by decide)) (KeepTy.setRow (unhide HR6) (by decide)) (KeepTy.setRow (unhide HR6) (by decide))).ins (Nat.lt_of_lt_of_le hb' (unhide HB5).size)

set_option maxHeartbeats 8000000 in
set_option maxRecDepth 100000 in
theorem kp_old4 (b : Nat) (win : Int) (A : Option Addr) (c : Nat) (ss : List SnS) (x : MsS) (w : World) (hI : Ibx b w win A ss x.m) (hK : Keys w) (hb : b < w.heap.size) (hx : x.Lies b w) (hv : valE x.m = 0) (hz1 : x.m.onw.length ≤ 1000) (hz2 : x.m.lst.length ≤ 1000)
    (hh : hasF (portC x.m.port) ss = true) (hw : decR (ss.getD (lbF (portC x.m.port) ss) sn0) win x.m = 4) :
    Calls Tryd.prog 18 #[ibV win A ss.length c, x.v] w fun e w' => ∃ (A' : Option Addr) (c' : Nat) (ss' : List SnS),
      e = .returned (.tuple #[ibV win A' ss'.length c', .slice none 0 0, .int .i64 4, .int .i64 0]) ∧ ss'.map SnS.mod = ss.map SnS.mod ∧ (∀ b', b' < w.heap.size → SndsIn b' w' A' ss') ∧ Below w.heap.size w w' := by
  obtain ⟨W1, hW⟩ : ∃ W1 : World, ((w.alloc (ibO win A ss.length c)).alloc (.cells x.arr 32)).alloc (ibO 0 none 0 0) = W1 := ⟨_, rfl⟩
  have b1 : Below w.heap.size w W1 := by rw [← hW]; exact below_new (below_new ((Below.refl _ _).alloc (Nat.le_refl _) _) _) _
  have hX1 : W1.heap[w.heap.size]? = some (ibO win A ss.length c) := by rw [← hW, Below.heap_alloc _ _ _ (by rw [World.size_alloc, World.size_alloc]; omega), Below.heap_alloc _ _ _ (by rw [World.size_alloc]; omega)]; exact heap_alloc_new w _
  have hM1 : W1.heap[w.heap.size + 1]? = some (.cells x.arr 32 (0, 0)) := by
    rw [← hW, Below.heap_alloc _ _ _ (by rw [World.size_alloc, World.size_alloc]; omega)]
    have := heap_alloc_new (w.alloc (ibO win A ss.length c)) (.cells x.arr 32)
    rwa [World.size_alloc] at this
  have hR1 : W1.heap[w.heap.size + 2]? = some (ibO 0 none 0 0) := by
    rw [← hW]
    have := heap_alloc_new ((w.alloc (ibO win A ss.length c)).alloc (.cells x.arr 32)) (ibO 0 none 0 0)
    rwa [World.size_alloc, World.size_alloc] at this
  have hz := b1.size
  have hsz1 : w.heap.size + 3 = W1.heap.size := by rw [← hW, World.size_alloc, World.size_alloc, World.size_alloc]
  have hVal := val_any b x.m x.P x.Q x.c x.d W1 (by omega) (by omega) (hx.1.keep b1) (hx.2.keep b1) (hK.keep b1)
  rw [hv] at hVal
  have HVal := hide hVal
  have HM1 := hide hM1
  have HX1 := hide hX1
  have HR1 := hide hR1
  have HI := hide hI
  have HB1 := hide b1
  have HL := hide hx
  have HSZ := hide hsz1
  have HH := hide hh
  have HWt := hide hw
  have HBb := hide hb
  clear hVal hM1 hX1 hR1 hI b1 hx hK hv hz hsz1 hh hw hb
  go_enter Tryd.func18, Tryd.ntmps18
  go_wp2_with (refine wpList_loadM (unhide HM1) rfl _ rfl rfl ?_)
  refine (unhide HVal).mono ?_
  rintro e w2 ⟨rfl, hb2⟩
  have hsz1 := unhide HSZ
  have hX2 := (hb2.block _ (by omega)).trans (unhide HX1)
  have hM2 := (hb2.block _ (by omega)).trans (unhide HM1)
  have hR2 := (hb2.block _ (by omega)).trans (unhide HR1)
  have bw2 := onward (unhide HB1) hb2
  have y2 : w2.cell? ⟨w.heap.size + 1, 2, none⟩ = some (.string x.m.port) := by rw [Lib.cell_of_heap hM2]; rfl
  have hFd := find_any b win A c ss x.m.port w2 ((unhide HI).ins.keep bw2) (by have := (unhide HI).len; omega) (unhide HI).mono
  rw [unhide HH] at hFd
  have HFd := hide hFd
  have HX2 := hide hX2
  have HM2 := hide hM2
  have HR2 := hide hR2
  have HB2 := hide bw2
  have HZ2 := hide hb2.size
  clear hb2 hX2 hM2 hR2 bw2 hFd HVal HM1 HX1 HR1 HB1
  go_wp2_with (refine wpList_loadI (unhide HX2) rfl _ rfl rfl ?_)
  refine (unhide HFd).mono ?_
  rintro e w3 ⟨rfl, hb3⟩
  have hz2' := unhide HZ2
  have hX3 := (hb3.block _ (by omega)).trans (unhide HX2)
  have hM3 := (hb3.block _ (by omega)).trans (unhide HM2)
  have hR3 := (hb3.block _ (by omega)).trans (unhide HR2)
  have bw3 := onward (unhide HB2) hb3
  have hil : lbF (portC x.m.port) ss < ss.length := hasF_lt (unhide HH)
  obtain ⟨g, off, rfl, -, hc, hlh⟩ := ((unhide HI).ins.keep bw3).at hil
  have hmem : ss.getD (lbF (portC x.m.port) ss) sn0 ∈ ss := by rw [at_k hil]; exact List.getElem_mem _
  have il : (lbF (portC x.m.port) ss : Int) < (ss.length : Int) := by omega
  obtain ⟨s, hs⟩ : ∃ s, ss.getD (lbF (portC x.m.port) ss) sn0 = s := ⟨_, rfl⟩
  rw [hs] at hc hlh hmem
  have hfs := (unhide HI).few s hmem
  have hms := (unhide HI).monoH s hmem
  have hns := (unhide HI).next s hmem
  have HC := hide hc
  have HSS := hide hs
  have hb4 := (Below.refl w3.heap.size w3).alloc (Nat.le_refl _) (.cells s.arr 93)
  have hX4 := (hb4.block _ (Array.getElem?_eq_some_iff.1 hX3).1).trans hX3
  have hM4 := (hb4.block _ (Array.getElem?_eq_some_iff.1 hM3).1).trans hM3
  have hR4 := (hb4.block _ (Array.getElem?_eq_some_iff.1 hR3).1).trans hR3
  have hS4 := heap_alloc_new w3 (.cells s.arr 93)
  have bw4 := onward bw3 hb4
  have hwin := (unhide HI).win0
  have hwin1 := (unhide HI).win1
  have hdc := decide_any b s win x (w3.alloc (.cells s.arr 93)) (hlh.keep hb4) (by have := hfs.2; omega) ((unhide HL).keep bw4) hfs.1.2 hms hns.1 (by have := hns.2; omega) hwin (by omega)
  have hwt := unhide HWt
  rw [unhide HSS] at hwt
  rw [hwt] at hdc
  have HDc := hide hdc
  have HX3 := hide hX3
  have HX4 := hide hX4
  have HM4 := hide hM4
  have HR4 := hide hR4
  have HS4 := hide hS4
  have HB4 := hide bw4
  have HFS := hide hfs
  have HMS := hide hms
  have HNS := hide hns
  have HZ3 := hide hb3.size
  have y3 := y2
  have z1 : w3.cell? ⟨w.heap.size, 1, none⟩ = some (.slice (some ⟨g, off, none⟩) ss.length c) := by rw [Lib.cell_of_heap hX3]; rfl
  have z2 : w3.cell? ⟨w.heap.size + 1, 2, none⟩ = some (.string x.m.port) := by rw [Lib.cell_of_heap hM3]; rfl
  have x0 : (w3.alloc (.cells s.arr 93)).cell? ⟨w.heap.size, 0, none⟩ = some (.int .i64 win) := by rw [Lib.cell_of_heap hX4]; rfl
  have z1' := alloc_cell z1 (.cells (sns0 x.m.port).arr 93)
  have HC' := hide (fun (j : Nat) (u : Value) (hu : s.arr[j]? = some u) => alloc_cell ((unhide HC) j u hu) (.cells (sns0 x.m.port).arr 93))
  clear hb3 hX3 hM3 hR3 bw3 hb4 hX4 hM4 hR4 hS4 bw4 hdc hwt hfs hms hns hlh hs y2 y3 hwin hwin1 hz2' HFd HX2 HM2 HR2 HB2 hc hmem hil
  go_wp2_with (first
    | (refine wpList_storeS_new (g := w3.heap.size) rfl (sns0 x.m.port) rfl _ _ rfl rfl rfl rfl ?_)
    | (refine wpList_load_at rfl _ _ rfl g (off + lbF (portC x.m.port) ss * 3) rfl s.arr _ (unhide HC') undS' undS infoS ?_)
    | (refine wpList_storeS_new (g := w3.heap.size) rfl s rfl _ _ rfl rfl rfl rfl ?_)
    | (refine wpList_loadS (unhide HS4) rfl _ rfl rfl ?_)
    | (refine wpList_loadM (unhide HM4) rfl _ rfl rfl ?_))
  refine (unhide HDc).mono ?_
  rintro e w5 ⟨rfl, hb5⟩
  have bw5 := onward (unhide HB4) hb5
  have hX5 := (hb5.block _ (Array.getElem?_eq_some_iff.1 (unhide HX4)).1).trans (unhide HX4)
  have hR5 := (hb5.block _ (Array.getElem?_eq_some_iff.1 (unhide HR4)).1).trans (unhide HR4)
  have HX5 := hide hX5
  have HCp := hide (cpi_any b win (some ⟨g, off, none⟩) c ss w5 ((unhide HI).ins.keep bw5) (by have := (unhide HI).len; omega) (fun s hs => ((unhide HI).few s hs).1))
  have HR5 := hide hR5
  have HB5 := hide bw5
  clear hb5 bw5 hX5 hR5 HDc HX3 HX4 HM4 HR4 HS4 HB4 z1 z2 x0 z1' HC' HC
  go_wp2_with (refine wpList_loadI (unhide HX5) rfl _ rfl rfl ?_)
  refine (unhide HCp).mono ?_
  rintro e w6 ⟨A1, c1, ss1, rfl, hmod, hown, hb6⟩
  have hR6 := (hb6.block _ (Array.getElem?_eq_some_iff.1 (unhide HR5)).1).trans (unhide HR5)
  have HR6 := hide hR6
  have HOwn := hide hown
  have HMod := hide hmod
  have HB6 := hide hb6
  clear hR6 hown hmod hb6
  go_wp2_with (refine wpList_storeI (unhide HR6) win A1 ss1.length c1 rfl _ _ rfl rfl rfl rfl ?_)
  have hR := setRow_heap w6 (w.heap.size + 2) _ #[.int .i64 win, .slice A1 ss1.length c1] _ _ (unhide HR6)
  have r0 := Lib.cell_of_heap hR 0
  have r1 := Lib.cell_of_heap hR 1
  refine bodyPost_ret (v := .tuple #[ibV win A1 ss1.length c1, .slice none 0 0, .int .i64 4, .int .i64 0]) (by simp [results, go_sem, r0, r1]) rfl ?_
  refine ⟨A1, c1, ss1, rfl, unhide HMod, ?_, below_setRow (onward (unhide HB5) (unhide HB6)) (by omega) _⟩
  exact fun b' hb' => ((unhide HOwn).step (KeepTy.setRow (unhide HR6) (by decide)) (KeepTy.setRow (unhide HR6) (by decide)) (KeepTy.setRow (unhide HR6) (by decide)) (KeepTy.setRow (unhide HR6) (by decide))).ins (Nat.lt_of_lt_of_le hb' (unhide HB5).size)

set_option maxHeartbeats 8000000 in
set_option maxRecDepth 100000 in
theorem kp_old5 (b : Nat) (win : Int) (A : Option Addr) (c : Nat) (ss : List SnS) (x : MsS) (w : World) (hI : Ibx b w win A ss x.m) (hK : Keys w) (hb : b < w.heap.size) (hx : x.Lies b w) (hv : valE x.m = 0) (hz1 : x.m.onw.length ≤ 1000) (hz2 : x.m.lst.length ≤ 1000)
    (hh : hasF (portC x.m.port) ss = true) (hw : decR (ss.getD (lbF (portC x.m.port) ss) sn0) win x.m = 5) :
    Calls Tryd.prog 18 #[ibV win A ss.length c, x.v] w fun e w' => ∃ (A' : Option Addr) (c' : Nat) (ss' : List SnS),
      e = .returned (.tuple #[ibV win A' ss'.length c', .slice none 0 0, .int .i64 5, .int .i64 0]) ∧ ss'.map SnS.mod = ss.map SnS.mod ∧ (∀ b', b' < w.heap.size → SndsIn b' w' A' ss') ∧ Below w.heap.size w w' := by
  obtain ⟨W1, hW⟩ : ∃ W1 : World, ((w.alloc (ibO win A ss.length c)).alloc (.cells x.arr 32)).alloc (ibO 0 none 0 0) = W1 := ⟨_, rfl⟩
  have b1 : Below w.heap.size w W1 := by rw [← hW]; exact below_new (below_new ((Below.refl _ _).alloc (Nat.le_refl _) _) _) _
  have hX1 : W1.heap[w.heap.size]? = some (ibO win A ss.length c) := by rw [← hW, Below.heap_alloc _ _ _ (by rw [World.size_alloc, World.size_alloc]; omega), Below.heap_alloc _ _ _ (by rw [World.size_alloc]; omega)]; exact heap_alloc_new w _
  have hM1 : W1.heap[w.heap.size + 1]? = some (.cells x.arr 32 (0, 0)) := by
    rw [← hW, Below.heap_alloc _ _ _ (by rw [World.size_alloc, World.size_alloc]; omega)]
    have := heap_alloc_new (w.alloc (ibO win A ss.length c)) (.cells x.arr 32)
    rwa [World.size_alloc] at this
  have hR1 : W1.heap[w.heap.size + 2]? = some (ibO 0 none 0 0) := by
    rw [← hW]
    have := heap_alloc_new ((w.alloc (ibO win A ss.length c)).alloc (.cells x.arr 32)) (ibO 0 none 0 0)
    rwa [World.size_alloc, World.size_alloc] at this
  have hz := b1.size
  have hsz1 : w.heap.size + 3 = W1.heap.size := by rw [← hW, World.size_alloc, World.size_alloc, World.size_alloc]
  have hVal := val_any b x.m x.P x.Q x.c x.d W1 (by omega) (by omega) (hx.1.keep b1) (hx.2.keep b1) (hK.keep b1)
  rw [hv] at hVal
  have HVal := hide hVal
  have HM1 := hide hM1
  have HX1 := hide hX1
  have HR1 := hide hR1
  have HI := hide hI
  have HB1 := hide b1
  have HL := hide hx
  have HSZ := hide hsz1
  have HH := hide hh
  have HWt := hide hw
  have HBb := hide hb
  clear hVal hM1 hX1 hR1 hI b1 hx hK hv hz hsz1 hh hw hb
  go_enter Tryd.func18, Tryd.ntmps18
  go_wp2_with (refine wpList_loadM (unhide HM1) rfl _ rfl rfl ?_)
  refine (unhide HVal).mono ?_
  rintro e w2 ⟨rfl, hb2⟩
  have hsz1 := unhide HSZ
  have hX2 := (hb2.block _ (by omega)).trans (unhide HX1)
  have hM2 := (hb2.block _ (by omega)).trans (unhide HM1)
  have hR2 := (hb2.block _ (by omega)).trans (unhide HR1)
  have bw2 := onward (unhide HB1) hb2
  have y2 : w2.cell? ⟨w.heap.size + 1, 2, none⟩ = some (.string x.m.port) := by rw [Lib.cell_of_heap hM2]; rfl
  have hFd := find_any b win A c ss x.m.port w2 ((unhide HI).ins.keep bw2) (by have := (unhide HI).len; omega) (unhide HI).mono
  rw [unhide HH] at hFd
  have HFd := hide hFd
  have HX2 := hide hX2
  have HM2 := hide hM2
  have HR2 := hide hR2
  have HB2 := hide bw2
  have HZ2 := hide hb2.size
  clear hb2 hX2 hM2 hR2 bw2 hFd HVal HM1 HX1 HR1 HB1
  go_wp2_with (refine wpList_loadI (unhide HX2) rfl _ rfl rfl ?_)
  refine (unhide HFd).mono ?_
  rintro e w3 ⟨rfl, hb3⟩
  have hz2' := unhide HZ2
  have hX3 := (hb3.block _ (by omega)).trans (unhide HX2)
  have hM3 := (hb3.block _ (by omega)).trans (unhide HM2)
  have hR3 := (hb3.block _ (by omega)).trans (unhide HR2)
  have bw3 := onward (unhide HB2) hb3
  have hil : lbF (portC x.m.port) ss < ss.length := hasF_lt (unhide HH)
  obtain ⟨g, off, rfl, -, hc, hlh⟩ := ((unhide HI).ins.keep bw3).at hil
  have hmem : ss.getD (lbF (portC x.m.port) ss) sn0 ∈ ss := by rw [at_k hil]; exact List.getElem_mem _
  have il : (lbF (portC x.m.port) ss : Int) < (ss.length : Int) := by omega
  obtain ⟨s, hs⟩ : ∃ s, ss.getD (lbF (portC x.m.port) ss) sn0 = s := ⟨_, rfl⟩
  rw [hs] at hc hlh hmem
  have hfs := (unhide HI).few s hmem
  have hms := (unhide HI).monoH s hmem
  have hns := (unhide HI).next s hmem
  have HC := hide hc
  have HSS := hide hs
  have hb4 := (Below.refl w3.heap.size w3).alloc (Nat.le_refl _) (.cells s.arr 93)
  have hX4 := (hb4.block _ (Array.getElem?_eq_some_iff.1 hX3).1).trans hX3
  have hM4 := (hb4.block _ (Array.getElem?_eq_some_iff.1 hM3).1).trans hM3
  have hR4 := (hb4.block _ (Array.getElem?_eq_some_iff.1 hR3).1).trans hR3
  have hS4 := heap_alloc_new w3 (.cells s.arr 93)
  have bw4 := onward bw3 hb4
  have hwin := (unhide HI).win0
  have hwin1 := (unhide HI).win1
  have hdc := decide_any b s win x (w3.alloc (.cells s.arr 93)) (hlh.keep hb4) (by have := hfs.2; omega) ((unhide HL).keep bw4) hfs.1.2 hms hns.1 (by have := hns.2; omega) hwin (by omega)
  have hwt := unhide HWt
  rw [unhide HSS] at hwt
  rw [hwt] at hdc
  have HDc := hide hdc
  have HX3 := hide hX3
  have HX4 := hide hX4
  have HM4 := hide hM4
  have HR4 := hide hR4
  have HS4 := hide hS4
  have HB4 := hide bw4
  have HFS := hide hfs
  have HMS := hide hms
  have HNS := hide hns
  have HZ3 := hide hb3.size
  have y3 := y2
  have z1 : w3.cell? ⟨w.heap.size, 1, none⟩ = some (.slice (some ⟨g, off, none⟩) ss.length c) := by rw [Lib.cell_of_heap hX3]; rfl
  have z2 : w3.cell? ⟨w.heap.size + 1, 2, none⟩ = some (.string x.m.port) := by rw [Lib.cell_of_heap hM3]; rfl
  have x0 : (w3.alloc (.cells s.arr 93)).cell? ⟨w.heap.size, 0, none⟩ = some (.int .i64 win) := by rw [Lib.cell_of_heap hX4]; rfl
  have z1' := alloc_cell z1 (.cells (sns0 x.m.port).arr 93)
  have HC' := hide (fun (j : Nat) (u : Value) (hu : s.arr[j]? = some u) => alloc_cell ((unhide HC) j u hu) (.cells (sns0 x.m.port).arr 93))
  clear hb3 hX3 hM3 hR3 bw3 hb4 hX4 hM4 hR4 hS4 bw4 hdc hwt hfs hms hns hlh hs y2 y3 hwin hwin1 hz2' HFd HX2 HM2 HR2 HB2 hc hmem hil
  go_wp2_with (first
    | (refine wpList_storeS_new (g := w3.heap.size) rfl (sns0 x.m.port) rfl _ _ rfl rfl rfl rfl ?_)
    | (refine wpList_load_at rfl _ _ rfl g (off + lbF (portC x.m.port) ss * 3) rfl s.arr _ (unhide HC') undS' undS infoS ?_)
    | (refine wpList_storeS_new (g := w3.heap.size) rfl s rfl _ _ rfl rfl rfl rfl ?_)
    | (refine wpList_loadS (unhide HS4) rfl _ rfl rfl ?_)
    | (refine wpList_loadM (unhide HM4) rfl _ rfl rfl ?_))
  refine (unhide HDc).mono ?_
  rintro e w5 ⟨rfl, hb5⟩
  have bw5 := onward (unhide HB4) hb5
  have hX5 := (hb5.block _ (Array.getElem?_eq_some_iff.1 (unhide HX4)).1).trans (unhide HX4)
  have hR5 := (hb5.block _ (Array.getElem?_eq_some_iff.1 (unhide HR4)).1).trans (unhide HR4)
  have HX5 := hide hX5
  have HCp := hide (cpi_any b win (some ⟨g, off, none⟩) c ss w5 ((unhide HI).ins.keep bw5) (by have := (unhide HI).len; omega) (fun s hs => ((unhide HI).few s hs).1))
  have HR5 := hide hR5
  have HB5 := hide bw5
  clear hb5 bw5 hX5 hR5 HDc HX3 HX4 HM4 HR4 HS4 HB4 z1 z2 x0 z1' HC' HC
  go_wp2_with (refine wpList_loadI (unhide HX5) rfl _ rfl rfl ?_)
  refine (unhide HCp).mono ?_
  rintro e w6 ⟨A1, c1, ss1, rfl, hmod, hown, hb6⟩
  have hR6 := (hb6.block _ (Array.getElem?_eq_some_iff.1 (unhide HR5)).1).trans (unhide HR5)
  have HR6 := hide hR6
  have HOwn := hide hown
  have HMod := hide hmod
  have HB6 := hide hb6
  clear hR6 hown hmod hb6
  go_wp2_with (refine wpList_storeI (unhide HR6) win A1 ss1.length c1 rfl _ _ rfl rfl rfl rfl ?_)
  have hR := setRow_heap w6 (w.heap.size + 2) _ #[.int .i64 win, .slice A1 ss1.length c1] _ _ (unhide HR6)
  have r0 := Lib.cell_of_heap hR 0
  have r1 := Lib.cell_of_heap hR 1
  refine bodyPost_ret (v := .tuple #[ibV win A1 ss1.length c1, .slice none 0 0, .int .i64 5, .int .i64 0]) (by simp [results, go_sem, r0, r1]) rfl ?_
  refine ⟨A1, c1, ss1, rfl, unhide HMod, ?_, below_setRow (onward (unhide HB5) (unhide HB6)) (by omega) _⟩
  exact fun b' hb' => ((unhide HOwn).step (KeepTy.setRow (unhide HR6) (by decide)) (KeepTy.setRow (unhide HR6) (by decide)) (KeepTy.setRow (unhide HR6) (by decide)) (KeepTy.setRow (unhide HR6) (by decide))).ins (Nat.lt_of_lt_of_le hb' (unhide HB5).size)

set_option maxHeartbeats 8000000 in
set_option maxRecDepth 100000 in
theorem kp_new4 (b : Nat) (win : Int) (A : Option Addr) (c : Nat) (ss : List SnS) (x : MsS) (w : World) (hI : Ibx b w win A ss x.m) (hK : Keys w) (hb : b < w.heap.size) (hx : x.Lies b w) (hv : valE x.m = 0) (hz1 : x.m.onw.length ≤ 1000) (hz2 : x.m.lst.length ≤ 1000)
    (hh : hasF (portC x.m.port) ss = false) (hw : decR (sns0 x.m.port) win x.m = 4) :
    Calls Tryd.prog 18 #[ibV win A ss.length c, x.v] w fun e w' => ∃ (A' : Option Addr) (c' : Nat) (ss' : List SnS),
      e = .returned (.tuple #[ibV win A' ss'.length c', .slice none 0 0, .int .i64 4, .int .i64 0]) ∧ ss'.map SnS.mod = ss.map SnS.mod ∧ (∀ b', b' < w.heap.size → SndsIn b' w' A' ss') ∧ Below w.heap.size w w' := by
  obtain ⟨W1, hW⟩ : ∃ W1 : World, ((w.alloc (ibO win A ss.length c)).alloc (.cells x.arr 32)).alloc (ibO 0 none 0 0) = W1 := ⟨_, rfl⟩
  have b1 : Below w.heap.size w W1 := by rw [← hW]; exact below_new (below_new ((Below.refl _ _).alloc (Nat.le_refl _) _) _) _
  have hX1 : W1.heap[w.heap.size]? = some (ibO win A ss.length c) := by rw [← hW, Below.heap_alloc _ _ _ (by rw [World.size_alloc, World.size_alloc]; omega), Below.heap_alloc _ _ _ (by rw [World.size_alloc]; omega)]; exact heap_alloc_new w _
  have hM1 : W1.heap[w.heap.size + 1]? = some (.cells x.arr 32 (0, 0)) := by
    rw [← hW, Below.heap_alloc _ _ _ (by rw [World.size_alloc, World.size_alloc]; omega)]
    have := heap_alloc_new (w.alloc (ibO win A ss.length c)) (.cells x.arr 32)
    rwa [World.size_alloc] at this
  have hR1 : W1.heap[w.heap.size + 2]? = some (ibO 0 none 0 0) := by
    rw [← hW]
    have := heap_alloc_new ((w.alloc (ibO win A ss.length c)).alloc (.cells x.arr 32)) (ibO 0 none 0 0)
    rwa [World.size_alloc, World.size_alloc] at this
  have hz := b1.size
  have hsz1 : w.heap.size + 3 = W1.heap.size := by rw [← hW, World.size_alloc, World.size_alloc, World.size_alloc]
  have hVal := val_any b x.m x.P x.Q x.c x.d W1 (by omega) (by omega) (hx.1.keep b1) (hx.2.keep b1) (hK.keep b1)
  rw [hv] at hVal
  have HVal := hide hVal
  have HM1 := hide hM1
  have HX1 := hide hX1
  have HR1 := hide hR1
  have HI := hide hI
  have HB1 := hide b1
  have HL := hide hx
  have HSZ := hide hsz1
  have HH := hide hh
  have HWt := hide hw
  have HBb := hide hb
  clear hVal hM1 hX1 hR1 hI b1 hx hK hv hz hsz1 hh hw hb
  go_enter Tryd.func18, Tryd.ntmps18
  go_wp2_with (refine wpList_loadM (unhide HM1) rfl _ rfl rfl ?_)
  refine (unhide HVal).mono ?_
  rintro e w2 ⟨rfl, hb2⟩
  have hsz1 := unhide HSZ
  have hX2 := (hb2.block _ (by omega)).trans (unhide HX1)
  have hM2 := (hb2.block _ (by omega)).trans (unhide HM1)
  have hR2 := (hb2.block _ (by omega)).trans (unhide HR1)
  have bw2 := onward (unhide HB1) hb2
  have y2 : w2.cell? ⟨w.heap.size + 1, 2, none⟩ = some (.string x.m.port) := by rw [Lib.cell_of_heap hM2]; rfl
  have hFd := find_any b win A c ss x.m.port w2 ((unhide HI).ins.keep bw2) (by have := (unhide HI).len; omega) (unhide HI).mono
  rw [unhide HH] at hFd
  have HFd := hide hFd
  have HX2 := hide hX2
  have HM2 := hide hM2
  have HR2 := hide hR2
  have HB2 := hide bw2
  have HZ2 := hide hb2.size
  clear hb2 hX2 hM2 hR2 bw2 hFd HVal HM1 HX1 HR1 HB1
  go_wp2_with (refine wpList_loadI (unhide HX2) rfl _ rfl rfl ?_)
  refine (unhide HFd).mono ?_
  rintro e w3 ⟨rfl, hb3⟩
  have hz2' := unhide HZ2
  have hX3 := (hb3.block _ (by omega)).trans (unhide HX2)
  have hM3 := (hb3.block _ (by omega)).trans (unhide HM2)
  have hR3 := (hb3.block _ (by omega)).trans (unhide HR2)
  have bw3 := onward (unhide HB2) hb3
  obtain ⟨s, hs⟩ : ∃ s, sns0 x.m.port = s := ⟨_, rfl⟩
  have hfs : FewM s.held ∧ s.held.length ≤ 100 := by rw [← hs]; exact ⟨⟨Nat.zero_le _, fun _ h => by cases h⟩, Nat.zero_le _⟩
  have hms : MonoF (numC x.m.num) s.held ms0 := by rw [← hs]; exact fun a b _ h => absurd h (Nat.not_lt_zero _)
  have hns : 0 ≤ s.next ∧ s.next ≤ 1000000 := by rw [← hs]; exact ⟨by show (0 : Int) ≤ 1; decide, by show (1 : Int) ≤ 1000000; decide⟩
  have hlh : MsgsIn b w3 s.A s.held := by rw [← hs]; exact MsgsIn.nil _ _ _
  have HSS := hide hs
  have hb4 := (Below.refl w3.heap.size w3).alloc (Nat.le_refl _) (.cells s.arr 93)
  have hX4 := (hb4.block _ (Array.getElem?_eq_some_iff.1 hX3).1).trans hX3
  have hM4 := (hb4.block _ (Array.getElem?_eq_some_iff.1 hM3).1).trans hM3
  have hR4 := (hb4.block _ (Array.getElem?_eq_some_iff.1 hR3).1).trans hR3
  have hS4 := heap_alloc_new w3 (.cells s.arr 93)
  have bw4 := onward bw3 hb4
  have hwin := (unhide HI).win0
  have hwin1 := (unhide HI).win1
  have hdc := decide_any b s win x (w3.alloc (.cells s.arr 93)) (hlh.keep hb4) (by have := hfs.2; omega) ((unhide HL).keep bw4) hfs.1.2 hms hns.1 (by have := hns.2; omega) hwin (by omega)
  have hwt := unhide HWt
  rw [unhide HSS] at hwt
  rw [hwt] at hdc
  have HDc := hide hdc
  have HX3 := hide hX3
  have HX4 := hide hX4
  have HM4 := hide hM4
  have HR4 := hide hR4
  have HS4 := hide hS4
  have HB4 := hide bw4
  have HFS := hide hfs
  have HMS := hide hms
  have HNS := hide hns
  have HZ3 := hide hb3.size
  have y3 := y2
  have z1 : w3.cell? ⟨w.heap.size, 1, none⟩ = some (.slice A ss.length c) := by rw [Lib.cell_of_heap hX3]; rfl
  have z2 : w3.cell? ⟨w.heap.size + 1, 2, none⟩ = some (.string x.m.port) := by rw [Lib.cell_of_heap hM3]; rfl
  have x0 : (w3.alloc (.cells s.arr 93)).cell? ⟨w.heap.size, 0, none⟩ = some (.int .i64 win) := by rw [Lib.cell_of_heap hX4]; rfl
  clear hb3 hX3 hM3 hR3 bw3 hb4 hX4 hM4 hR4 hS4 bw4 hdc hwt hfs hms hns hlh hs y2 y3 hwin hwin1 hz2' HFd HX2 HM2 HR2 HB2
  go_wp2_with (first
    | (refine wpList_storeS_new (g := w3.heap.size) rfl s rfl _ _ rfl rfl (by rw [← unhide HSS]; rfl) rfl ?_)
    | (refine wpList_loadS (unhide HS4) rfl _ rfl rfl ?_)
    | (refine wpList_loadM (unhide HM4) rfl _ rfl rfl ?_))
  refine (unhide HDc).mono ?_
  rintro e w5 ⟨rfl, hb5⟩
  have bw5 := onward (unhide HB4) hb5
  have hX5 := (hb5.block _ (Array.getElem?_eq_some_iff.1 (unhide HX4)).1).trans (unhide HX4)
  have hR5 := (hb5.block _ (Array.getElem?_eq_some_iff.1 (unhide HR4)).1).trans (unhide HR4)
  have HX5 := hide hX5
  have HCp := hide (cpi_any b win A c ss w5 ((unhide HI).ins.keep bw5) (by have := (unhide HI).len; omega) (fun s hs => ((unhide HI).few s hs).1))
  have HR5 := hide hR5
  have HB5 := hide bw5
  clear hb5 bw5 hX5 hR5 HDc HX3 HX4 HM4 HR4 HS4 HB4 z1 z2 x0
  go_wp2_with (refine wpList_loadI (unhide HX5) rfl _ rfl rfl ?_)
  refine (unhide HCp).mono ?_
  rintro e w6 ⟨A1, c1, ss1, rfl, hmod, hown, hb6⟩
  have hR6 := (hb6.block _ (Array.getElem?_eq_some_iff.1 (unhide HR5)).1).trans (unhide HR5)
  have HR6 := hide hR6
  have HOwn := hide hown
  have HMod := hide hmod
  have HB6 := hide hb6
  clear hR6 hown hmod hb6
  go_wp2_with (refine wpList_storeI (unhide HR6) win A1 ss1.length c1 rfl _ _ rfl rfl rfl rfl ?_)
  have hR := setRow_heap w6 (w.heap.size + 2) _ #[.int .i64 win, .slice A1 ss1.length c1] _ _ (unhide HR6)
  have r0 := Lib.cell_of_heap hR 0
  have r1 := Lib.cell_of_heap hR 1
  refine bodyPost_ret (v := .tuple #[ibV win A1 ss1.length c1, .slice none 0 0, .int .i64 4, .int .i64 0]) (by simp [results, go_sem, r0, r1]) rfl ?_
  refine ⟨A1, c1, ss1, rfl, unhide HMod, ?_, below_setRow (onward (unhide HB5) (unhide HB6)) (by omega) _⟩
  exact fun b' hb' => ((unhide HOwn).step (KeepTy.setRow (unhide HR6) (by decide)) (KeepTy.setRow (unhide HR6) (by decide)) (KeepTy.setRow (unhide HR6) (by decide)) (KeepTy.setRow (unhide HR6) (by decide))).ins (Nat.lt_of_lt_of_le hb' (unhide HB5).size)
end Go.Proofs.YtcjdjdganaokfaaDoor
