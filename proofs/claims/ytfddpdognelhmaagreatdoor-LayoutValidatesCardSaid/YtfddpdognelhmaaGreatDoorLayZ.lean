/-
  Contract of build of layouts.
-/
import Derived.Test.YtfddpdognelhmaaGreatDoorLayU
import Derived.Test.YtfddpdognelhmaaGreatDoorAnyH
namespace Go.Proofs.YtfddpdognelhmaaGreatDoor
open Go.RowKit

theorem own_setRow5 {w : World} {g B n size : Nat} {t : TypeId} {v : Value} {xs : List Value} {cs : Array Value} (h : w.ownsRow B t size v n xs) (hg : g < B) : (w.setRow g cs).ownsRow B t size v n xs := by
  refine ⟨h.1, ?_⟩
  rcases h.2 with h1 | ⟨g', cap, cur, h1, h2, h3, h4⟩
  · exact .inl h1
  · exact .inr ⟨g', cap, cur, h1, h2, setRow_keep h3 (by omega) cs, h4⟩
theorem keepTy_setRow {q : Nat} {w : World} {cs cs' : Array Value} {t t' : TypeId} {fz : Nat × Nat} (h : w.heap[q]? = some (.cells cs t fz)) (ht : t ≠ t') : KeepTy t' w (w.setRow q cs') := fun g c fz' hg => by
  refine setRow_keep hg (fun e => ?_) cs'
  subst e
  rw [h] at hg; injection hg with hg; injection hg with _ hg _; exact ht hg
/-- What build comes to. -/
def BuildTo (b : Nat) (r : Lay × Int) (w : World) (e : Ending) (w' : World) : Prop :=
  ∃ (A : Option Addr) (c : Nat) (B : Option Addr) (d : Nat), e = .returned (.tuple #[lV r.1 A c B d, .int .i64 r.2]) ∧ NdsIn b w' A r.1.nodes ∧ DvsIn b w' B r.1.devs ∧ Below w.heap.size w w'
theorem ls_at {us : List LnS} {i : Nat} (hi : i < us.length) : (us.map (·.x)).getD i ln0 = (us.getD i lns0).x := by
  rw [at_k (by rw [List.length_map]; exact hi), at_k hi, List.getElem_map]
set_option maxHeartbeats 8000000 in
set_option maxRecDepth 100000 in
theorem lbuild_any (b : Nat) (us : List LnS) (n : Nat) (L : Option Addr) (c0 : Nat) (w : World) (hz : us.length ≤ 5000) (hbw : b < w.heap.size) (hsp : SplitL (us.map (·.x)) n) (hg : ∀ x ∈ us.map (·.x), LnG x) (h : LnsIn b w L us) :
    Calls Tryz.prog 46 #[.slice L us.length c0] w (BuildTo b (buildL (us.map (·.x)) n) w) := by
  obtain ⟨i0, hi1, hz0, hz1, hz2⟩ := info_parts linfo_node
  have Hi := hide hi1
  have Hz0 := hide hz0
  have Hz1 := hide hz1
  have Hz2 := hide hz2
  obtain ⟨j0, hj1, hy0, hy1, hy2⟩ := info_parts linfo_dev
  have Hj := hide hj1
  have Hy0 := hide hy0
  have Hy1 := hide hy1
  have Hy2 := hide hy2
  have HI := hide h
  have HSp := hide hsp
  have HGd := hide hg
  have hnl : n ≤ us.length := by have := hsp.1; rwa [List.length_map] at this
  have HAt := hide fun i hi => ls_at (us := us) (i := i) hi
  clear hi1 hz0 hz1 hz2 hj1 hy0 hy1 hy2 h hsp hg
  generalize hls : us.map (·.x) = ls at *
  have HLs := hide hls
  have hll : ls.length = us.length := by rw [← hls, List.length_map]
  have HLl := hide hll
  clear hls hll
  have b0 := (Below.refl w.heap.size w).alloc (Nat.le_refl _) (.cells #[.slice none 0 0, .slice none 0 0] 25)
  have HS0 := hide (show BdS b w none 0 [] none 0 [] ((w.alloc (.cells #[.slice none 0 0, .slice none 0 0] 25)).alloc (.cells #[.slice none 0 0, .slice none 0 0] 25)) from
    ⟨below_new b0 _, heap_below (heap_alloc_new w _) (below_new (Below.refl _ _) _), by
      have := heap_alloc_new (w.alloc (.cells #[.slice none 0 0, .slice none 0 0] 25)) (.cells #[.slice none 0 0, .slice none 0 0] 25)
      rwa [World.size_alloc] at this, ⟨rfl, .inl ⟨rfl, rfl⟩⟩, ⟨rfl, .inl ⟨rfl, rfl⟩⟩, fun u hu => (nomatch hu)⟩)
  clear b0
  go_enter Tryz.func46, Tryz.ntmps46
  go_wp2
  go_loopw [12] (fun i wr => ∃ (k : Nat) (A : Option Addr) (c : Nat) (ns : List NdS), k ≤ us.length ∧ i = .int .i64 k ∧ BdS b w A c ns none 0 [] wr ∧ Hid (ns.map (·.x) = ndsU ls (min k n))) (fun i _ => us.length - (intOf i).toNat)
  case atStart => exact ⟨0, none, 0, [], Nat.zero_le _, rfl, unhide HS0, Lib.hid (by rw [Nat.zero_min]; rfl)⟩
  case round =>
    obtain ⟨k, A, c, ns, hk, rfl, hS, hd⟩ := hrel
    obtain ⟨wo, rfl⟩ : ∃ wo : World, wo = wr := ⟨_, rfl⟩
    by_cases hlt : k < us.length
    · obtain ⟨g, off, rfl, ⟨s0, s1, s2, s3, s4, s5⟩, -⟩ := ((unhide HI).keep hS.bel).at (i := k) hlt
      have HDv := hide (show isDv (us.getD k lns0).x = decide (n ≤ k) by rw [← unhide HAt k hlt]; exact (unhide HSp).2 k (by rw [unhide HLl]; exact hlt))
      have HLk := hide (unhide HAt k hlt)
      have hnz : ns.length ≤ 5000 := by
        have := congrArg List.length hd.out
        rw [List.length_map, ndsU_len] at this
        omega
      have HS := hide hS
      have hlt0 := hS.lt
      clear hS
      generalize us.getD k lns0 = u at *
      obtain ⟨x, P, cp⟩ := u
      have HID := hide fun W => isDevice_any x P cp W
      have bB := (Below.refl wo.heap.size wo).alloc (Nat.le_refl _) (lnO x P cp)
      have HSb := hide ((unhide HS).below bB)
      have HBox := hide (show ∀ W, Below (wo.alloc (lnO x P cp)).heap.size (wo.alloc (lnO x P cp)) W → W.heap[wo.heap.size]? = some (.cells (lnA x P cp) 69 (0, 0)) from fun W hb => heap_below (heap_alloc_new wo _) hb)
      clear bB
      have kl : (k : Int) < (us.length : Int) := by omega
      have k0 : (0 : Int) ≤ (k : Int) := by omega
      by_cases hkn : n ≤ k
      · have HDD := hide (show decide (9 < x.kind) = true by have := unhide HDv; rw [decide_eq_true hkn] at this; exact this)
        rw [unhide HDD] at HID
        have HM := hide (show ns.map (·.x) = ndsU ls (min (k + 1) n) by rw [hd.out, Nat.min_eq_right hkn, Nat.min_eq_right (by omega)])
        clear hd hkn
        go_wp2_with (first | (go_at_call 70; refine (unhide HID _).mono ?_; rintro e w1 ⟨rfl, hb1⟩; have HS1 := hide ((unhide HSb).below hb1); clear hb1))
        go_roundw
        case rel => exact ⟨k + 1, A, c, ns, by omega, by go_num, unhide HS1, Lib.hid (unhide HM)⟩
        case measure => simp [intOf]; omega
      · have HDD := hide (show decide (9 < x.kind) = false by have := unhide HDv; rw [decide_eq_false hkn] at this; exact this)
        rw [unhide HDD] at HID
        have HM := hide (show (ns ++ [(⟨ndOf x, none, 0⟩ : NdS)]).map (·.x) = ndsU ls (min (k + 1) n) by
          rw [List.map_append, hd.out, Nat.min_eq_left (by omega), Nat.min_eq_left (by omega), ndsU_succ, unhide HLk]; rfl)
        clear hd hkn
        go_wp2_with fail
        refine (unhide HID _).mono ?_
        rintro e w1 ⟨rfl, hb1⟩
        have HS1 := hide ((unhide HSb).below hb1)
        obtain ⟨d0, d1, d2, d3, d4, d5⟩ := ln_cells (unhide HBox _ hb1)
        have l0 : w1.cell? ⟨w.heap.size + 1, 0, none⟩ = some (.slice A ns.length c) := by rw [Lib.cell_of_heap (unhide HS1).box]; rfl
        have bC := (Below.refl w1.heap.size w1).alloc (Nat.le_refl _) (.cells #[.string x.name, .int .i64 x.kind, .int .i64 x.len, .int .i64 x.zone, .slice none 0 0] 45)
        have HS2 := hide ((unhide HS1).below bC)
        have hlt1 := (unhide HS1).lt
        clear hb1 bC
        go_wp2_with (first
          | (at_builtin; refine wpList_append_own _ rfl _ _ 22 rfl (w.heap.size + 2) 45 i0 (.agg #[.string ⟨#[]⟩, .int .i64 0, .int .i64 0, .int .i64 0, .slice none 0 0]) 5 64 Tryz.underlying22 (unhide Hi) (unhide Hz0) (unhide Hz1) (unhide Hz2) rfl (by decide) _ _ _ rfl (unhide HS2).nrow ⟨w1.heap.size, 0, none⟩ 1 1 [.string x.name, .int .i64 x.kind, .int .i64 x.len, .int .i64 x.zone, .slice none 0 0] rfl rfl ?c1 ?c2 ?c3 ?c4 ?c5 ?_))
        case c1 => exact World.news_of_block (heap_alloc_new w1 _)
        case c2 => simp [Value.oneCell']
        case c3 => unfold maxLen; omega
        case c4 => omega
        case c5 => rw [World.size_alloc]; omega
        intro v' w6 hown6 hgrow _
        obtain ⟨A6, c6, rfl⟩ := own_form hown6
        have hbox6 : w6.heap[w.heap.size + 1]? = some (.cells #[.slice A ns.length c, .slice none 0 0] 25 (0, 0)) :=
          (hgrow.block _ (unhide HS2).lt (fun e => by have := ((unhide HS2).nrow.lt _ e.symm).1; omega)).trans (unhide HS2).box
        have f6 : w6.frozen? ⟨w.heap.size + 1, 0, none⟩ = false := Lib.frozen_of_heap hbox6 0
        have l6 : w6.cell? ⟨w.heap.size + 1, 0, none⟩ = some (.slice A ns.length c) := by rw [Lib.cell_of_heap hbox6]; rfl
        have HS6 := hide ((unhide HS2).pushN (u := ⟨ndOf x, none, 0⟩) ⟨fun h => absurd h (Nat.lt_irrefl 0), Nat.le_refl 0⟩ hgrow hown6)
        clear hown6 hgrow hbox6 d0 d1 d2 d3 d4 d5 l0
        go_wp2
        go_roundw
        case rel => exact ⟨k + 1, A6, c6, ns ++ [⟨ndOf x, none, 0⟩], by omega, by go_num, unhide HS6, Lib.hid (unhide HM)⟩
        case measure => simp [intOf]; omega
    · obtain rfl : k = us.length := by omega
      have kl : ¬ ((us.length : Int) < (us.length : Int)) := by omega
      have HM := hide (show ns.map (·.x) = setEx ls n 0 by rw [hd.out, Nat.min_eq_right hnl, setEx_zero])
      have HS := hide hS
      clear hd hS
      generalize hwx : wo = w0 at *
      clear hwx
      go_wp2
      go_loopw [36] (fun i wr => ∃ (k : Nat) (A : Option Addr) (c : Nat) (ns : List NdS) (B : Option Addr) (d : Nat), k ≤ us.length ∧ i = .int .i64 k ∧ BdS b w A c ns B d (dvsU ls n k) wr ∧ Hid (ns.map (·.x) = setEx ls n k) ∧ Hid (∀ j, j < k → missB (ndsU ls n) (ls.getD j ln0) = false)) (fun i _ => us.length - (intOf i).toNat)
      case atStart => exact ⟨0, A, c, ns, none, 0, Nat.zero_le _, rfl, by rw [dvsU_none (Nat.zero_le _)]; exact unhide HS, Lib.hid (unhide HM), Lib.hid fun j hj => absurd hj (Nat.not_lt_zero _)⟩
      case round =>
        obtain ⟨k, A1, c1, ns1, B1, e1, hk1, rfl, hS1, hd1, hmi⟩ := hrel
        obtain ⟨wi, rfl⟩ : ∃ wi : World, wi = wr := ⟨_, rfl⟩
        by_cases hlt : k < us.length
        · obtain ⟨g, off, rfl, ⟨s0, s1, s2, s3, s4, s5⟩, hst⟩ := ((unhide HI).keep hS1.bel).at (i := k) hlt
          have HDv := hide (show isDv (us.getD k lns0).x = decide (n ≤ k) by rw [← unhide HAt k hlt]; exact (unhide HSp).2 k (by rw [unhide HLl]; exact hlt))
          have HLk := hide (unhide HAt k hlt)
          have HGx := hide (show LnG (us.getD k lns0).x by rw [← unhide HAt k hlt, at_k (by rw [unhide HLl]; exact hlt)]; exact unhide HGd _ (List.getElem_mem _))
          have hnz : ns1.length = n := by
            have := congrArg List.length hd1.out
            rw [List.length_map, setEx_len] at this
            exact this
          have HNz := hide hnz
          have hnz5 : ns1.length ≤ 5000 := by omega
          clear hnz
          have HSt := hide hst
          have HS1 := hide hS1
          have hlt0 := hS1.lt
          have HP := hide fun h => upto_step (p := fun j => missB (ndsU ls n) (ls.getD j ln0) = false) (k := k) hmi.out h
          have HNo := hide fun (h : missB (ndsU ls n) (ls.getD k ln0) = true) => buildL_hit (by rw [unhide HLl]; exact hlt) hmi.out h
          clear hS1 hst
          rw [unhide HLk] at HP HNo
          generalize us.getD k lns0 = u at *
          obtain ⟨x, P, cp⟩ := u
          have HID := hide fun W => isDevice_any x P cp W
          have bB := (Below.refl wi.heap.size wi).alloc (Nat.le_refl _) (lnO x P cp)
          have HSb := hide ((unhide HS1).below bB)
          have HBox := hide (show ∀ W, Below (wi.alloc (lnO x P cp)).heap.size (wi.alloc (lnO x P cp)) W → W.heap[wi.heap.size]? = some (.cells (lnA x P cp) 69 (0, 0)) from fun W hb => heap_below (heap_alloc_new wi _) hb)
          have hox : x.oth.length ≤ 6 := (unhide HGx).2.2.1
          have HIx := hide (lindices_any b (ns1.map (·.x)) x.oth A1 P c1 cp (wi.alloc (lnO x P cp)) (by omega) (by rw [List.length_map]; omega) (nds_own (unhide HSb).nrow (by omega) (unhide HSb).lies) ((unhide HSt).step ((KeepTy.below bB).s b)).strs)
          rw [List.length_map, hd1.out, idxF_names (setEx_names ls n k) x.oth] at HIx
          have HMs := hide (show missB (ndsU ls n) x = (idxF (ndsU ls n) x.oth).contains (-1) from rfl)
          have HEl := hide (idxF_len (ndsU ls n) x.oth)
          have hel6 : (idxF (ndsU ls n) x.oth).length ≤ 6 := by rw [idxF_len]; exact hox
          have HDof := hide (show dvOf (ndsU ls n) x = ⟨x.kind - 9, findI (ndsU ls n) (x.oth.getD 0 ByteArray.empty), x.win⟩ from rfl)
          have HE0 := hide (show 0 < x.oth.length → (idxF (ndsU ls n) x.oth).getD 0 0 = findI (ndsU ls n) (x.oth.getD 0 ByteArray.empty) from fun h => by
            rw [at_k (by rw [idxF_len]; exact h), at_k h]; unfold idxF; rw [List.getElem_map])
          have HSet := hide (show k < n → (ns1.map (·.x)).set k { (ns1.map (·.x)).getD k nd0 with exits := idxF (ndsU ls n) x.oth } = setEx ls n (k + 1) from fun h => by
            rw [hd1.out]
            have := setEx_set (ls := ls) h
            rwa [unhide HLk] at this)
          generalize idxF (ndsU ls n) x.oth = es at *
          have l0 : wi.cell? ⟨w.heap.size + 1, 0, none⟩ = some (.slice A1 ns1.length c1) := by rw [Lib.cell_of_heap (unhide HS1).box]; rfl
          have kl : (k : Int) < (us.length : Int) := by omega
          have k0 : (0 : Int) ≤ (k : Int) := by omega
          clear bB
          go_wp2_with fail
          refine (unhide HIx).mono ?_
          rintro e w5 ⟨v5, rfl, hown5, hb5⟩
          obtain ⟨F, fc, rfl⟩ := own_form hown5
          have hS5 := (unhide HSb).below hb5
          have HS5 := hide hS5
          have HF5 := hide (IntRow.own hown5 (b := b) (by rw [World.size_alloc]; have := (unhide HS1).bel.size; omega))
          have hfc := own_cap hown5
          have HCn := hide (conts_any b es (-1) F fc w5 (by omega) (unhide HF5).nums)
          have HRes5 := hide hS5.res
          have HB5 := hide hb5
          obtain ⟨d0, d1, d2, d3, d4, d5⟩ := ln_cells (unhide HBox _ hb5)
          have r5 : w5.cell? ⟨w.heap.size + 1, 0, none⟩ = some (.slice A1 ns1.length c1) := by rw [Lib.cell_of_heap hS5.box]; rfl
          clear hown5 hb5 l0 s0 s1 s2 s3 s4 s5
          cases hms : es.contains (-1) with
          | true =>
            have HR := hide (unhide HNo ((unhide HMs).trans hms))
            rw [hms] at HCn
            clear hms hS5
            go_wp2_with (first
              | (refine wpList_store_row rfl _ _ _ rfl w.heap.size #[.slice none 0 0, .slice none 0 0] rfl rfl 25 _ (unhide HRes5) linfo_lay rfl (by simp [Value.oneCell']) ?_)
              | (go_at_call 72; refine (unhide HCn).mono ?_; rintro e w6 ⟨rfl, rfl⟩))
            have hR := setRow_heap w5 w.heap.size _ #[.slice none 0 0, .slice none 0 0] _ _ (unhide HRes5)
            have z0 : (w5.setRow w.heap.size #[.slice none 0 0, .slice none 0 0]).cell? ⟨w.heap.size, 0, none⟩ = some (.slice none 0 0) := by rw [Lib.cell_of_heap hR]; rfl
            have z1 : (w5.setRow w.heap.size #[.slice none 0 0, .slice none 0 0]).cell? ⟨w.heap.size, 1, none⟩ = some (.slice none 0 0) := by rw [Lib.cell_of_heap hR]; rfl
            go_wp2
            rw [unhide HR]
            exact bodyPost_ret (v := .tuple #[.agg #[.slice none 0 0, .slice none 0 0], .int .i64 ((k : Int) + 1)]) (by simp [results, go_sem, z0, z1]) rfl ⟨none, 0, none, 0, rfl, NdsIn.nil _ _ _, DvsIn.nil _ _ _, lbelow_setRow (unhide HS5).bel (Nat.le_refl _) _⟩
          | false =>
            have HMi := hide (unhide HP ((unhide HMs).trans hms))
            rw [hms] at HCn
            clear hms
            by_cases hkn : n ≤ k
            · have HDD := hide (show decide (9 < x.kind) = true by have := unhide HDv; rw [decide_eq_true hkn] at this; exact this)
              rw [unhide HDD] at HID
              have hk9 : 9 < x.kind := of_decide_eq_true (unhide HDD)
              have hk11 : x.kind ≤ 11 := (unhide HGx).2.1
              have ho1 : 0 < x.oth.length := (unhide HGx).2.2.2 hk9
              have hE0 := unhide HE0 ho1
              have HDk := hide (show dvsU ls n (k + 1) = dvsU ls n k ++ [⟨x.kind - 9, es.getD 0 0, x.win⟩] by rw [dvsU_succ hkn, unhide HLk, hE0]; rfl)
              have HEx := hide (show ns1.map (·.x) = setEx ls n (k + 1) by rw [hd1.out, setEx_more ls n k hkn])
              have hdz : (dvsU ls n k).length ≤ 5000 := by unfold dvsU; rw [List.length_map, List.length_range]; omega
              have hes : 0 < es.length := by rw [unhide HEl]; exact ho1
              have hes' : (0 : Int) < (es.length : Int) := by omega
              obtain ⟨gF, csF, fzF, rfl, hgF, hgg, hcF⟩ := (unhide HF5) hes
              have hcc := hcF 0 hes
              generalize es.getD 0 0 = f0 at *
              have HYF := hide (show ∀ W : World, W.heap[gF]? = some (.cells csF 3 fzF) → W.cell? ⟨gF, 0, none⟩ = some (.int .i64 f0) from fun W h => by rw [Lib.cell_of_heap h]; exact hcc)
              clear hS5 hkn hE0 hcF ho1 hcc
              generalize dvsU ls n k = ds at *
              go_wp2_with (first
                | (go_at_call 72; refine (unhide HCn).mono ?_; rintro e w6 ⟨rfl, rfl⟩))
              refine (unhide HID _).mono ?_
              rintro e w7 ⟨rfl, hb7⟩
              have hS7 := (unhide HS5).below hb7
              have hbx7 := heap_below (unhide HBox _ (unhide HB5)) hb7
              have hgg7 := heap_below hgg hb7
              obtain ⟨z0, -, -, -, z4, -⟩ := ln_cells hbx7
              have y7 := unhide HYF _ hgg7
              have r7 : w7.cell? ⟨w.heap.size + 1, 1, none⟩ = some (.slice B1 ds.length e1) := by rw [Lib.cell_of_heap hS7.box]; rfl
              have h72 : w.heap.size + 1 < w7.heap.size := hS7.lt
              have hsum : IntKind.i64.wrap (x.kind - 9) = x.kind - 9 := IntWalk.i64_in _ (by omega)
              have bC : Below w7.heap.size w7 ((w7.alloc (.cells #[.int .i64 (x.kind - 9), .int .i64 f0, .int .i64 x.win] 57)).drew) := ((Below.refl w7.heap.size w7).alloc (Nat.le_refl _) (.cells #[.int .i64 (x.kind - 9), .int .i64 f0, .int .i64 x.win] 57)).drew
              have hS8 := hS7.below bC
              have hbx8 := heap_below hbx7 bC
              have hgg8 := heap_below hgg7 bC
              obtain ⟨zA0, -, -, -, zA4, -⟩ := ln_cells hbx8
              have yA := unhide HYF _ hgg8
              have rA : (((w7.alloc (.cells #[.int .i64 (x.kind - 9), .int .i64 f0, .int .i64 x.win] 57)).drew)).cell? ⟨w.heap.size + 1, 1, none⟩ = some (.slice B1 ds.length e1) := by rw [Lib.cell_of_heap hS8.box]; rfl
              have HS8 := hide hS8
              have HD8 := hide hS8.drow
              have HBx8 := hide hbx8
              have HGg8 := hide hgg8
              have HBk := hide (show (((w7.alloc (.cells #[.int .i64 (x.kind - 9), .int .i64 f0, .int .i64 x.win] 57)).drew)).heap[w7.heap.size]? = some (.cells #[.int .i64 (x.kind - 9), .int .i64 f0, .int .i64 x.win] 57 (0, 0)) from heap_alloc_new w7 _)
              have hsz8 := hS8.lt
              have hsz9 : w.heap.size + 2 ≤ (((w7.alloc (.cells #[.int .i64 (x.kind - 9), .int .i64 f0, .int .i64 x.win] 57)).drew)).heap.size := by omega
              have hneF : gF ≠ w.heap.size + 1 := fun e => by subst e; have h1 := hS8.box; rw [hgg8] at h1; injection h1 with h1; injection h1 with _ h1 _; exact absurd h1 (by decide)
              have hneB : wi.heap.size ≠ w.heap.size + 1 := by omega
              clear hb7 hS7 d0 d1 d2 d3 d4 d5 r5 bC hS8 hbx7 hgg7 hbx8 hgg8 hgg
              go_wp2_with fail
              have hD7 : w7.drew.heap.size = w7.heap.size := rfl
              have bX := (Below.refl w7.heap.size w7).drew
              have dz0 := kept bX z0
              have dz4 := kept bX z4
              have dy7 := kept bX y7
              have dr7 := kept bX r7
              refine wp_region_held (S := fun Z => Z.cell? ⟨wi.heap.size, 0, none⟩ = some (.int .i64 x.kind) ∧ Z.cell? ⟨wi.heap.size, 4, none⟩ = some (.int .i64 x.win) ∧ Z.cell? ⟨gF, 0, none⟩ = some (.int .i64 f0)) (by kernel_rfl) ?_
              refine wpAnyH_take (i := 0) (v := .pointer (some ⟨w.heap.size + 1, 1, none⟩)) rfl (by kernel_rfl) (by kernel_rfl) (by kernel_rfl) (fun _ _ _ h => h) (Or.inl ⟨by rfl, by intro w _; go_simp⟩) ⟨dz0, dz4, dy7⟩ ?_
              refine wpAnyH_take (i := 2) (v := .pointer (some ⟨wi.heap.size, 0, none⟩)) rfl (by kernel_rfl) (by kernel_rfl) (by kernel_rfl) (fun _ _ _ h => h) (Or.inl ⟨by rfl, by intro w _; go_simp⟩) ⟨dz0, dz4, dy7⟩ ?_
              refine wpAnyH_take (i := 3) (v := .int .i64 x.kind) rfl (by kernel_rfl) (by kernel_rfl) (by kernel_rfl) (fun _ _ _ h => h) (Or.inl ⟨by rfl, by intro w hs; have hs1 := hs.1; go_simp⟩) ⟨dz0, dz4, dy7⟩ ?_
              refine wpAnyH_take (i := 4) (v := .int .i64 (x.kind - 9)) rfl (by kernel_rfl) (by kernel_rfl) (by kernel_rfl) (fun _ _ _ h => h) (Or.inl ⟨by rfl, by intro w _; go_simp⟩) ⟨dz0, dz4, dy7⟩ ?_
              refine wpAnyH_take (i := 5) (v := .slice (some ⟨gF, 0, none⟩) es.length fc) rfl (by kernel_rfl) (by kernel_rfl) (by kernel_rfl) (fun _ _ _ h => h) (Or.inl ⟨by rfl, by intro w _; go_simp⟩) ⟨dz0, dz4, dy7⟩ ?_
              refine wpAnyH_take (i := 6) (v := .pointer (some ⟨gF, 0, none⟩)) rfl (by kernel_rfl) (by kernel_rfl) (by kernel_rfl) (fun _ _ _ h => h) (Or.inl ⟨by rfl, by intro w _; go_simp⟩) ⟨dz0, dz4, dy7⟩ ?_
              refine wpAnyH_take (i := 7) (v := .int .i64 f0) rfl (by kernel_rfl) (by kernel_rfl) (by kernel_rfl) (fun _ _ _ h => h) (Or.inl ⟨by rfl, by intro w hs; have hs1 := hs.2.2; go_simp⟩) ⟨dz0, dz4, dy7⟩ ?_
              refine wpAnyH_take (i := 8) (v := .pointer (some ⟨wi.heap.size, 4, none⟩)) rfl (by kernel_rfl) (by kernel_rfl) (by kernel_rfl) (fun _ _ _ h => h) (Or.inl ⟨by rfl, by intro w _; go_simp⟩) ⟨dz0, dz4, dy7⟩ ?_
              refine wpAnyH_take (i := 9) (v := .int .i64 x.win) rfl (by kernel_rfl) (by kernel_rfl) (by kernel_rfl) (fun _ _ _ h => h) (Or.inl ⟨by rfl, by intro w hs; have hs1 := hs.2.1; go_simp⟩) ⟨dz0, dz4, dy7⟩ ?_
              refine wpAnyH_take (i := 10) (v := .agg #[.int .i64 (x.kind - 9), .int .i64 f0, .int .i64 x.win]) rfl (by kernel_rfl) (by kernel_rfl) (by kernel_rfl) (fun _ _ _ h => h) (Or.inl ⟨by rfl, by intro w _; go_simp⟩) ⟨dz0, dz4, dy7⟩ ?_
              refine wpAnyH_two (i := 1) (j := 11) (by kernel_rfl) rfl rfl (fun K hK => ?_) (fun K hK => ?_)
              case' refine_1 =>
                go_simp
                refine hK _ _ ⟨⟨dz0, dz4, dy7⟩, ?_⟩
                clear hK K
                refine wpAnyH_one (i := 11) (by kernel_rfl) rfl (fun K hK => ?_)
                go_simp
                refine hK _ _ ⟨⟨zA0, zA4, yA⟩, ?_⟩
                clear hK K
              case' refine_2 =>
                go_simp
                refine hK _ _ ⟨⟨zA0, zA4, yA⟩, ?_⟩
                clear hK K
                refine wpAnyH_one (i := 1) (by kernel_rfl) rfl (fun K hK => ?_)
                go_simp
                refine hK _ _ ⟨⟨zA0, zA4, yA⟩, ?_⟩
                clear hK K
              all_goals
                refine wpAnyH_one (i := 12) (by kernel_rfl) rfl (fun K hK => ?_)
                (refine step_append_lies _ rfl _ _ 23 rfl (w.heap.size + 2) 57 j0 (.agg #[.int .i64 0, .int .i64 0, .int .i64 0]) 3 24 Tryz.underlying23 (unhide Hj) (unhide Hy0) (unhide Hy1) (unhide Hy2) rfl (by decide) _ _ _ rfl (unhide HD8) ⟨w7.heap.size, 0, none⟩ 1 1 [.int .i64 (x.kind - 9), .int .i64 f0, .int .i64 x.win] rfl rfl (World.news_of_block (unhide HBk)) (by simp [Value.oneCell']) (by omega) (by unfold maxLen; omega) (by omega) hsz9 _ rfl ?_)
                intro g9 cap9 w9 hown9 hgrow9 hat9 hlt9
                have hU9 := (hgrow9.block _ hsz8 (fun e => by have := ((unhide HD8).lt _ e.symm).1; omega)).trans (unhide HS8).box
                have u19 := Lib.cell_of_heap hU9 1
                have uf9 := Lib.frozen_of_heap hU9 1
                have HBx9 := hide ((hgrow9.block _ (Array.getElem?_eq_some_iff.1 (unhide HBx8)).1 (own_ne (unhide HD8) (unhide HBx8) (by decide))).trans (unhide HBx8))
                have HGg9 := hide ((hgrow9.block _ (Array.getElem?_eq_some_iff.1 (unhide HGg8)).1 (own_ne (unhide HD8) (unhide HGg8) (by decide))).trans (unhide HGg8))
                obtain ⟨u0, -, -, -, u4, -⟩ := ln_cells (unhide HBx9)
                have uy := unhide HYF _ (unhide HGg9)
                have HS9 := hide ((unhide HS8).pushD (u := ⟨x.kind - 9, f0, x.win⟩) hgrow9 hown9)
                clear hown9 hgrow9 hat9 hlt9
                refine hK _ _ ⟨⟨u0, u4, uy⟩, ?_⟩
                clear hK K
                refine wpAnyH_take (i := 13) (v := .pointer (some ⟨w.heap.size + 1, 1, none⟩)) rfl (by kernel_rfl) (by kernel_rfl) (by kernel_rfl) (fun _ _ _ h => h) (Or.inl ⟨by rfl, by intro w _; go_simp⟩) ⟨u0, u4, uy⟩ ?_
                refine wpAnyH_one (i := 14) (by kernel_rfl) rfl (fun K hK => ?_)
                go_simp
                obtain ⟨t0, -, -, -, t4, -⟩ := ln_cells (heap_setOther (i := 1) (unhide HBx9) hneB (.slice (some ⟨g9, 0, none⟩) (ds.length + 1) cap9))
                have ty := unhide HYF _ (heap_setOther (i := 1) (unhide HGg9) hneF (.slice (some ⟨g9, 0, none⟩) (ds.length + 1) cap9))
                refine hK _ _ ⟨⟨t0, t4, ty⟩, ?_⟩
                clear hK K
                refine wpAnyH_done (by kernel_rfl) ?_ _
                go_simp
                clear u19 uf9 z0 z4 y7 r7 zA0 zA4 yA rA u0 u4 uy t0 t4 ty dz0 dz4 dy7 dr7
                go_wp2
                go_roundw
                case rel => exact ⟨k + 1, A1, c1, ns1, some ⟨g9, 0, none⟩, cap9, by omega, by go_num, by rw [unhide HDk]; exact unhide HS9, Lib.hid (unhide HEx), Lib.hid (unhide HMi)⟩
                case measure => simp [intOf]; omega
            · have HDD := hide (show decide (9 < x.kind) = false by have := unhide HDv; rw [decide_eq_false hkn] at this; exact this)
              rw [unhide HDD] at HID
              have hkl : k < ns1.length := by have := unhide HNz; omega
              have HS' := hide (unhide HSet (by omega))
              have HEx := hide (show (ns1.set k ⟨{ (ns1.getD k nds0).x with exits := es }, F, fc⟩).map (·.x) = setEx ls n (k + 1) from by
                rw [List.map_set]
                have e9 : (ns1.map (·.x)).getD k nd0 = (ns1.getD k nds0).x := by rw [at_k (by rw [List.length_map]; exact hkl), at_k hkl, List.getElem_map]
                have := unhide HS'
                rw [e9] at this
                exact this)
              have HDk := hide (show dvsU ls n (k + 1) = dvsU ls n k by rw [dvsU_none (by omega), dvsU_none (by omega)])
              clear hS5 hkn
              go_wp2_with (first
                | (go_at_call 72; refine (unhide HCn).mono ?_; rintro e w6 ⟨rfl, rfl⟩))
              refine (unhide HID _).mono ?_
              rintro e w7 ⟨rfl, hb7⟩
              have hS7 := (unhide HS5).below hb7
              have hF7 := (unhide HF5).step (KeepTy.below hb7)
              obtain ⟨gN, rfl, hgN, hcN⟩ := own_cell hS7.nrow (by omega)
              have r7 : w7.cell? ⟨w.heap.size + 1, 0, none⟩ = some (.slice (some ⟨gN, 0, none⟩) ns1.length c1) := by rw [Lib.cell_of_heap hS7.box]; rfl
              have y7 : w7.cell? ⟨gN, k * 5 + 4, none⟩ = some (.slice (ns1.getD k nds0).P (ns1.getD k nds0).x.exits.length (ns1.getD k nds0).c) := hcN _ _ (by rw [ndsV_at ns1 k hkl 4 (by omega)]; rfl)
              have f7 : w7.frozen? ⟨gN, k * 5 + 4, none⟩ = false := by
                obtain ⟨g', cap, cur, hv, _, hgg, _⟩ := hS7.nrow.2.resolve_left (fun e => by cases e.1)
                have : gN = g' := by injection hv with hv; injection hv with hv; injection hv
                subst this
                exact Lib.frozen_of_heap hgg _
              have HS8 := hide (hS7.setExits hkl ⟨hF7, hfc⟩)
              have hki : (k : Int) < (ns1.length : Int) := by omega
              clear hb7 hS7 hF7 hcN d0 d1 d2 d3 d4 d5 r5
              go_wp2
              go_roundw
              case rel => exact ⟨k + 1, some ⟨gN, 0, none⟩, c1, ns1.set k ⟨{ (ns1.getD k nds0).x with exits := es }, F, fc⟩, B1, e1, by omega, by go_num, by rw [unhide HDk]; exact unhide HS8, Lib.hid (unhide HEx), Lib.hid (unhide HMi)⟩
              case measure => simp [intOf]; omega
        · obtain rfl : k = us.length := by omega
          have kl2 : ¬ ((us.length : Int) < (us.length : Int)) := by omega
          have HR := hide (show buildL ls n = (⟨ns1.map (·.x), dvsU ls n us.length⟩, 0) by
            rw [buildL_no (fun j hj => hmi.out j (by rw [unhide HLl] at hj; exact hj)), unhide HLl, hd1.out])
          have HS1 := hide hS1
          have HRes := hide hS1.res
          have l0 : wi.cell? ⟨w.heap.size + 1, 0, none⟩ = some (.slice A1 ns1.length c1) := by rw [Lib.cell_of_heap hS1.box]; rfl
          have l1 : wi.cell? ⟨w.heap.size + 1, 1, none⟩ = some (.slice B1 (dvsU ls n us.length).length e1) := by rw [Lib.cell_of_heap hS1.box]; rfl
          clear hS1 hmi hd1 hlt
          generalize dvsU ls n us.length = ds at *
          go_wp2_with (first
            | (refine wpList_store_row rfl _ _ _ rfl w.heap.size #[.slice A1 ns1.length c1, .slice B1 ds.length e1] rfl rfl 25 _ (unhide HRes) linfo_lay rfl (by simp [Value.oneCell']) ?_))
          have hR := setRow_heap wi w.heap.size _ #[.slice A1 ns1.length c1, .slice B1 ds.length e1] _ _ (unhide HRes)
          have z0 : (wi.setRow w.heap.size #[.slice A1 ns1.length c1, .slice B1 ds.length e1]).cell? ⟨w.heap.size, 0, none⟩ = some (.slice A1 ns1.length c1) := by rw [Lib.cell_of_heap hR]; rfl
          have z1 : (wi.setRow w.heap.size #[.slice A1 ns1.length c1, .slice B1 ds.length e1]).cell? ⟨w.heap.size, 1, none⟩ = some (.slice B1 ds.length e1) := by rw [Lib.cell_of_heap hR]; rfl
          rw [unhide HR]
          refine bodyPost_ret (v := .tuple #[.agg #[.slice A1 ns1.length c1, .slice B1 ds.length e1], .int .i64 0]) (by simp [results, go_sem, z0, z1]) rfl ⟨A1, c1, B1, e1, by show _ = Ending.returned (.tuple #[.agg #[.slice A1 (ns1.map (·.x)).length c1, .slice B1 ds.length e1], .int .i64 0]); rw [List.length_map], nds_own (own_setRow5 (unhide HS1).nrow (by omega)) (by omega) (fun u hu => ⟨((unhide HS1).lies u hu).1.step (keepTy_setRow (unhide HRes) (by decide)), ((unhide HS1).lies u hu).2⟩), dvs_own (own_setRow5 (unhide HS1).drow (by omega)) (by omega), lbelow_setRow (unhide HS1).bel (Nat.le_refl _) _⟩
end Go.Proofs.YtfddpdognelhmaaGreatDoor
