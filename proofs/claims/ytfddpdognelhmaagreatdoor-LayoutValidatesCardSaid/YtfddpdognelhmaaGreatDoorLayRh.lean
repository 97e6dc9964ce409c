/-
  Contract of the document's own Format of a layout.
-/
import Derived.Test.YtfddpdognelhmaaGreatDoorLayRg
import Derived.BigQuiet
namespace Go.Proofs.YtfddpdognelhmaaGreatDoor
open Go.RowKit

/-- What a valid node is. -/
structure RVn (l : List Nd) (x : Nd) : Prop where
  name : x.name.size ≤ 12
  kind : wIn x.kind 1 9 = true
  len : 0 ≤ x.len ∧ x.len ≤ 8
  zone : 0 ≤ x.zone ∧ x.zone ≤ 1
  exl : x.exits.length = exN x.kind
  rng : ∀ t ∈ x.exits, 0 ≤ t ∧ t < l.length
theorem rvn_of {x : Lay} (h : layE x = 0) {i : Nat} (hi : i < x.nodes.length) : RVn x.nodes (x.nodes.getD i nd0) := by
  have hn := nds_zero (layE_zero h).2.2.1
  have h1 := fstE_all (show fstE (fun i => ndE x.nodes.length i (x.nodes.getD i nd0)) x.nodes.length = 0 from hn) i hi
  have hl := lens_of hn i hi
  have hr := (exg_of hn).rng i hi
  unfold ndE at h1
  split at h1
  · rename_i hnm
    split at h1
    · rename_i hk
      split at h1
      · rename_i h2
        rw [Bool.and_eq_true, Bool.and_eq_true] at h2
        have h3 := h2.2.2
        unfold exOk at h3
        rw [Bool.and_eq_true, decide_eq_true_eq] at h3
        exact ⟨lname_size hnm, hk, hl, wIn_iff.1 h2.2.1, h3.1, hr⟩
      · omega
    · omega
  · omega
theorem rnm_step (l : List Nd) (ex : List Int) {k : Nat} (h : k < ex.length) : jnT ((nmF l ex).take (k + 1)) = jnT ((nmF l ex).take k) ++ [32] ++ (l.getD (ex.getD k 0).toNat nd0).name.data.toList := by
  have hl : k < (nmF l ex).length := by unfold nmF; rw [List.length_map]; exact h
  rw [List.take_succ_eq_append_getElem hl, jnT_snoc]
  have e : (nmF l ex)[k] = (l.getD (ex.getD k 0).toNat nd0).name := by
    rw [at_k h]
    show (ex.map fun t => (l.getD t.toNat nd0).name)[k]'(by simpa using h) = _
    rw [List.getElem_map]
  rw [e]
theorem rnm_len (l : List Nd) (ex : List Int) : (nmF l ex).length = ex.length := by unfold nmF; rw [List.length_map]
/-- What the document's Format keeps: the text so far. -/
structure RfS (S : ByteArray) (L : List UInt8) (m : Nat) : Prop where
  txt : S.data.toList = L
  few : S.size ≤ m
theorem RfS.add {S T : ByteArray} {L : List UInt8} {m k : Nat} (h : RfS S L m) (hT : T.size ≤ k) : RfS (S ++ T) (L ++ T.data.toList) (m + k) :=
  ⟨by rw [ByteArray.data_append, Array.toList_append, h.txt], by rw [ByteArray.size_append]; have := h.few; omega⟩
theorem RfS.as {S : ByteArray} {L L' : List UInt8} {m m' : Nat} (h : RfS S L m) (e : L = L') (hm : m ≤ m') : RfS S L' m' := ⟨h.txt.trans e, Nat.le_trans h.few hm⟩

theorem fmt_text {x : Lay} (h : layE x = 0) : fmtX x = x.nodes.flatMap (nodeT x.nodes) ++ x.devs.flatMap (devT x.nodes) := by
  have e1 : ∀ l : List Nd, (∀ y ∈ l, y ∈ x.nodes) → l.flatMap (ndX x.nodes) = l.flatMap (nodeT x.nodes) := fun l hl => by
    induction l with
    | nil => rfl
    | cons y l ih =>
      rw [List.flatMap_cons, List.flatMap_cons, ih fun z hz => hl z (List.mem_cons_of_mem _ hz)]
      obtain ⟨i, hi, rfl⟩ := List.getElem_of_mem (hl y (List.mem_cons_self ..))
      have hv := rvn_of h hi
      rw [at_k hi] at hv
      rw [node_text hv.kind hv.exl]
  have e2 : ∀ l : List Dv, (∀ y ∈ l, y ∈ x.devs) → l.flatMap (dvX x.nodes) = l.flatMap (devT x.nodes) := fun l hl => by
    induction l with
    | nil => rfl
    | cons y l ih =>
      rw [List.flatMap_cons, List.flatMap_cons, ih fun z hz => hl z (List.mem_cons_of_mem _ hz)]
      obtain ⟨i, hi, rfl⟩ := List.getElem_of_mem (hl y (List.mem_cons_self ..))
      have hv := vdv_of h hi
      rw [at_k hi] at hv
      rw [dev_text (wIn_iff.2 hv.kind)]
  unfold fmtX
  rw [e1 _ fun _ h => h, e2 _ fun _ h => h]

set_option maxHeartbeats 8000000 in
set_option maxRecDepth 100000 in
theorem rFormat_any (b : Nat) (x : Lay) (A D : Option Addr) (c d : Nat) (w : World) (hT : WTab w) (h : LayIn b w x A D) (hbw : b < w.heap.size) :
    Calls Tryz.prog 11 #[lV x A c D d] w fun e w' => e = .returned (.tuple #[.string (fmtS x), .int .i64 (layE x)]) ∧ Below w.heap.size w w' := by
  have b1 := (Below.refl w.heap.size w).alloc (Nat.le_refl _) (lO x A c D d)
  have HI := hide (h.keep b1)
  have B1 := hide b1
  have HX := hide (heap_alloc_new w (lO x A c D d))
  have HC := hide (rval_any b x A D c d _ (unhide HI) (by rw [World.size_alloc]; omega))
  have HT := hide (hT.keep b1)
  clear h b1 hT
  by_cases he : layE x = 0
  · have hz := layE_zero he
    have hN24 := hz.1
    have hD24 := hz.2.1
    have HVn := hide fun i hi => rvn_of he (i := i) hi
    have HVd := hide fun i hi => vdv_of he (i := i) hi
    have HFm := hide (show fmtS x = ⟨(x.nodes.flatMap (nodeT x.nodes) ++ x.devs.flatMap (devT x.nodes)).toArray⟩ from by rw [← fmt_text he]; exact if_pos he)
    rw [he] at HC
    rw [he]
    clear he hz
    go_enter Tryz.func11, Tryz.ntmps11
    go_wp2_with fail
    refine (unhide HC).mono ?_
    rintro e W1 ⟨rfl, hb1⟩
    have HB1 := hide (onward (unhide B1) hb1)
    have HI1 := hide ((unhide HI).keep hb1)
    have HX1 := hide (heap_below (unhide HX) hb1)
    have HT1 := hide ((unhide HT).keep hb1)
    clear hb1 HC HI HX HT B1
    go_wp2
    go_loopw [5, 6] (fun sv iv wr => ∃ (i : Nat) (S : ByteArray), i ≤ x.nodes.length ∧ iv = .int .i64 i ∧ sv = .string S ∧ Hid (RfS S ((x.nodes.take i).flatMap (nodeT x.nodes)) (100 * i)) ∧ Hid (Below W1.heap.size W1 wr)) (fun _ iv _ => x.nodes.length - (intOf iv).toNat)
    case atStart => exact ⟨0, ByteArray.empty, Nat.zero_le _, rfl, rfl, Lib.hid ⟨rfl, Nat.le_refl _⟩, Lib.hid (Below.refl _ _)⟩
    case round =>
      obtain ⟨i, S, hi, rfl, rfl, hS, hb⟩ := hrel
      obtain ⟨wo, rfl⟩ : ∃ wo : World, wo = wr := ⟨_, rfl⟩
      have HIo := hide ((unhide HI1).keep hb.out)
      have HXo := hide (heap_below (unhide HX1) hb.out)
      have HTo := hide ((unhide HT1).keep hb.out)
      have HB := hide hb.out
      have HS := hide hS.out
      have l0 : wo.cell? ⟨w.heap.size, 0, none⟩ = some (.slice A x.nodes.length c) := by rw [Lib.cell_of_heap (unhide HXo)]; rfl
      by_cases hlt : i < x.nodes.length
      · have il : (i : Int) < (x.nodes.length : Int) := by omega
        have i0 : (0 : Int) ≤ (i : Int) := by omega
        have hV := unhide HVn i hlt
        have HSt := hide (lflat_step (f := nodeT x.nodes) (d := nd0) hlt)
        obtain ⟨g, off, rfl, _, hcl⟩ := (unhide HIo).nds (by omega)
        obtain ⟨q0, q1, q2, q3, P, cp, q4, hld, hn⟩ := hcl i hlt
        generalize x.nodes.getD i nd0 = nd at *
        have hki := wIn_iff.1 hV.kind
        have HV := hide hV
        obtain ⟨nm, kd, ln, zo, ex⟩ := nd
        simp only [] at *
        obtain ⟨kn, rfl⟩ := Int.eq_ofNat_of_zero_le (show 0 ≤ kd by omega)
        have hk10 : kn < 10 := by omega
        have b2 := (Below.refl wo.heap.size wo).alloc (Nat.le_refl _) (ndO ⟨nm, (kn : Int), ln, zo, ex⟩ P cp)
        obtain ⟨W2, hW2⟩ : ∃ W2 : World, wo.alloc (ndO ⟨nm, (kn : Int), ln, zo, ex⟩ P cp) = W2 := ⟨_, rfl⟩
        have HBx := hide (show W2.heap[wo.heap.size]? = some (ndO ⟨nm, (kn : Int), ln, zo, ex⟩ P cp) from by rw [← hW2]; exact heap_alloc_new wo _)
        rw [hW2] at b2
        have HN := hide (hn.keep b2)
        have HI2 := hide ((unhide HIo).keep b2)
        have HX2 := hide (heap_below (unhide HXo) b2)
        have HB2 := hide (onward hb.out b2)
        obtain ⟨gW, oW, cW, t0, tW⟩ := ((unhide HTo).keep b2).has
        have t1 := tW kn hk10
        obtain ⟨d0, d1, d2, d3, d4⟩ := nd_cells (unhide HBx)
        have hK := kw_few (n := kn) (by omega)
        have hnm := (unhide HV).name
        have HKw := hide (show nodeH ⟨nm, (kn : Int), ln, zo, ex⟩ = (kwS kn).data.toList ++ ([32] ++ nm.data.toList) from rfl)
        generalize kwS kn = K at *
        have k10 : (kn : Int) < 10 := by omega
        have k00 : (0 : Int) ≤ (kn : Int) := by omega
        have hS1 : RfS (S ++ (K ++ ⟨#[32]⟩ ++ nm)) ((x.nodes.take i).flatMap (nodeT x.nodes) ++ nodeH ⟨nm, (kn : Int), ln, zo, ex⟩) (100 * i + 25) :=
          ((unhide HS).add (T := K ++ ⟨#[32]⟩ ++ nm) (k := 25) (by rw [ByteArray.size_append, ByteArray.size_append]; show K.size + 1 + nm.size ≤ 25; have : nm.size ≤ 12 := hnm; omega)).as (by rw [unhide HKw]; simp [ByteArray.data_append]) (Nat.le_refl _)
        have HS1 := hide hS1
        have hsz : S.size ≤ 3000 := by have := (unhide HS).few; omega
        clear hcl hn hld hb hV hki tW hS1 hS b2
        go_wp2_with fail
        refine wp_region_after (by kernel_rfl) (by kernel_rfl) ?_
        have a0 := fun t : After W2 => After.cell t0 t
        have a1 := fun t : After W2 => After.cell t1 t
        have a2 := fun t : After W2 => After.cell d0 t
        have a3 := fun t : After W2 => After.cell d1 t
        repeat (go_big_quiet_step (fail))
        refine wpQuiet_nil ?_
        rintro _ ⟨t, rfl⟩
        have hbt := t.is
        clear a0 a1 a2 a3
        generalize t.to = W3 at *
        clear t0 t1
        generalize S ++ (K ++ ⟨#[32]⟩ ++ nm) = S1 at *
        have e1 := kept hbt d1
        have e2 := kept hbt d2
        have e3 := kept hbt d3
        have e4 := kept hbt d4
        have HLe := hide (show nodeL ⟨nm, (kn : Int), ln, zo, ex⟩ = if wIn (kn : Int) 1 6 = true then [32] ++ (decS ln).data.toList else [] from rfl)
        have hln := (unhide HV).len
        have hzo := (unhide HV).zone
        have HBt := hide hbt
        clear hbt hsz
        cases hst : wIn (kn : Int) 1 6
        case' false =>
          have HS2 := hide ((unhide HS1).as (L' := (x.nodes.take i).flatMap (nodeT x.nodes) ++ nodeH ⟨nm, (kn : Int), ln, zo, ex⟩ ++ nodeL ⟨nm, (kn : Int), ln, zo, ex⟩) (m' := 100 * i + 30) (by rw [unhide HLe, hst]; simp) (by omega))
          have HBw := HBt
          have g3 := e3
          have g4 := e4
          go_wp2_with (first | (go_at_call 31; refine (rstrip_any _ _).mono ?_; rw [hst]; rintro e w4 ⟨rfl, rfl⟩))
          clear HS1
          generalize S1 = S2 at *
        case' true =>
          have hsz : S1.size ≤ 3000 := by have := (unhide HS1).few; omega
          have hds := (decS_size ln).2
          go_wp2_with (first | (go_at_call 31; refine (rstrip_any _ _).mono ?_; rw [hst]; rintro e w4 ⟨rfl, rfl⟩))
          refine (rdecimal_any ln _ hln.1 (by have := hln.2; omega)).mono ?_
          rintro e w4 ⟨rfl, hb4⟩
          have HS2 := hide (((unhide HS1).add (T := ⟨#[32]⟩ ++ decS ln) (k := 5) (by rw [ByteArray.size_append]; show 1 + _ ≤ 5; omega)).as (L' := (x.nodes.take i).flatMap (nodeT x.nodes) ++ nodeH ⟨nm, (kn : Int), ln, zo, ex⟩ ++ nodeL ⟨nm, (kn : Int), ln, zo, ex⟩) (m' := 100 * i + 30) (by rw [unhide HLe, hst]; simp [ByteArray.data_append]) (by omega))
          have HBw := hide (onward (unhide HBt) hb4)
          have g3 := kept hb4 e3
          have g4 := kept hb4 e4
          clear hb4 HS1
          go_wp2_with fail
          generalize S1 ++ (⟨#[32]⟩ ++ decS ln) = S2 at *
          clear hsz hds
        all_goals
          refine (rdecimal_any zo _ hzo.1 (by have := hzo.2; omega)).mono ?_
          rintro e w5 ⟨rfl, hb5⟩
          have HS3 := hide (((unhide HS2).add (T := ⟨#[32]⟩ ++ decS zo) (k := 5) (by rw [ByteArray.size_append]; show 1 + _ ≤ 5; have := (decS_size zo).2; omega)).as (L' := (x.nodes.take i).flatMap (nodeT x.nodes) ++ nodeH ⟨nm, (kn : Int), ln, zo, ex⟩ ++ nodeL ⟨nm, (kn : Int), ln, zo, ex⟩ ++ nodeZ ⟨nm, (kn : Int), ln, zo, ex⟩) (m' := 100 * i + 35) (by unfold nodeZ; simp [ByteArray.data_append]) (by omega))
          have HB5 := hide (onward (unhide HBw) hb5)
          have g4' := kept hb5 g4
          have hsz : S2.size ≤ 3000 := by have := (unhide HS2).few; omega
          have hds := (decS_size zo).2
          clear g3 g4 e1 e2 e3 e4 hb5 HBw HBt HS2
          by_cases hx0 : (0 : Int) < (ex.length : Int)
        all_goals
          have hsz3 : (S2 ++ (⟨#[32]⟩ ++ decS zo)).size ≤ 3100 := by have := (unhide HS3).few; omega
          first
            | (have hx1 : (0 : Int) < (ex.length : Int) := hx0
               have HS4 := hide (((unhide HS3).add (T := ⟨#[32, 62]⟩) (k := 2) (by decide)).as (L' := (x.nodes.take i).flatMap (nodeT x.nodes) ++ nodeH ⟨nm, (kn : Int), ln, zo, ex⟩ ++ nodeL ⟨nm, (kn : Int), ln, zo, ex⟩ ++ nodeZ ⟨nm, (kn : Int), ln, zo, ex⟩ ++ nodeG ⟨nm, (kn : Int), ln, zo, ex⟩) (m' := 100 * i + 37) (by unfold nodeG; rw [if_pos (show 0 < ex.length by omega)]) (by omega))
               clear hx1
               go_wp2
               generalize S2 ++ (⟨#[32]⟩ ++ decS zo) ++ ⟨#[32, 62]⟩ = S4 at *)
            | (have HS4 := hide ((unhide HS3).as (L' := (x.nodes.take i).flatMap (nodeT x.nodes) ++ nodeH ⟨nm, (kn : Int), ln, zo, ex⟩ ++ nodeL ⟨nm, (kn : Int), ln, zo, ex⟩ ++ nodeZ ⟨nm, (kn : Int), ln, zo, ex⟩ ++ nodeG ⟨nm, (kn : Int), ln, zo, ex⟩) (m' := 100 * i + 37) (by unfold nodeG; rw [if_neg (show ¬ 0 < ex.length by omega), List.append_nil]) (by omega))
               go_wp2
               generalize S2 ++ (⟨#[32]⟩ ++ decS zo) = S4 at *)
        all_goals
          clear hsz hsz3 hds HS3 HLe
          have HX0 := hide hx0
          clear hx0
          have hxl : ex.length ≤ 2 := by have h1 := (unhide HV).exl; have h2 := exN_le (kn : Int); have h3 : ex.length = exN (kn : Int) := h1; omega
          try generalize decide (0 < ex.length) = dx
          go_loopw [5, 8] (fun sv kv wr => ∃ (k : Nat) (S' : ByteArray), k ≤ ex.length ∧ kv = .int .i64 k ∧ sv = .string S' ∧ Hid (RfS S' ((x.nodes.take i).flatMap (nodeT x.nodes) ++ nodeH ⟨nm, (kn : Int), ln, zo, ex⟩ ++ nodeL ⟨nm, (kn : Int), ln, zo, ex⟩ ++ nodeZ ⟨nm, (kn : Int), ln, zo, ex⟩ ++ nodeG ⟨nm, (kn : Int), ln, zo, ex⟩ ++ jnT ((nmF x.nodes ex).take k)) (100 * i + 37 + 13 * k)) ∧ Hid (Below W2.heap.size W2 wr)) (fun _ kv _ => ex.length - (intOf kv).toNat)
          case atStart => exact ⟨0, S4, Nat.zero_le _, rfl, rfl, Lib.hid ((unhide HS4).as (by simp [jnT]) (by omega)), Lib.hid (unhide HB5)⟩
          case round =>
            obtain ⟨k, S', hk, rfl, rfl, hS', hb'⟩ := hrel
            obtain ⟨wi, rfl⟩ : ∃ wi : World, wi = wr := ⟨_, rfl⟩
            have HSk := hide hS'.out
            have HBk := hide hb'.out
            clear g4'
            have g4' := kept hb'.out d4
            have g0 : wi.cell? ⟨w.heap.size, 0, none⟩ = some (.slice (some ⟨g, off, none⟩) x.nodes.length c) := by rw [Lib.cell_of_heap (heap_below (unhide HX2) hb'.out)]; rfl
            first
              | (have hno : ex.length = 0 := by have h9 := unhide HX0; omega
                 obtain rfl : k = ex.length := by omega
                 clear hno
                 have kl : ¬ ((ex.length : Int) < (ex.length : Int)) := by omega
                 have hszk : S'.size ≤ 3000 := by have := (unhide HSk).few; omega
                 have HS6 := hide (((unhide HSk).add (T := ⟨#[10]⟩) (k := 1) (by decide)).as (L' := (x.nodes.take (i + 1)).flatMap (nodeT x.nodes)) (m' := 100 * (i + 1)) (by
                   rw [unhide HSt, List.take_of_length_le (l := nmF x.nodes ex) (i := ex.length) (by rw [rnm_len]; exact Nat.le_refl _)]
                   simp [nodeT, List.append_assoc]) (by omega))
                 clear hS' hb'
                 go_wp2
                 go_roundw
                 case rel => exact ⟨i + 1, _, by omega, by go_num, rfl, Lib.hid (unhide HS6), Lib.hid (onward (unhide HB2) (unhide HBk))⟩
                 case measure => simp [intOf]; omega)
              | (by_cases hlt2 : k < ex.length
                 · obtain ⟨g', off', rfl, _, hc'⟩ := ((unhide HN).keep hb'.out) (by show 0 < ex.length; omega)
                   have e0 := hc' k hlt2
                   have hr := (unhide HV).rng (ex.getD k 0) (by show ex.getD k 0 ∈ ex; rw [at_k hlt2]; exact List.getElem_mem _)
                   have hNs := hide (rnm_step x.nodes ex hlt2)
                   have kl : (k : Int) < (ex.length : Int) := by omega
                   have kz : (0 : Int) ≤ (k : Int) := by omega
                   have e0 : wi.cell? ⟨g', off' + k, none⟩ = some (.int .i64 (ex.getD k 0)) := e0
                   generalize ex.getD k 0 = tt at *
                   obtain ⟨tn, rfl⟩ := Int.eq_ofNat_of_zero_le hr.1
                   have htn : tn < x.nodes.length := by omega
                   have ht1 : (tn : Int) < (x.nodes.length : Int) := by omega
                   have ht0 : (0 : Int) ≤ (tn : Int) := by omega
                   obtain ⟨g2, off2, hg2, -, hcl2⟩ := ((unhide HI2).keep hb'.out).nds (by omega)
                   injection hg2 with hg2; injection hg2 with e1 e2
                   subst e1; subst e2
                   obtain ⟨r0, -, -, -, -⟩ := hcl2 tn htn
                   have hnt := (unhide HVn tn htn).name
                   rw [Int.toNat_natCast] at hNs
                   generalize (x.nodes.getD tn nd0).name = nt at *
                   have hszk : S'.size ≤ 3000 := by have := (unhide HSk).few; omega
                   have HS5 := hide (((unhide HSk).add (T := ⟨#[32]⟩ ++ nt) (k := 13) (by rw [ByteArray.size_append]; show 1 + _ ≤ 13; omega)).as (L' := (x.nodes.take i).flatMap (nodeT x.nodes) ++ nodeH ⟨nm, (kn : Int), ln, zo, ex⟩ ++ nodeL ⟨nm, (kn : Int), ln, zo, ex⟩ ++ nodeZ ⟨nm, (kn : Int), ln, zo, ex⟩ ++ nodeG ⟨nm, (kn : Int), ln, zo, ex⟩ ++ jnT ((nmF x.nodes ex).take (k + 1))) (m' := 100 * i + 37 + 13 * (k + 1)) (by rw [unhide hNs]; simp [ByteArray.data_append]) (by omega))
                   clear hc' hcl2 hr hS' hb'
                   go_wp2_with fail
                   refine wp_region_after (by kernel_rfl) (by kernel_rfl) ?_
                   have a0 := fun t : After wi => After.cell g0 t
                   have a1 := fun t : After wi => After.cell g4' t
                   have a2 := fun t : After wi => After.cell e0 t
                   have a3 := fun t : After wi => After.cell r0 t
                   repeat (go_big_quiet_step (fail))
                   refine wpQuiet_nil ?_
                   rintro _ ⟨t, rfl⟩
                   have HBt := hide (onward (unhide HBk) t.is)
                   clear a0 a1 a2 a3
                   go_wp2
                   go_roundw
                   case rel => exact ⟨k + 1, _, by omega, by go_num, rfl, Lib.hid (unhide HS5), Lib.hid (unhide HBt)⟩
                   case measure => simp [intOf]; omega
                 · obtain rfl : k = ex.length := by omega
                   have kl : ¬ ((ex.length : Int) < (ex.length : Int)) := by omega
                   have hszk : S'.size ≤ 3000 := by have := (unhide HSk).few; omega
                   have HS6 := hide (((unhide HSk).add (T := ⟨#[10]⟩) (k := 1) (by decide)).as (L' := (x.nodes.take (i + 1)).flatMap (nodeT x.nodes)) (m' := 100 * (i + 1)) (by
                     rw [unhide HSt, List.take_of_length_le (l := nmF x.nodes ex) (i := ex.length) (by rw [rnm_len]; exact Nat.le_refl _)]
                     simp [nodeT, List.append_assoc]) (by omega))
                   clear hS' hb'
                   go_wp2
                   go_roundw
                   case rel => exact ⟨i + 1, _, by omega, by go_num, rfl, Lib.hid (unhide HS6), Lib.hid (onward (unhide HB2) (unhide HBk))⟩
                   case measure => simp [intOf]; omega)
      · obtain rfl : i = x.nodes.length := by omega
        have il : ¬ ((x.nodes.length : Int) < (x.nodes.length : Int)) := by omega
        have HSn := hide ((unhide HS).as (L' := x.nodes.flatMap (nodeT x.nodes)) (m' := 2400) (by rw [List.take_length]) (by omega))
        clear hS hb
        go_wp2
        go_loopw [5, 9] (fun sv iv wr => ∃ (i : Nat) (S2 : ByteArray), i ≤ x.devs.length ∧ iv = .int .i64 i ∧ sv = .string S2 ∧ Hid (RfS S2 (x.nodes.flatMap (nodeT x.nodes) ++ (x.devs.take i).flatMap (devT x.nodes)) (2400 + 40 * i)) ∧ Hid (Below W1.heap.size W1 wr)) (fun _ iv _ => x.devs.length - (intOf iv).toNat)
        case atStart => exact ⟨0, S, Nat.zero_le _, rfl, rfl, Lib.hid ((unhide HSn).as (by simp) (by omega)), Lib.hid (unhide HB)⟩
        case round =>
          obtain ⟨i, S2, hi2, rfl, rfl, hS2, hb2⟩ := hrel
          obtain ⟨wp, rfl⟩ : ∃ wp : World, wp = wr := ⟨_, rfl⟩
          have HS2 := hide hS2.out
          have HIp := hide ((unhide HI1).keep hb2.out)
          have HXp := hide (heap_below (unhide HX1) hb2.out)
          clear l0
          have l0 : wp.cell? ⟨w.heap.size, 0, none⟩ = some (.slice A x.nodes.length c) := by rw [Lib.cell_of_heap (unhide HXp)]; rfl
          have l1 : wp.cell? ⟨w.heap.size, 1, none⟩ = some (.slice D x.devs.length d) := by rw [Lib.cell_of_heap (unhide HXp)]; rfl
          by_cases hlt : i < x.devs.length
          · have il2 : (i : Int) < (x.devs.length : Int) := by omega
            have i0 : (0 : Int) ≤ (i : Int) := by omega
            have hv := unhide HVd i hlt
            have HDs := hide (lflat_step (f := devT x.nodes) (d := dv0) hlt)
            obtain ⟨gd, od, rfl, _, hcd⟩ := (unhide HIp).dvs (by omega)
            obtain ⟨u0, u1, u2⟩ := hcd i hlt
            have HDt := hide (show devT x.nodes (x.devs.getD i dv0) = (kwS (9 + (x.devs.getD i dv0).kind).toNat).data.toList ++ [32] ++ (x.nodes.getD (x.devs.getD i dv0).node.toNat nd0).name.data.toList ++ [32] ++ (decS (x.devs.getD i dv0).win).data.toList ++ [10] from rfl)
            generalize x.devs.getD i dv0 = dv at *
            obtain ⟨kd, nd, wn⟩ := dv
            obtain ⟨hk, hnd, hw⟩ := hv
            simp only [] at *
            obtain ⟨nn, rfl⟩ := Int.eq_ofNat_of_zero_le hnd.1
            have hnl : nn < x.nodes.length := by omega
            have n0 : (0 : Int) ≤ (nn : Int) := by omega
            have n1 : (nn : Int) < (x.nodes.length : Int) := by omega
            have hw0 := hw.1
            have hw9 : wn ≤ 9 := by have := hw.2; omega
            obtain ⟨g, off, rfl, _, hcn⟩ := (unhide HIp).nds (by omega)
            obtain ⟨m0, -, -, -, -⟩ := hcn nn hnl
            have hnt := (unhide HVn nn hnl).name
            rw [Int.toNat_natCast] at HDt
            generalize (x.nodes.getD nn nd0).name = nt at *
            have hsz2 : S2.size ≤ 4000 := by have := (unhide HS2).few; omega
            have hdz := (decS_size wn).2
            have hnt' : nt.size ≤ 12 := hnt
            have b3 := (Below.refl wp.heap.size wp).alloc (Nat.le_refl _) (dvO ⟨kd, (nn : Int), wn⟩)
            have HB3 := hide (onward hb2.out b3)
            clear hcd hcn hS2 hb2 hnd hw
            rcases (show kd = 1 ∨ kd = 2 by omega) with rfl | rfl
            · obtain ⟨W3, hW3⟩ : ∃ W3 : World, wp.alloc (dvO ⟨1, (nn : Int), wn⟩) = W3 := ⟨_, rfl⟩
              have hbx : W3.heap[wp.heap.size]? = some (dvO ⟨1, (nn : Int), wn⟩) := by rw [← hW3]; exact heap_alloc_new wp _
              rw [hW3] at b3 HB3
              have d0 : W3.cell? ⟨wp.heap.size, 0, none⟩ = some (.int .i64 1) := by rw [Lib.cell_of_heap hbx]; rfl
              have d1 : W3.cell? ⟨wp.heap.size, 1, none⟩ = some (.int .i64 (nn : Int)) := by rw [Lib.cell_of_heap hbx]; rfl
              have d2 : W3.cell? ⟨wp.heap.size, 2, none⟩ = some (.int .i64 wn) := by rw [Lib.cell_of_heap hbx]; rfl
              have k0 := kept b3 l0
              have r0 := kept b3 m0
              clear hbx b3
              -- kind 1
              have hKw : (kwS 10).data.toList = [112, 104, 111, 116, 111, 99, 101, 108, 108] := by decide +kernel
              have HS3 := hide (((unhide HS2).add (T := ⟨#[112, 104, 111, 116, 111, 99, 101, 108, 108, 32]⟩ ++ nt ++ ⟨#[32]⟩ ++ decS wn ++ ⟨#[10]⟩) (k := 40) (by rw [ByteArray.size_append, ByteArray.size_append, ByteArray.size_append, ByteArray.size_append]; show 10 + nt.size + 1 + (decS wn).size + 1 ≤ 40; have := (decS_size wn).2; omega)).as (L' := x.nodes.flatMap (nodeT x.nodes) ++ (x.devs.take (i + 1)).flatMap (devT x.nodes)) (m' := 2400 + 40 * (i + 1)) (by rw [unhide HDs, unhide HDt]; simp [ByteArray.data_append, hKw]) (by omega))
              clear hKw
              go_wp2_with fail
              have hD : W3.drew.heap.size = W3.heap.size := rfl
              have bD := (Below.refl W3.heap.size W3).drew
              have hh : W3.drew.cell? ⟨wp.heap.size, 0, none⟩ = some (.int .i64 1) ∧ W3.drew.cell? ⟨wp.heap.size, 1, none⟩ = some (.int .i64 (nn : Int)) ∧ W3.drew.cell? ⟨wp.heap.size, 2, none⟩ = some (.int .i64 wn) ∧ W3.drew.cell? ⟨w.heap.size, 0, none⟩ = some (.slice (some ⟨g, off, none⟩) x.nodes.length c) ∧ W3.drew.cell? ⟨g, off + nn * 5, none⟩ = some (.string nt) := ⟨kept bD d0, kept bD d1, kept bD d2, kept bD k0, kept bD r0⟩
              refine wp_region_held (S := fun Z => Z.cell? ⟨wp.heap.size, 0, none⟩ = some (.int .i64 1) ∧ Z.cell? ⟨wp.heap.size, 1, none⟩ = some (.int .i64 (nn : Int)) ∧ Z.cell? ⟨wp.heap.size, 2, none⟩ = some (.int .i64 wn) ∧ Z.cell? ⟨w.heap.size, 0, none⟩ = some (.slice (some ⟨g, off, none⟩) x.nodes.length c) ∧ Z.cell? ⟨g, off + nn * 5, none⟩ = some (.string nt)) (by kernel_rfl) ?_
              refine wpAnyH_take (i := 0) (v := .string S2) rfl (by kernel_rfl) (by kernel_rfl) (by kernel_rfl) (fun _ _ _ h => h) (Or.inl ⟨by rfl, by intro w hs; go_simp⟩) hh ?_
              refine wpAnyH_take (i := 2) (v := .pointer (some ⟨wp.heap.size, 0, none⟩)) rfl (by kernel_rfl) (by kernel_rfl) (by kernel_rfl) (fun _ _ _ h => h) (Or.inl ⟨by rfl, by intro w hs; go_simp⟩) hh ?_
              refine wpAnyH_take (i := 3) (v := .int .i64 1) rfl (by kernel_rfl) (by kernel_rfl) (by kernel_rfl) (fun _ _ _ h => h) (Or.inl ⟨by rfl, by intro w hs; have h9 := hs.1; go_simp⟩) hh ?_
              refine wpAnyH_take (i := 6) (v := .pointer (some ⟨w.heap.size, 0, none⟩)) rfl (by kernel_rfl) (by kernel_rfl) (by kernel_rfl) (fun _ _ _ h => h) (Or.inl ⟨by rfl, by intro w hs; go_simp⟩) hh ?_
              refine wpAnyH_take (i := 7) (v := .slice (some ⟨g, off, none⟩) x.nodes.length c) rfl (by kernel_rfl) (by kernel_rfl) (by kernel_rfl) (fun _ _ _ h => h) (Or.inl ⟨by rfl, by intro w hs; have h9 := hs.2.2.2.1; go_simp⟩) hh ?_
              refine wpAnyH_take (i := 8) (v := .pointer (some ⟨wp.heap.size, 1, none⟩)) rfl (by kernel_rfl) (by kernel_rfl) (by kernel_rfl) (fun _ _ _ h => h) (Or.inl ⟨by rfl, by intro w hs; go_simp⟩) hh ?_
              refine wpAnyH_take (i := 9) (v := .int .i64 (nn : Int)) rfl (by kernel_rfl) (by kernel_rfl) (by kernel_rfl) (fun _ _ _ h => h) (Or.inl ⟨by rfl, by intro w hs; have h9 := hs.2.1; go_simp⟩) hh ?_
              refine wpAnyH_take (i := 10) (v := .pointer (some ⟨g, off + nn * 5, none⟩)) rfl (by kernel_rfl) (by kernel_rfl) (by kernel_rfl) (fun _ _ _ h => h) (Or.inl ⟨by rfl, by intro w hs; go_simp⟩) hh ?_
              refine wpAnyH_take (i := 11) (v := .pointer (some ⟨g, off + nn * 5, none⟩)) rfl (by kernel_rfl) (by kernel_rfl) (by kernel_rfl) (fun _ _ _ h => h) (Or.inl ⟨by rfl, by intro w hs; go_simp⟩) hh ?_
              refine wpAnyH_take (i := 12) (v := .string nt) rfl (by kernel_rfl) (by kernel_rfl) (by kernel_rfl) (fun _ _ _ h => h) (Or.inl ⟨by rfl, by intro w hs; have h9 := hs.2.2.2.2; go_simp⟩) hh ?_
              refine wpAnyH_take (i := 15) (v := .pointer (some ⟨wp.heap.size, 2, none⟩)) rfl (by kernel_rfl) (by kernel_rfl) (by kernel_rfl) (fun _ _ _ h => h) (Or.inl ⟨by rfl, by intro w hs; go_simp⟩) hh ?_
              refine wpAnyH_take (i := 16) (v := .int .i64 wn) rfl (by kernel_rfl) (by kernel_rfl) (by kernel_rfl) (fun _ _ _ h => h) (Or.inl ⟨by rfl, by intro w hs; have h9 := hs.2.2.1; go_simp⟩) hh ?_
              refine wpAnyH_two (i := 1) (j := 17) (by kernel_rfl) rfl rfl (fun K hK => ?_) (fun K hK => ?_)
              case' refine_1 =>
                go_simp
                have bA : Below W3.heap.size W3 (W3.alloc (.cells #[.string ⟨#[]⟩, .string ⟨#[112, 104, 111, 116, 111, 99, 101, 108, 108, 32]⟩, .string ⟨#[115, 99, 97, 110, 110, 101, 114, 32]⟩] 9)).drew := ((Below.refl _ _).alloc (Nat.le_refl _) _).drew
                have hc : (W3.alloc (.cells #[.string ⟨#[]⟩, .string ⟨#[112, 104, 111, 116, 111, 99, 101, 108, 108, 32]⟩, .string ⟨#[115, 99, 97, 110, 110, 101, 114, 32]⟩] 9)).drew.cell? ⟨W3.heap.size, 1, none⟩ = some (.string ⟨#[112, 104, 111, 116, 111, 99, 101, 108, 108, 32]⟩) := by rw [show (W3.alloc (.cells #[.string ⟨#[]⟩, .string ⟨#[112, 104, 111, 116, 111, 99, 101, 108, 108, 32]⟩, .string ⟨#[115, 99, 97, 110, 110, 101, 114, 32]⟩] 9)).drew.cell? ⟨W3.heap.size, 1, none⟩ = (W3.alloc (.cells #[.string ⟨#[]⟩, .string ⟨#[112, 104, 111, 116, 111, 99, 101, 108, 108, 32]⟩, .string ⟨#[115, 99, 97, 110, 110, 101, 114, 32]⟩] 9)).cell? ⟨W3.heap.size, 1, none⟩ from rfl, Lib.cell_of_heap (heap_alloc_new W3 _)]; rfl
                have hhA : _ ∧ _ ∧ _ ∧ _ ∧ _ := ⟨kept bA d0, kept bA d1, kept bA d2, kept bA k0, kept bA r0⟩
                refine hK _ _ ⟨hhA, ?_⟩
                clear hK K
                refine wpAnyH_take (i := 4) (v := .pointer (some ⟨W3.heap.size, 1, none⟩)) rfl (by kernel_rfl) (by kernel_rfl) (by kernel_rfl) (fun _ _ _ h => h) (Or.inl ⟨by rfl, by intro w hs; go_simp⟩) hhA ?_
                refine wpAnyH_two (i := 5) (j := 17) (by kernel_rfl) rfl rfl (fun K hK => ?_) (fun K hK => ?_)
                case' refine_1 =>
                  go_simp
                  refine hK _ _ ⟨hhA, ?_⟩
                  clear hK K
                  refine wpAnyH_take (i := 13) (v := .string (⟨#[112, 104, 111, 116, 111, 99, 101, 108, 108, 32]⟩ ++ nt)) rfl (by kernel_rfl) (by kernel_rfl) (by kernel_rfl) (fun _ _ _ h => h) (Or.inl ⟨by rfl, by intro w hs; go_simp <;> omega⟩) hhA ?_
                  refine wpAnyH_take (i := 14) (v := .string (⟨#[112, 104, 111, 116, 111, 99, 101, 108, 108, 32]⟩ ++ nt ++ ⟨#[32]⟩)) rfl (by kernel_rfl) (by kernel_rfl) (by kernel_rfl) (fun _ _ _ h => h) (Or.inl ⟨by rfl, by intro w hs; go_simp <;> omega⟩) hhA ?_
                  refine wpAnyH_one (i := 17) (by kernel_rfl) rfl (fun K hK => ?_)
                  go_simp
                  go_at_call 32
                  refine (rdecimal_any wn _ hw0 hw9).mono ?_
                  rintro e V2 ⟨rfl, hbV⟩
                  try go_simp
                  have hh2 : _ ∧ _ ∧ _ ∧ _ ∧ _ := ⟨kept hbV hhA.1, kept hbV hhA.2.1, kept hbV hhA.2.2.1, kept hbV hhA.2.2.2.1, kept hbV hhA.2.2.2.2⟩
                  have bE := onward bA hbV
                  refine hK _ _ ⟨hh2, ?_⟩
                  clear hK K
                  refine wpAnyH_take (i := 18) (v := .string (⟨#[112, 104, 111, 116, 111, 99, 101, 108, 108, 32]⟩ ++ nt ++ ⟨#[32]⟩ ++ decS wn)) rfl (by kernel_rfl) (by kernel_rfl) (by kernel_rfl) (fun _ _ _ h => h) (Or.inl ⟨by rfl, by intro w hs; go_simp <;> omega⟩) hh2 ?_
                  refine wpAnyH_take (i := 19) (v := .string (⟨#[112, 104, 111, 116, 111, 99, 101, 108, 108, 32]⟩ ++ nt ++ ⟨#[32]⟩ ++ decS wn ++ ⟨#[10]⟩)) rfl (by kernel_rfl) (by kernel_rfl) (by kernel_rfl) (fun _ _ _ h => h) (Or.inl ⟨by rfl, by intro w hs; go_simp <;> omega⟩) hh2 ?_
                  refine wpAnyH_take (i := 20) (v := .string (S2 ++ (⟨#[112, 104, 111, 116, 111, 99, 101, 108, 108, 32]⟩ ++ nt ++ ⟨#[32]⟩ ++ decS wn ++ ⟨#[10]⟩))) rfl (by kernel_rfl) (by kernel_rfl) (by kernel_rfl) (fun _ _ _ h => h) (Or.inl ⟨by rfl, by intro w hs; go_simp <;> omega⟩) hh2 ?_
                  refine wpAnyH_one (i := 21) (by kernel_rfl) rfl (fun K hK => ?_)
                  go_simp
                  refine hK _ _ ⟨hh2, ?_⟩
                  clear hK K
                  refine wpAnyH_done (by kernel_rfl) ?_ _
                  go_simp
                  clear hc hh hhA hh2 hbV bA
                case' refine_2 =>
                  go_simp
                  go_at_call 32
                  refine (rdecimal_any wn _ hw0 hw9).mono ?_
                  rintro e V2 ⟨rfl, hbV⟩
                  try go_simp
                  have hh2 : _ ∧ _ ∧ _ ∧ _ ∧ _ := ⟨kept hbV hhA.1, kept hbV hhA.2.1, kept hbV hhA.2.2.1, kept hbV hhA.2.2.2.1, kept hbV hhA.2.2.2.2⟩
                  have hc2 := kept hbV hc
                  have bE := onward bA hbV
                  refine hK _ _ ⟨hh2, ?_⟩
                  clear hK K
                  refine wpAnyH_one (i := 5) (by kernel_rfl) rfl (fun K hK => ?_)
                  go_simp
                  refine hK _ _ ⟨hh2, ?_⟩
                  clear hK K
                  refine wpAnyH_take (i := 13) (v := .string (⟨#[112, 104, 111, 116, 111, 99, 101, 108, 108, 32]⟩ ++ nt)) rfl (by kernel_rfl) (by kernel_rfl) (by kernel_rfl) (fun _ _ _ h => h) (Or.inl ⟨by rfl, by intro w hs; go_simp <;> omega⟩) hh2 ?_
                  refine wpAnyH_take (i := 14) (v := .string (⟨#[112, 104, 111, 116, 111, 99, 101, 108, 108, 32]⟩ ++ nt ++ ⟨#[32]⟩)) rfl (by kernel_rfl) (by kernel_rfl) (by kernel_rfl) (fun _ _ _ h => h) (Or.inl ⟨by rfl, by intro w hs; go_simp <;> omega⟩) hh2 ?_
                  refine wpAnyH_take (i := 18) (v := .string (⟨#[112, 104, 111, 116, 111, 99, 101, 108, 108, 32]⟩ ++ nt ++ ⟨#[32]⟩ ++ decS wn)) rfl (by kernel_rfl) (by kernel_rfl) (by kernel_rfl) (fun _ _ _ h => h) (Or.inl ⟨by rfl, by intro w hs; go_simp <;> omega⟩) hh2 ?_
                  refine wpAnyH_take (i := 19) (v := .string (⟨#[112, 104, 111, 116, 111, 99, 101, 108, 108, 32]⟩ ++ nt ++ ⟨#[32]⟩ ++ decS wn ++ ⟨#[10]⟩)) rfl (by kernel_rfl) (by kernel_rfl) (by kernel_rfl) (fun _ _ _ h => h) (Or.inl ⟨by rfl, by intro w hs; go_simp <;> omega⟩) hh2 ?_
                  refine wpAnyH_take (i := 20) (v := .string (S2 ++ (⟨#[112, 104, 111, 116, 111, 99, 101, 108, 108, 32]⟩ ++ nt ++ ⟨#[32]⟩ ++ decS wn ++ ⟨#[10]⟩))) rfl (by kernel_rfl) (by kernel_rfl) (by kernel_rfl) (fun _ _ _ h => h) (Or.inl ⟨by rfl, by intro w hs; go_simp <;> omega⟩) hh2 ?_
                  refine wpAnyH_one (i := 21) (by kernel_rfl) rfl (fun K hK => ?_)
                  go_simp
                  refine hK _ _ ⟨hh2, ?_⟩
                  clear hK K
                  refine wpAnyH_done (by kernel_rfl) ?_ _
                  go_simp
                  clear hc hc2 hh hhA hh2 hbV bA
              case' refine_2 =>
                go_simp
                go_at_call 32
                refine (rdecimal_any wn _ hw0 hw9).mono ?_
                rintro e V2 ⟨rfl, hbV⟩
                try go_simp
                have hh2 : _ ∧ _ ∧ _ ∧ _ ∧ _ := ⟨kept hbV hh.1, kept hbV hh.2.1, kept hbV hh.2.2.1, kept hbV hh.2.2.2.1, kept hbV hh.2.2.2.2⟩
                have bV : Below W3.heap.size W3 V2 := bD.trans (hbV.mono (Nat.le_of_eq hD.symm))
                refine hK _ _ ⟨hh2, ?_⟩
                clear hK K
                refine wpAnyH_one (i := 1) (by kernel_rfl) rfl (fun K hK => ?_)
                go_simp
                have bA := (Below.refl V2.heap.size V2).alloc (Nat.le_refl _) (.cells #[.string ⟨#[]⟩, .string ⟨#[112, 104, 111, 116, 111, 99, 101, 108, 108, 32]⟩, .string ⟨#[115, 99, 97, 110, 110, 101, 114, 32]⟩] 9)
                have bE := onward bV bA
                have hc : (V2.alloc (.cells #[.string ⟨#[]⟩, .string ⟨#[112, 104, 111, 116, 111, 99, 101, 108, 108, 32]⟩, .string ⟨#[115, 99, 97, 110, 110, 101, 114, 32]⟩] 9)).cell? ⟨V2.heap.size, 1, none⟩ = some (.string ⟨#[112, 104, 111, 116, 111, 99, 101, 108, 108, 32]⟩) := by rw [Lib.cell_of_heap (heap_alloc_new V2 _)]; rfl
                have hh3 : _ ∧ _ ∧ _ ∧ _ ∧ _ := ⟨kept bA hh2.1, kept bA hh2.2.1, kept bA hh2.2.2.1, kept bA hh2.2.2.2.1, kept bA hh2.2.2.2.2⟩
                refine hK _ _ ⟨hh3, ?_⟩
                clear hK K
                refine wpAnyH_take (i := 4) (v := .pointer (some ⟨V2.heap.size, 1, none⟩)) rfl (by kernel_rfl) (by kernel_rfl) (by kernel_rfl) (fun _ _ _ h => h) (Or.inl ⟨by rfl, by intro w hs; go_simp⟩) hh3 ?_
                refine wpAnyH_one (i := 5) (by kernel_rfl) rfl (fun K hK => ?_)
                go_simp
                refine hK _ _ ⟨hh3, ?_⟩
                clear hK K
                refine wpAnyH_take (i := 13) (v := .string (⟨#[112, 104, 111, 116, 111, 99, 101, 108, 108, 32]⟩ ++ nt)) rfl (by kernel_rfl) (by kernel_rfl) (by kernel_rfl) (fun _ _ _ h => h) (Or.inl ⟨by rfl, by intro w hs; go_simp <;> omega⟩) hh3 ?_
                refine wpAnyH_take (i := 14) (v := .string (⟨#[112, 104, 111, 116, 111, 99, 101, 108, 108, 32]⟩ ++ nt ++ ⟨#[32]⟩)) rfl (by kernel_rfl) (by kernel_rfl) (by kernel_rfl) (fun _ _ _ h => h) (Or.inl ⟨by rfl, by intro w hs; go_simp <;> omega⟩) hh3 ?_
                refine wpAnyH_take (i := 18) (v := .string (⟨#[112, 104, 111, 116, 111, 99, 101, 108, 108, 32]⟩ ++ nt ++ ⟨#[32]⟩ ++ decS wn)) rfl (by kernel_rfl) (by kernel_rfl) (by kernel_rfl) (fun _ _ _ h => h) (Or.inl ⟨by rfl, by intro w hs; go_simp <;> omega⟩) hh3 ?_
                refine wpAnyH_take (i := 19) (v := .string (⟨#[112, 104, 111, 116, 111, 99, 101, 108, 108, 32]⟩ ++ nt ++ ⟨#[32]⟩ ++ decS wn ++ ⟨#[10]⟩)) rfl (by kernel_rfl) (by kernel_rfl) (by kernel_rfl) (fun _ _ _ h => h) (Or.inl ⟨by rfl, by intro w hs; go_simp <;> omega⟩) hh3 ?_
                refine wpAnyH_take (i := 20) (v := .string (S2 ++ (⟨#[112, 104, 111, 116, 111, 99, 101, 108, 108, 32]⟩ ++ nt ++ ⟨#[32]⟩ ++ decS wn ++ ⟨#[10]⟩))) rfl (by kernel_rfl) (by kernel_rfl) (by kernel_rfl) (fun _ _ _ h => h) (Or.inl ⟨by rfl, by intro w hs; go_simp <;> omega⟩) hh3 ?_
                refine wpAnyH_one (i := 21) (by kernel_rfl) rfl (fun K hK => ?_)
                go_simp
                refine hK _ _ ⟨hh3, ?_⟩
                clear hK K
                refine wpAnyH_done (by kernel_rfl) ?_ _
                go_simp
                clear hc hh hh2 hh3 hbV bV bA
              all_goals
                have HBe := hide (onward (unhide HB3) bE)
                go_wp2
                go_roundw
                case rel => exact ⟨i + 1, _, by omega, by go_num, rfl, Lib.hid (unhide HS3), Lib.hid (unhide HBe)⟩
                case measure => simp [intOf]; omega
            · obtain ⟨W3, hW3⟩ : ∃ W3 : World, wp.alloc (dvO ⟨2, (nn : Int), wn⟩) = W3 := ⟨_, rfl⟩
              have hbx : W3.heap[wp.heap.size]? = some (dvO ⟨2, (nn : Int), wn⟩) := by rw [← hW3]; exact heap_alloc_new wp _
              rw [hW3] at b3 HB3
              have d0 : W3.cell? ⟨wp.heap.size, 0, none⟩ = some (.int .i64 2) := by rw [Lib.cell_of_heap hbx]; rfl
              have d1 : W3.cell? ⟨wp.heap.size, 1, none⟩ = some (.int .i64 (nn : Int)) := by rw [Lib.cell_of_heap hbx]; rfl
              have d2 : W3.cell? ⟨wp.heap.size, 2, none⟩ = some (.int .i64 wn) := by rw [Lib.cell_of_heap hbx]; rfl
              have k0 := kept b3 l0
              have r0 := kept b3 m0
              clear hbx b3
              -- kind 2
              have hKw : (kwS 11).data.toList = [115, 99, 97, 110, 110, 101, 114] := by decide +kernel
              have HS3 := hide (((unhide HS2).add (T := ⟨#[115, 99, 97, 110, 110, 101, 114, 32]⟩ ++ nt ++ ⟨#[32]⟩ ++ decS wn ++ ⟨#[10]⟩) (k := 40) (by rw [ByteArray.size_append, ByteArray.size_append, ByteArray.size_append, ByteArray.size_append]; show 8 + nt.size + 1 + (decS wn).size + 1 ≤ 40; have := (decS_size wn).2; omega)).as (L' := x.nodes.flatMap (nodeT x.nodes) ++ (x.devs.take (i + 1)).flatMap (devT x.nodes)) (m' := 2400 + 40 * (i + 1)) (by rw [unhide HDs, unhide HDt]; simp [ByteArray.data_append, hKw]) (by omega))
              clear hKw
              go_wp2_with fail
              have hD : W3.drew.heap.size = W3.heap.size := rfl
              have bD := (Below.refl W3.heap.size W3).drew
              have hh : W3.drew.cell? ⟨wp.heap.size, 0, none⟩ = some (.int .i64 2) ∧ W3.drew.cell? ⟨wp.heap.size, 1, none⟩ = some (.int .i64 (nn : Int)) ∧ W3.drew.cell? ⟨wp.heap.size, 2, none⟩ = some (.int .i64 wn) ∧ W3.drew.cell? ⟨w.heap.size, 0, none⟩ = some (.slice (some ⟨g, off, none⟩) x.nodes.length c) ∧ W3.drew.cell? ⟨g, off + nn * 5, none⟩ = some (.string nt) := ⟨kept bD d0, kept bD d1, kept bD d2, kept bD k0, kept bD r0⟩
              refine wp_region_held (S := fun Z => Z.cell? ⟨wp.heap.size, 0, none⟩ = some (.int .i64 2) ∧ Z.cell? ⟨wp.heap.size, 1, none⟩ = some (.int .i64 (nn : Int)) ∧ Z.cell? ⟨wp.heap.size, 2, none⟩ = some (.int .i64 wn) ∧ Z.cell? ⟨w.heap.size, 0, none⟩ = some (.slice (some ⟨g, off, none⟩) x.nodes.length c) ∧ Z.cell? ⟨g, off + nn * 5, none⟩ = some (.string nt)) (by kernel_rfl) ?_
              refine wpAnyH_take (i := 0) (v := .string S2) rfl (by kernel_rfl) (by kernel_rfl) (by kernel_rfl) (fun _ _ _ h => h) (Or.inl ⟨by rfl, by intro w hs; go_simp⟩) hh ?_
              refine wpAnyH_take (i := 2) (v := .pointer (some ⟨wp.heap.size, 0, none⟩)) rfl (by kernel_rfl) (by kernel_rfl) (by kernel_rfl) (fun _ _ _ h => h) (Or.inl ⟨by rfl, by intro w hs; go_simp⟩) hh ?_
              refine wpAnyH_take (i := 3) (v := .int .i64 2) rfl (by kernel_rfl) (by kernel_rfl) (by kernel_rfl) (fun _ _ _ h => h) (Or.inl ⟨by rfl, by intro w hs; have h9 := hs.1; go_simp⟩) hh ?_
              refine wpAnyH_take (i := 6) (v := .pointer (some ⟨w.heap.size, 0, none⟩)) rfl (by kernel_rfl) (by kernel_rfl) (by kernel_rfl) (fun _ _ _ h => h) (Or.inl ⟨by rfl, by intro w hs; go_simp⟩) hh ?_
              refine wpAnyH_take (i := 7) (v := .slice (some ⟨g, off, none⟩) x.nodes.length c) rfl (by kernel_rfl) (by kernel_rfl) (by kernel_rfl) (fun _ _ _ h => h) (Or.inl ⟨by rfl, by intro w hs; have h9 := hs.2.2.2.1; go_simp⟩) hh ?_
              refine wpAnyH_take (i := 8) (v := .pointer (some ⟨wp.heap.size, 1, none⟩)) rfl (by kernel_rfl) (by kernel_rfl) (by kernel_rfl) (fun _ _ _ h => h) (Or.inl ⟨by rfl, by intro w hs; go_simp⟩) hh ?_
              refine wpAnyH_take (i := 9) (v := .int .i64 (nn : Int)) rfl (by kernel_rfl) (by kernel_rfl) (by kernel_rfl) (fun _ _ _ h => h) (Or.inl ⟨by rfl, by intro w hs; have h9 := hs.2.1; go_simp⟩) hh ?_
              refine wpAnyH_take (i := 10) (v := .pointer (some ⟨g, off + nn * 5, none⟩)) rfl (by kernel_rfl) (by kernel_rfl) (by kernel_rfl) (fun _ _ _ h => h) (Or.inl ⟨by rfl, by intro w hs; go_simp⟩) hh ?_
              refine wpAnyH_take (i := 11) (v := .pointer (some ⟨g, off + nn * 5, none⟩)) rfl (by kernel_rfl) (by kernel_rfl) (by kernel_rfl) (fun _ _ _ h => h) (Or.inl ⟨by rfl, by intro w hs; go_simp⟩) hh ?_
              refine wpAnyH_take (i := 12) (v := .string nt) rfl (by kernel_rfl) (by kernel_rfl) (by kernel_rfl) (fun _ _ _ h => h) (Or.inl ⟨by rfl, by intro w hs; have h9 := hs.2.2.2.2; go_simp⟩) hh ?_
              refine wpAnyH_take (i := 15) (v := .pointer (some ⟨wp.heap.size, 2, none⟩)) rfl (by kernel_rfl) (by kernel_rfl) (by kernel_rfl) (fun _ _ _ h => h) (Or.inl ⟨by rfl, by intro w hs; go_simp⟩) hh ?_
              refine wpAnyH_take (i := 16) (v := .int .i64 wn) rfl (by kernel_rfl) (by kernel_rfl) (by kernel_rfl) (fun _ _ _ h => h) (Or.inl ⟨by rfl, by intro w hs; have h9 := hs.2.2.1; go_simp⟩) hh ?_
              refine wpAnyH_two (i := 1) (j := 17) (by kernel_rfl) rfl rfl (fun K hK => ?_) (fun K hK => ?_)
              case' refine_1 =>
                go_simp
                have bA : Below W3.heap.size W3 (W3.alloc (.cells #[.string ⟨#[]⟩, .string ⟨#[112, 104, 111, 116, 111, 99, 101, 108, 108, 32]⟩, .string ⟨#[115, 99, 97, 110, 110, 101, 114, 32]⟩] 9)).drew := ((Below.refl _ _).alloc (Nat.le_refl _) _).drew
                have hc : (W3.alloc (.cells #[.string ⟨#[]⟩, .string ⟨#[112, 104, 111, 116, 111, 99, 101, 108, 108, 32]⟩, .string ⟨#[115, 99, 97, 110, 110, 101, 114, 32]⟩] 9)).drew.cell? ⟨W3.heap.size, 2, none⟩ = some (.string ⟨#[115, 99, 97, 110, 110, 101, 114, 32]⟩) := by rw [show (W3.alloc (.cells #[.string ⟨#[]⟩, .string ⟨#[112, 104, 111, 116, 111, 99, 101, 108, 108, 32]⟩, .string ⟨#[115, 99, 97, 110, 110, 101, 114, 32]⟩] 9)).drew.cell? ⟨W3.heap.size, 2, none⟩ = (W3.alloc (.cells #[.string ⟨#[]⟩, .string ⟨#[112, 104, 111, 116, 111, 99, 101, 108, 108, 32]⟩, .string ⟨#[115, 99, 97, 110, 110, 101, 114, 32]⟩] 9)).cell? ⟨W3.heap.size, 2, none⟩ from rfl, Lib.cell_of_heap (heap_alloc_new W3 _)]; rfl
                have hhA : _ ∧ _ ∧ _ ∧ _ ∧ _ := ⟨kept bA d0, kept bA d1, kept bA d2, kept bA k0, kept bA r0⟩
                refine hK _ _ ⟨hhA, ?_⟩
                clear hK K
                refine wpAnyH_take (i := 4) (v := .pointer (some ⟨W3.heap.size, 2, none⟩)) rfl (by kernel_rfl) (by kernel_rfl) (by kernel_rfl) (fun _ _ _ h => h) (Or.inl ⟨by rfl, by intro w hs; go_simp⟩) hhA ?_
                refine wpAnyH_two (i := 5) (j := 17) (by kernel_rfl) rfl rfl (fun K hK => ?_) (fun K hK => ?_)
                case' refine_1 =>
                  go_simp
                  refine hK _ _ ⟨hhA, ?_⟩
                  clear hK K
                  refine wpAnyH_take (i := 13) (v := .string (⟨#[115, 99, 97, 110, 110, 101, 114, 32]⟩ ++ nt)) rfl (by kernel_rfl) (by kernel_rfl) (by kernel_rfl) (fun _ _ _ h => h) (Or.inl ⟨by rfl, by intro w hs; go_simp <;> omega⟩) hhA ?_
                  refine wpAnyH_take (i := 14) (v := .string (⟨#[115, 99, 97, 110, 110, 101, 114, 32]⟩ ++ nt ++ ⟨#[32]⟩)) rfl (by kernel_rfl) (by kernel_rfl) (by kernel_rfl) (fun _ _ _ h => h) (Or.inl ⟨by rfl, by intro w hs; go_simp <;> omega⟩) hhA ?_
                  refine wpAnyH_one (i := 17) (by kernel_rfl) rfl (fun K hK => ?_)
                  go_simp
                  go_at_call 32
                  refine (rdecimal_any wn _ hw0 hw9).mono ?_
                  rintro e V2 ⟨rfl, hbV⟩
                  try go_simp
                  have hh2 : _ ∧ _ ∧ _ ∧ _ ∧ _ := ⟨kept hbV hhA.1, kept hbV hhA.2.1, kept hbV hhA.2.2.1, kept hbV hhA.2.2.2.1, kept hbV hhA.2.2.2.2⟩
                  have bE := onward bA hbV
                  refine hK _ _ ⟨hh2, ?_⟩
                  clear hK K
                  refine wpAnyH_take (i := 18) (v := .string (⟨#[115, 99, 97, 110, 110, 101, 114, 32]⟩ ++ nt ++ ⟨#[32]⟩ ++ decS wn)) rfl (by kernel_rfl) (by kernel_rfl) (by kernel_rfl) (fun _ _ _ h => h) (Or.inl ⟨by rfl, by intro w hs; go_simp <;> omega⟩) hh2 ?_
                  refine wpAnyH_take (i := 19) (v := .string (⟨#[115, 99, 97, 110, 110, 101, 114, 32]⟩ ++ nt ++ ⟨#[32]⟩ ++ decS wn ++ ⟨#[10]⟩)) rfl (by kernel_rfl) (by kernel_rfl) (by kernel_rfl) (fun _ _ _ h => h) (Or.inl ⟨by rfl, by intro w hs; go_simp <;> omega⟩) hh2 ?_
                  refine wpAnyH_take (i := 20) (v := .string (S2 ++ (⟨#[115, 99, 97, 110, 110, 101, 114, 32]⟩ ++ nt ++ ⟨#[32]⟩ ++ decS wn ++ ⟨#[10]⟩))) rfl (by kernel_rfl) (by kernel_rfl) (by kernel_rfl) (fun _ _ _ h => h) (Or.inl ⟨by rfl, by intro w hs; go_simp <;> omega⟩) hh2 ?_
                  refine wpAnyH_one (i := 21) (by kernel_rfl) rfl (fun K hK => ?_)
                  go_simp
                  refine hK _ _ ⟨hh2, ?_⟩
                  clear hK K
                  refine wpAnyH_done (by kernel_rfl) ?_ _
                  go_simp
                  clear hc hh hhA hh2 hbV bA
                case' refine_2 =>
                  go_simp
                  go_at_call 32
                  refine (rdecimal_any wn _ hw0 hw9).mono ?_
                  rintro e V2 ⟨rfl, hbV⟩
                  try go_simp
                  have hh2 : _ ∧ _ ∧ _ ∧ _ ∧ _ := ⟨kept hbV hhA.1, kept hbV hhA.2.1, kept hbV hhA.2.2.1, kept hbV hhA.2.2.2.1, kept hbV hhA.2.2.2.2⟩
                  have hc2 := kept hbV hc
                  have bE := onward bA hbV
                  refine hK _ _ ⟨hh2, ?_⟩
                  clear hK K
                  refine wpAnyH_one (i := 5) (by kernel_rfl) rfl (fun K hK => ?_)
                  go_simp
                  refine hK _ _ ⟨hh2, ?_⟩
                  clear hK K
                  refine wpAnyH_take (i := 13) (v := .string (⟨#[115, 99, 97, 110, 110, 101, 114, 32]⟩ ++ nt)) rfl (by kernel_rfl) (by kernel_rfl) (by kernel_rfl) (fun _ _ _ h => h) (Or.inl ⟨by rfl, by intro w hs; go_simp <;> omega⟩) hh2 ?_
                  refine wpAnyH_take (i := 14) (v := .string (⟨#[115, 99, 97, 110, 110, 101, 114, 32]⟩ ++ nt ++ ⟨#[32]⟩)) rfl (by kernel_rfl) (by kernel_rfl) (by kernel_rfl) (fun _ _ _ h => h) (Or.inl ⟨by rfl, by intro w hs; go_simp <;> omega⟩) hh2 ?_
                  refine wpAnyH_take (i := 18) (v := .string (⟨#[115, 99, 97, 110, 110, 101, 114, 32]⟩ ++ nt ++ ⟨#[32]⟩ ++ decS wn)) rfl (by kernel_rfl) (by kernel_rfl) (by kernel_rfl) (fun _ _ _ h => h) (Or.inl ⟨by rfl, by intro w hs; go_simp <;> omega⟩) hh2 ?_
                  refine wpAnyH_take (i := 19) (v := .string (⟨#[115, 99, 97, 110, 110, 101, 114, 32]⟩ ++ nt ++ ⟨#[32]⟩ ++ decS wn ++ ⟨#[10]⟩)) rfl (by kernel_rfl) (by kernel_rfl) (by kernel_rfl) (fun _ _ _ h => h) (Or.inl ⟨by rfl, by intro w hs; go_simp <;> omega⟩) hh2 ?_
                  refine wpAnyH_take (i := 20) (v := .string (S2 ++ (⟨#[115, 99, 97, 110, 110, 101, 114, 32]⟩ ++ nt ++ ⟨#[32]⟩ ++ decS wn ++ ⟨#[10]⟩))) rfl (by kernel_rfl) (by kernel_rfl) (by kernel_rfl) (fun _ _ _ h => h) (Or.inl ⟨by rfl, by intro w hs; go_simp <;> omega⟩) hh2 ?_
                  refine wpAnyH_one (i := 21) (by kernel_rfl) rfl (fun K hK => ?_)
                  go_simp
                  refine hK _ _ ⟨hh2, ?_⟩
                  clear hK K
                  refine wpAnyH_done (by kernel_rfl) ?_ _
                  go_simp
                  clear hc hc2 hh hhA hh2 hbV bA
              case' refine_2 =>
                go_simp
                go_at_call 32
                refine (rdecimal_any wn _ hw0 hw9).mono ?_
                rintro e V2 ⟨rfl, hbV⟩
                try go_simp
                have hh2 : _ ∧ _ ∧ _ ∧ _ ∧ _ := ⟨kept hbV hh.1, kept hbV hh.2.1, kept hbV hh.2.2.1, kept hbV hh.2.2.2.1, kept hbV hh.2.2.2.2⟩
                have bV : Below W3.heap.size W3 V2 := bD.trans (hbV.mono (Nat.le_of_eq hD.symm))
                refine hK _ _ ⟨hh2, ?_⟩
                clear hK K
                refine wpAnyH_one (i := 1) (by kernel_rfl) rfl (fun K hK => ?_)
                go_simp
                have bA := (Below.refl V2.heap.size V2).alloc (Nat.le_refl _) (.cells #[.string ⟨#[]⟩, .string ⟨#[112, 104, 111, 116, 111, 99, 101, 108, 108, 32]⟩, .string ⟨#[115, 99, 97, 110, 110, 101, 114, 32]⟩] 9)
                have bE := onward bV bA
                have hc : (V2.alloc (.cells #[.string ⟨#[]⟩, .string ⟨#[112, 104, 111, 116, 111, 99, 101, 108, 108, 32]⟩, .string ⟨#[115, 99, 97, 110, 110, 101, 114, 32]⟩] 9)).cell? ⟨V2.heap.size, 2, none⟩ = some (.string ⟨#[115, 99, 97, 110, 110, 101, 114, 32]⟩) := by rw [Lib.cell_of_heap (heap_alloc_new V2 _)]; rfl
                have hh3 : _ ∧ _ ∧ _ ∧ _ ∧ _ := ⟨kept bA hh2.1, kept bA hh2.2.1, kept bA hh2.2.2.1, kept bA hh2.2.2.2.1, kept bA hh2.2.2.2.2⟩
                refine hK _ _ ⟨hh3, ?_⟩
                clear hK K
                refine wpAnyH_take (i := 4) (v := .pointer (some ⟨V2.heap.size, 2, none⟩)) rfl (by kernel_rfl) (by kernel_rfl) (by kernel_rfl) (fun _ _ _ h => h) (Or.inl ⟨by rfl, by intro w hs; go_simp⟩) hh3 ?_
                refine wpAnyH_one (i := 5) (by kernel_rfl) rfl (fun K hK => ?_)
                go_simp
                refine hK _ _ ⟨hh3, ?_⟩
                clear hK K
                refine wpAnyH_take (i := 13) (v := .string (⟨#[115, 99, 97, 110, 110, 101, 114, 32]⟩ ++ nt)) rfl (by kernel_rfl) (by kernel_rfl) (by kernel_rfl) (fun _ _ _ h => h) (Or.inl ⟨by rfl, by intro w hs; go_simp <;> omega⟩) hh3 ?_
                refine wpAnyH_take (i := 14) (v := .string (⟨#[115, 99, 97, 110, 110, 101, 114, 32]⟩ ++ nt ++ ⟨#[32]⟩)) rfl (by kernel_rfl) (by kernel_rfl) (by kernel_rfl) (fun _ _ _ h => h) (Or.inl ⟨by rfl, by intro w hs; go_simp <;> omega⟩) hh3 ?_
                refine wpAnyH_take (i := 18) (v := .string (⟨#[115, 99, 97, 110, 110, 101, 114, 32]⟩ ++ nt ++ ⟨#[32]⟩ ++ decS wn)) rfl (by kernel_rfl) (by kernel_rfl) (by kernel_rfl) (fun _ _ _ h => h) (Or.inl ⟨by rfl, by intro w hs; go_simp <;> omega⟩) hh3 ?_
                refine wpAnyH_take (i := 19) (v := .string (⟨#[115, 99, 97, 110, 110, 101, 114, 32]⟩ ++ nt ++ ⟨#[32]⟩ ++ decS wn ++ ⟨#[10]⟩)) rfl (by kernel_rfl) (by kernel_rfl) (by kernel_rfl) (fun _ _ _ h => h) (Or.inl ⟨by rfl, by intro w hs; go_simp <;> omega⟩) hh3 ?_
                refine wpAnyH_take (i := 20) (v := .string (S2 ++ (⟨#[115, 99, 97, 110, 110, 101, 114, 32]⟩ ++ nt ++ ⟨#[32]⟩ ++ decS wn ++ ⟨#[10]⟩))) rfl (by kernel_rfl) (by kernel_rfl) (by kernel_rfl) (fun _ _ _ h => h) (Or.inl ⟨by rfl, by intro w hs; go_simp <;> omega⟩) hh3 ?_
                refine wpAnyH_one (i := 21) (by kernel_rfl) rfl (fun K hK => ?_)
                go_simp
                refine hK _ _ ⟨hh3, ?_⟩
                clear hK K
                refine wpAnyH_done (by kernel_rfl) ?_ _
                go_simp
                clear hc hh hh2 hh3 hbV bV bA
              all_goals
                have HBe := hide (onward (unhide HB3) bE)
                go_wp2
                go_roundw
                case rel => exact ⟨i + 1, _, by omega, by go_num, rfl, Lib.hid (unhide HS3), Lib.hid (unhide HBe)⟩
                case measure => simp [intOf]; omega
          · obtain rfl : i = x.devs.length := by omega
            have il2 : ¬ ((x.devs.length : Int) < (x.devs.length : Int)) := by omega
            have HR := hide (show S2 = fmtS x from by
              rw [unhide HFm]
              apply ba_ext
              rw [(unhide HS2).txt, List.take_length])
            have HBf := hide (onward (unhide HB1) hb2.out)
            clear hS2 hb2
            go_wp2
            go_ret2
            exact ⟨by rw [unhide HR]; rfl, unhide HBf⟩
  · have hR := (show fmtS x = ByteArray.empty from if_neg he)
    have HR := hide hR
    clear hR
    generalize layE x = r at *
    have hrb : (r != 0) = true := by rw [bne_iff_ne]; exact he
    clear he
    go_enter Tryz.func11, Tryz.ntmps11
    go_wp2_with fail
    refine (unhide HC).mono ?_
    rintro e w1 ⟨rfl, hb1⟩
    have HB1 := hide ((unhide B1).trans (hb1.mono (unhide B1).size))
    clear hb1
    go_wp2
    go_ret2
    exact ⟨by rw [unhide HR]; rfl, unhide HB1⟩
end Go.Proofs.YtfddpdognelhmaaGreatDoor
