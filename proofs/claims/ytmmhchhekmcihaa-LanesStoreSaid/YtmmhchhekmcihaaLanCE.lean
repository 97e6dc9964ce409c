/-
  Lanes (layer 17): the document's own Take.
-/
import Derived.Test.YtmmhchhekmcihaaLanCC
namespace Go.Proofs.Ytmmhchhekmcihaa
open Go.RowKit

theorem flat_take1 {l : List Bg} {k : Nat} (h : k < l.length) : (l.take (k + 1)).flatMap bgC = (l.take k).flatMap bgC ++ bgC (l.getD k (0, 0)) := by
  rw [List.take_succ_eq_append_getElem h, ← getElem_getD h, List.flatMap_append]; simp
theorem own_types {w : World} {B B' n n' size size' : Nat} {t t' : TypeId} {v v' : Value} {xs xs' : List Value} (h : w.ownsRow B t size v n xs) (h' : w.ownsRow B' t' size' v' n' xs') (ht : t ≠ t') : v'.ownBlock = none ∨ v'.ownBlock ≠ v.ownBlock := by
  rcases h'.2 with ⟨rfl, _⟩ | ⟨g', c', cur', rfl, _, hg', _⟩
  · exact .inl rfl
  · refine .inr fun e => ?_
    rcases h.2 with ⟨rfl, _⟩ | ⟨g, c, cur, rfl, _, hg, _⟩
    · cases e
    · have e' : g' = g := by injection e
      subst e'
      rw [hg] at hg'
      injection hg' with hg'
      injection hg' with _ hg' _
      exact ht hg'
/-- What Take keeps while it notes the bags ahead. -/
structure TkI (w2 : World) (l : List Bg) (pos n2 : Nat) (j : Nat) (B D : Option Addr) (cB cD : Nat) (W : World) : Prop where
  nums : W.ownsRow w2.heap.size 3 1 (.slice B j cB) j (((l.take j).map (·.1)).map (Value.int .i64))
  bags : W.ownsRow w2.heap.size 39 2 (.slice D (n2 + j) cD) (n2 + j) ((l.drop (pos + 1) ++ l.take j).flatMap bgC)
  blw : Below w2.heap.size w2 W
theorem fst_take2 {l : List Bg} {k : Nat} (h : k < l.length) : ((l.take (k + 1)).map (·.1)).map (Value.int .i64) = ((l.take k).map (·.1)).map (Value.int .i64) ++ [.int .i64 (l.getD k (0, 0)).1] := by
  rw [List.take_succ_eq_append_getElem h, ← getElem_getD h, List.map_append, List.map_append]; rfl
theorem bag_take {l r : List Bg} {k : Nat} (h : k < l.length) : (r ++ l.take (k + 1)).flatMap bgC = (r ++ l.take k).flatMap bgC ++ bgC (l.getD k (0, 0)) := by
  rw [List.flatMap_append, flat_take1 h, List.flatMap_append, List.append_assoc]
theorem fndI_neg2 {L : List (List Bg)} {v : Int} : decide (fndI L v < 0) = !decide (findS L v < L.length) := by
  have := fndI_pos (L := L) (v := v)
  rw [← this]
  by_cases h : 0 ≤ fndI L v
  · rw [decide_eq_true h, decide_eq_false (by omega)]; rfl
  · rw [decide_eq_false h, decide_eq_true (by omega)]; rfl
set_option maxHeartbeats 4000000 in
set_option maxRecDepth 100000 in
theorem rtake_st (dp : Nat) (L : List (List Bg)) (bag : Int) (A : Option Addr) (c : Nat) (S : Nat → Prop) (w : World) (hv : ValL dp L) (h : StoI S w A L c) (hS : Old S w) :
    Calls Try.prog 29 #[lnsV dp A L.length c, .int .i64 bag] w (TakeTo dp L bag S w) := by
  obtain ⟨W, hW⟩ : ∃ W : World, (w.alloc (lnsO dp A L.length c)).alloc (lnsO 0 none 0 0) = W := ⟨_, rfl⟩
  have b1 : Below w.heap.size w W := by rw [← hW]; exact below_new (below_new (Below.refl w.heap.size w) _) _
  have hz : W.heap.size = w.heap.size + 2 := by rw [← hW, World.size_alloc, World.size_alloc]
  have hx : W.heap[w.heap.size]? = some (lnsO dp A L.length c) := by rw [← hW]; exact heap_later (heap_alloc_new w _) _
  have hy : W.heap[w.heap.size + 1]? = some (lnsO 0 none 0 0) := by
    have h := heap_alloc_new (w.alloc (lnsO dp A L.length c)) (lnsO 0 none 0 0)
    rw [World.size_alloc, hW] at h; exact h
  have HX := hide hx
  have HY := hide hy
  have HZ := hide hz
  have HS := hide (h.below b1)
  have HS2 := hide (show StoI (fun b => S b ∨ w.heap.size ≤ b ∧ b ≤ w.heap.size + 1) W A L c from (h.mono fun b hb e => e.elim id fun e => absurd e.1 (by omega)).below b1)
  have HB := hide b1
  have HV := hide hv
  have HOl := hide hS
  have hL : L.length ≤ 20 := hv.n.2
  clear b1 h hv hx hy hz hS
  have HF := hide (rfind_any S dp bag L A c W (unhide HV) (unhide HS))
  have HFn := hide (fndI_neg2 (L := L) (v := bag))
  by_cases h3 : findS L bag < L.length
  · have hhas := find_spec.2 h3
    obtain ⟨f, hf⟩ : ∃ f, findS L bag = f := ⟨_, rfl⟩
    rw [hf] at hhas
    obtain ⟨l, hl⟩ : ∃ l, L.getD f [] = l := ⟨_, rfl⟩
    rw [hl] at hhas
    obtain ⟨pos, hp⟩ : ∃ pos, posB l bag = pos := ⟨_, rfl⟩
    have HR := hide (takeS_yes h3 hf hl hp)
    have hfl : f < L.length := hf ▸ h3
    have hpl : pos < l.length := by
      have := (posI_has (l := l) (v := bag)).1 hhas
      unfold posI at this
      rw [hp] at this
      by_cases h9 : pos < l.length
      · exact h9
      · rw [if_neg h9] at this; omega
    have hfi : fndI L bag = f := by unfold fndI; rw [if_pos h3, hf]
    have hfk : fndK L bag = pos := by unfold fndK; rw [if_pos h3, hf, hl, hp]
    rw [hfi, hfk] at HF
    have HF := hide (unhide HF)
    have hll : l.length ≤ 20 := by rw [← hl]; exact Nat.le_trans ((unhide HV).len _ (mem_at hfl)) (unhide HV).d.2
    have f0 : (f : Int) < (L.length : Int) := by omega
    have f1 : (0 : Int) ≤ (f : Int) := by omega
    have f2 : decide ((f : Int) < 0) = false := by rw [decide_eq_false_iff_not]; omega
    obtain ⟨g, off, hA, _, hc⟩ := (unhide HS).row (by omega)
    subst hA
    obtain ⟨A1, cc, r0, hcc, hb1⟩ := hc f hfl
    rw [hl] at r0 hcc hb1
    obtain ⟨g1, o1, hA1, _, hcl⟩ := hb1 (by omega)
    subst hA1
    have HB1 := hide hb1
    have HHl := hide hl
    have p1 : (0 : Int) ≤ (pos : Int) := by omega
    have p2 : IntKind.i64.wrap ((pos : Int) + 1) = (pos : Int) + 1 := by rw [IntKind.wrap_i64]; omega
    have p3 : (0 : Int) ≤ (pos : Int) + 1 := by omega
    have p4 : ((pos : Int) + 1).toNat = pos + 1 := by omega
    have p5 : (pos : Int) + 1 ≤ (l.length : Int) := by omega
    have p6 : pos + 1 ≤ l.length := by omega
    have x1 : W.cell? ⟨w.heap.size, 1, none⟩ = some (.slice (some ⟨g, off, none⟩) L.length c) := by rw [Lib.cell_of_heap (unhide HX)]; rfl
    have HXc := hide x1
    have HRc := hide r0
    obtain ⟨j0, jz, hj0, hja, hjb, hjc, hjd⟩ := info_size info_st
    have JI := hide hj0
    have JA := hide hja
    have JB := hide hjb
    have JC := hide hjc
    have JD := hide hjd
    obtain ⟨i0, hi, hz0, hz1, hz2⟩ := info_parts linfo_int
    have KI := hide hi
    have KA := hide hz0
    have KB := hide hz1
    have KC := hide hz2
    obtain ⟨A2, hA2⟩ : ∃ A2, (if cc = pos + 1 then some (⟨g1, o1, none⟩ : Addr) else some ⟨g1, o1 + (pos + 1) * 2, none⟩) = A2 := ⟨_, rfl⟩
    obtain ⟨n2, hn2⟩ : ∃ n2, l.length - (pos + 1) = n2 := ⟨_, rfl⟩
    have HBh := hide (show (0 < n2 → ∃ g off, A2 = some ⟨g, off, none⟩ ∧ ∀ j u, ((l.drop (pos + 1)).flatMap bgC)[j]? = some u → W.cell? ⟨g, off + j, none⟩ = some u) ∧ (l.drop (pos + 1)).length = n2 from by
      refine ⟨fun hp => ?_, by rw [List.length_drop, hn2]⟩
      have hc : ¬ cc = pos + 1 := by omega
      rw [if_neg hc] at hA2
      subst hA2
      obtain ⟨g', o', e, _, h9⟩ := bgs_src (bgs_post (k := pos + 1) (unhide HB1)) (by rw [List.length_drop]; omega)
      exact ⟨g', o', e, h9⟩)
    have n2l : n2 ≤ 20 := by omega
    clear h3 hhas hf hl hp hfi hfk hc hcl hb1 r0 hj0 hja hjb hjc hjd hi hz0 hz1 hz2 HFn
    go_enter Try.func29, Try.ntmps29
    go_wp2_with (first
      | (refine wpList_loadLn (unhide HX) rfl _ rfl rfl ?_)
      | (go_at_call 46; refine (unhide HF).mono ?_; rintro e w2 ⟨rfl, hb2⟩; have HB2 := hide hb2; have x2 := kept hb2 (unhide HXc); have r2 := kept hb2 (unhide HRc); have HSz := hide (fun hp => (unhide HBh).1 hp); clear hb2)
      | (at_builtin; refine wpList_append_any rfl _ _ 68 rfl w2.heap.size 39 j0 jz 2 16 Try.underlying68 (unhide JI) (unhide JA) (unhide JB) (unhide JC) (unhide JD) (by decide) (.slice none 0 0) 0 [] rfl (World.ownsRow_nil _ _ _ _) A2 n2 _ ((l.drop (pos + 1)).flatMap bgC) rfl (by rw [flatK_len bgC 2 bgC_len, (unhide HBh).2]) (fun hp => by obtain ⟨g, off, e, hc⟩ := (unhide HBh).1 hp; exact ⟨g, off, e, fun j u hu => kept (unhide HB2) (hc j u hu)⟩) st_one (by unfold maxLen; omega) (by omega) (Nat.le_refl _) ?_))
    intro v' w4 hown4 hg4 _
    obtain ⟨D4, d4, rfl⟩ := own_form hown4
    have HT0 := hide (show TkI w2 l pos n2 0 none D4 0 d4 w4 from ⟨World.ownsRow_nil _ _ _ _, by rw [List.take_zero, List.append_nil]; exact hown4, (Below.refl w2.heap.size w2).grown hg4 (Nat.le_refl _) (fun j e => by cases e)⟩)
    clear hown4 hg4 x2 r2 p2 p3 p4 p5 hA2
    go_wp2_with fail
    go_loopw [9, 10, 11] (fun s9 s10 s11 wr => ∃ (j : Nat) (B D : Option Addr) (cB cD : Nat), j ≤ pos ∧ s11 = .int .i64 j ∧ s9 = .slice B j cB ∧ s10 = .slice D (n2 + j) cD ∧ Hid (TkI w2 l pos n2 j B D cB cD wr)) (fun _ _ s _ => pos - (intOf s).toNat)
    case atStart => exact ⟨0, none, D4, 0, d4, Nat.zero_le _, rfl, rfl, rfl, HT0⟩
    case round =>
      obtain ⟨j, B, D, cB, cD, hj, rfl, rfl, rfl, HI⟩ := hrel
      obtain ⟨wo, rfl⟩ : ∃ wo : World, wo = wr := ⟨_, rfl⟩
      clear HT0
      have HWo := hide (onward (unhide HB2) (unhide HI).blw)
      by_cases hjp : j < pos
      · have jl : (j : Int) < (pos : Int) := by omega
        have j0' : (0 : Int) ≤ (j : Int) := by omega
        have jl2 : (j : Int) < (l.length : Int) := by omega
        have x3 := kept (unhide HWo) (unhide HXc)
        have r3 := kept (unhide HWo) (unhide HRc)
        obtain ⟨g', o', e, _, hcs⟩ := bgs_at ((unhide HB1).keep (KepS.below (unhide HWo))) (show j < l.length by omega)
        injection e with e
        injection e with e1 e2 _
        subst e1; subst e2
        have HFs := hide (fst_take2 (l := l) (k := j) (by omega))
        have HBg := hide (bag_take (l := l) (r := l.drop (pos + 1)) (k := j) (by omega))
        have c0 := hcs 0 _ rfl
        rw [Nat.add_zero] at c0
        have HCs := hide hcs
        have HLt := hide (World.block_lt_of_cell? wo _ c0)
        clear hcs
        generalize l.getD j (0, 0) = s at c0 HCs HFs HBg
        obtain ⟨ys, hys⟩ : ∃ ys, ((l.take j).map (·.1)).map (Value.int .i64) = ys := ⟨_, rfl⟩
        obtain ⟨zs, hzs⟩ : ∃ zs, (l.drop (pos + 1) ++ l.take j).flatMap bgC = zs := ⟨_, rfl⟩
        rw [hys] at HFs
        rw [hzs] at HBg
        have HT := hide (show wo.ownsRow w2.heap.size 3 1 (.slice B j cB) j ys ∧ wo.ownsRow w2.heap.size 39 2 (.slice D (n2 + j) cD) (n2 + j) zs ∧ Below w2.heap.size w2 wo from ⟨by rw [← hys]; exact (unhide HI).nums, by rw [← hzs]; exact (unhide HI).bags, (unhide HI).blw⟩)
        clear hys hzs
        obtain ⟨V1, hV1⟩ : ∃ V1 : World, wo.alloc (.cells #[.int .i64 s.1] 3) = V1 := ⟨_, rfl⟩
        have v1 : Below wo.heap.size wo V1 := by rw [← hV1]; exact below_new (Below.refl _ _) _
        have n1 : V1.heap[wo.heap.size]? = some (.cells #[.int .i64 s.1] 3 (0, 0)) := by rw [← hV1]; exact heap_alloc_new wo _
        have HN1 := hide (World.news_of_block n1)
        have HO1 := hide (owns_later (unhide HT).1 v1)
        have HO2 := hide (owns_later (unhide HT).2.1 v1)
        have HV1 := hide (onward (unhide HT).2.2 v1)
        have HVw := hide v1
        have hsz := (unhide HV1).size
        have hj20 : j ≤ 20 := by omega
        clear v1 n1
        go_wp2_with (at_builtin; refine wpList_append_lies _ rfl _ _ 22 rfl w2.heap.size 3 i0 (.int .i64 0) 1 8 Try.underlying22 (unhide KI) (unhide KA) (unhide KB) (unhide KC) rfl (by decide) _ _ _ rfl (unhide HO1) ⟨wo.heap.size, 0, none⟩ 1 1 [.int .i64 s.1] rfl rfl (unhide HN1) (fun u hu => by rw [List.mem_singleton.1 hu]; rfl) (by decide) (by unfold maxLen; omega) (by omega) hsz _ rfl ?_)
        intro q cq w6 hown hgrow hat hlt6
        have HO3 := hide hown
        have HO4 := hide ((unhide HO2).kept hgrow (own_types (unhide HO1) (unhide HO2) (by decide)))
        have HB6 := hide ((unhide HV1).grown hgrow (unhide HV1).size (fun j e => ((unhide HO1).lt j e).1))
        have HW6 := hide (onward (unhide HB2) (unhide HB6))
        have x6 := kept (unhide HW6) (unhide HXc)
        have r6 := kept (unhide HW6) (unhide HRc)
        have HC6 := hide (show ∀ k u, (bgA s)[k]? = some u → w6.cell? ⟨g1, o1 + j * 2 + k, none⟩ = some u from fun k u hu => by
          have h1 := kept (unhide HVw) ((unhide HCs) k u hu)
          refine hgrow.cell h1 (fun e => ?_)
          have h2 := (unhide HO1).lt g1 e.symm
          obtain ⟨g', o', e', _, hc'⟩ := (unhide HB1) (by omega)
          injection e' with e'
          injection e' with e1 _ _
          have h3 := World.block_lt_of_cell? W _ (hc' 0 (by omega)).1
          rw [← e1] at h3
          have h4 : g1 < W.heap.size := h3
          have := (unhide HB2).size
          omega)
        obtain ⟨V7, hV7⟩ : ∃ V7 : World, w6.alloc (.cells #[.int .i64 s.1, .int .i64 s.2] 39) = V7 := ⟨_, rfl⟩
        have v7 : Below w6.heap.size w6 V7 := by rw [← hV7]; exact below_new (Below.refl _ _) _
        have n7 : V7.heap[w6.heap.size]? = some (.cells #[.int .i64 s.1, .int .i64 s.2] 39 (0, 0)) := by rw [← hV7]; exact heap_alloc_new w6 _
        have HN7 := hide (World.news_of_block n7)
        have HO5 := hide (owns_later (unhide HO3) v7)
        have HO6 := hide (owns_later (unhide HO4) v7)
        have HB7 := hide (onward (unhide HB6) v7)
        have hsz7 := (unhide HB7).size
        clear hown hgrow hat hlt6 v7 n7
        go_wp2_with (first
          | (refine wpList_load_at rfl _ _ rfl g1 (o1 + j * 2) rfl (bgA s) _ (unhide HC6) Try.underlying39 rfl infoSt ?_)
          | (at_builtin; refine wpList_append_lies _ rfl _ _ 68 rfl w2.heap.size 39 j0 jz 2 16 Try.underlying68 (unhide JI) (unhide JA) (unhide JB) (unhide JC) (unhide JD) (by decide) _ _ _ rfl (unhide HO6) ⟨w6.heap.size, 0, none⟩ 1 1 (bgC s) rfl rfl (unhide HN7) (fun u hu => by simp only [bgC, List.mem_cons, List.not_mem_nil, or_false] at hu; rcases hu with rfl | rfl <;> rfl) (by decide) (by unfold maxLen; omega) (by omega) hsz7 _ rfl ?_))
        intro q2 cq2 w8 hown8 hgrow8 hat8 hlt8
        have H8 := hide (show TkI w2 l pos n2 (j + 1) (some ⟨q, 0, none⟩) (some ⟨q2, 0, none⟩) cq cq2 w8 from
          ⟨by rw [unhide HFs]; exact (unhide HO5).kept hgrow8 (own_types (unhide HO6) (unhide HO5) (by decide)), by rw [unhide HBg]; exact hown8, (unhide HB7).grown hgrow8 (unhide HB7).size (fun j e => ((unhide HO6).lt j e).1)⟩)
        clear hown8 hgrow8 hat8 hlt8
        go_wp2
        go_roundw
        case rel => exact ⟨j + 1, _, _, cq, cq2, by omega, by go_num, rfl, by rfl, H8⟩
        case measure => simp [intOf]; omega
      · have jl : ¬ (j : Int) < (pos : Int) := by omega
        obtain rfl : j = pos := by omega
        have HX9 := hide (heap_below (unhide HX) (unhide HWo))
        have hlen : (l.drop (j + 1) ++ l.take j).length = n2 + j := by rw [List.length_append, (unhide HBh).2, List.length_take]; omega
        have HLn := hide hlen
        have HWi := hide (with_any (fun b => S b ∨ w.heap.size ≤ b ∧ b ≤ w.heap.size + 1) dp L f (l.drop (j + 1) ++ l.take j) (some ⟨g, off, none⟩) D c cD wo (fun b hb => by have h1 := (unhide HB).size; have h2 := (unhide HWo).size; have h4 := unhide HZ; rcases hb with hb | hb; (have := unhide HOl b hb; omega); omega) hL (fun l hl => Nat.le_trans ((unhide HV).len l hl) (unhide HV).d.2) hfl ((unhide HS2).below (unhide HWo)).row
          (bgs_own (unhide HI).bags (fun b hb => by have h1 := (unhide HB).size; have h2 := (unhide HB2).size; have h4 := unhide HZ; rcases hb with hb | hb; (have := unhide HOl b hb; omega); omega)) (by rw [hlen]; exact own_cap (unhide HI).bags))
        unfold WithTo at HWi
        rw [hlen] at HWi
        have HWi := hide (unhide HWi)
        clear hlen
        go_wp2_with (first
          | (refine wpList_loadLn (unhide HX9) rfl _ rfl rfl ?_)
          | (go_at_call 47; refine (unhide HWi).mono ?_; rintro e w7 ⟨A7, c7, rfl, hl7, hc7, hb7⟩; have HL7 := hide hl7; have HC7 := hide hc7; have HB7 := hide hb7; have HY7 := hide (heap_below (heap_below (unhide HY) (unhide HWo)) hb7); clear hl7 hc7 hb7)
          | (refine wpList_storeLn (unhide HY7) rfl _ _ rfl rfl rfl ?_))
        refine bodyPost_ret (v := .tuple #[lnsV dp A7 L.length c7, .slice B j cB, .int .i64 0]) (results_row3 rfl _ _ (w.heap.size + 1) _ _ _ _ _ _ rfl rfl rfl (setRow_heap _ _ _ _ _ _ (unhide HY7)) Try.underlying42 rfl infoLn) rfl ?_
        have hln : ((l.take j).map (·.1)).length = j := by rw [List.length_map, List.length_take]; omega
        have h1 := (unhide HB).size
        have h2 := (unhide HB2).size
        have h4 := unhide HZ
        have hn7 := owns_later (unhide HI).nums (unhide HB7)
        refine ⟨below_row (onward (onward (unhide HB) (unhide HWo)) (unhide HB7)) (by omega) _, .inr ⟨by rw [unhide HR], A7, c7, B, cB, by rw [unhide HR, hln], by rw [unhide HR, hln]; exact own_cap (unhide HI).nums, by rw [unhide HR]; exact ⟨((unhide HL7).keep (KepS.setRow _ _ (.inr ⟨by omega, by omega⟩))).mono fun b _ e => .inl e, by rw [List.length_set]; exact unhide HC7⟩, ?_⟩⟩
        rw [unhide HR]
        intro b hb
        have := unhide HOl b hb
        exact nums_own (base := w2.heap.size) (n := j) (cap := cB) (owns_other hn7 (grown_row _ _ _) (fun g hg => by injection hg with hg; omega)) (.inl (by omega))
  · have HR := hide (takeS_no h3)
    rw [decide_eq_false h3] at HFn
    generalize fndI L bag = fi at HF HFn
    generalize fndK L bag = fk at HF
    have q : decide (fi < 0) = true := unhide HFn
    clear h3
    go_enter Try.func29, Try.ntmps29
    go_wp2_with (first
      | (refine wpList_loadLn (unhide HX) rfl _ rfl rfl ?_)
      | (go_at_call 46; refine (unhide HF).mono ?_; rintro e w2 ⟨rfl, hb2⟩; have HB2 := hide hb2; have HY2 := hide (heap_below (unhide HY) hb2); clear hb2)
      | (refine wpList_storeLn (unhide HY2) rfl _ _ rfl rfl rfl ?_))
    refine bodyPost_ret (v := .tuple #[lnsV 0 none 0 0, .slice none 0 0, .int .i64 6]) (results_row3 rfl _ _ (w.heap.size + 1) _ _ _ _ _ _ rfl rfl rfl (setRow_heap _ _ _ _ _ _ (unhide HY2)) Try.underlying42 rfl infoLn) rfl ?_
    exact ⟨below_row (onward (unhide HB) (unhide HB2)) (by omega) _, .inl ⟨by rw [unhide HR]; decide, by rw [unhide HR]⟩⟩
end Go.Proofs.Ytmmhchhekmcihaa
