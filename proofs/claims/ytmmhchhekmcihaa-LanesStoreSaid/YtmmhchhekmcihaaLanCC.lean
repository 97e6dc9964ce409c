/-
  Lanes (layer 17): the document's own 'with': a store in which a lane is replaced.
-/
import Derived.Test.YtmmhchhekmcihaaLanCB
namespace Go.Proofs.Ytmmhchhekmcihaa
open Go.RowKit

/-- A store being made: its box is B2; its first k lanes stand in a row of the call's own. -/
structure WiI (w : World) (S : Nat → Prop) (B2 : Nat) (dp : Int) (M : List (List Bg)) (k : Nat) (R : Option Addr) (cR : Nat) (rw : Nat → Option Addr × Nat) (W : World) : Prop where
  out : W.heap[B2]? = some (lnsO dp R k cR)
  own : W.ownsRow (B2 + 1) 68 1 (.slice R k cR) k ((List.range k).map (lnV M rw))
  rows : ∀ i, i < k → BgsIn (fun b => (S b ∨ w.heap.size ≤ b ∧ b ≤ B2) ∨ (Value.slice R k cR).ownBlock = some b) W (rw i).1 (M.getD i []) ∧ (M.getD i []).length ≤ (rw i).2
section
variable {w W W1 W2 : World} {S : Nat → Prop} {B2 k cR : Nat} {dp : Int} {M : List (List Bg)} {R : Option Addr} {rw : Nat → Option Addr × Nat}
theorem WiI.lt (h : WiI w S B2 dp M k R cR rw W) : B2 < W.heap.size := (Array.getElem?_eq_some_iff.1 h.out).1
theorem WiI.below (h : WiI w S B2 dp M k R cR rw W) (hb : Below W.heap.size W W1) : WiI w S B2 dp M k R cR rw W1 :=
  ⟨heap_below h.out hb, owns_later h.own hb, fun i hi => ⟨(h.rows i hi).1.keep (KepS.below hb), (h.rows i hi).2⟩⟩
theorem WiI.step (h : WiI w S B2 dp M k R cR rw W1) (hw : w.heap.size ≤ B2) {A : Option Addr} {c g cap : Nat} (hl : BgsIn (fun b => (S b ∨ w.heap.size ≤ b ∧ b ≤ B2) ∨ (Value.slice R k cR).ownBlock = some b) W1 A (M.getD k [])) (hc : (M.getD k []).length ≤ c)
    (hg : W1.grownBy W2 (Value.slice R k cR).ownBlock) (ho : W2.ownsRow (B2 + 1) 68 1 (.slice (some ⟨g, 0, none⟩) (k + 1) cap) (k + 1) ((List.range k).map (lnV M rw) ++ [.slice A (M.getD k []).length c])) (hat : (Value.slice R k cR).ownBlock = some g ∨ g = W1.heap.size) :
    WiI w S B2 dp M (k + 1) (some ⟨g, 0, none⟩) cap (rwP rw k A c) (W2.setCell ⟨B2, 1, none⟩ (.slice (some ⟨g, 0, none⟩) (k + 1) cap)) := by
  have hne : some B2 ≠ (Value.slice R k cR).ownBlock := fun e => by have := (h.own.lt B2 e.symm).1; omega
  have h1 : W2.heap[B2]? = some (lnsO dp R k cR) := (hg.block B2 h.lt hne).trans h.out
  have e0 : ∀ i, i < k → lnV M (rwP rw k A c) i = lnV M rw i := fun i hi => by unfold lnV rwP; rw [if_neg (by omega)]
  have e1 : lnV M (rwP rw k A c) k = .slice A (M.getD k []).length c := by unfold lnV rwP; rw [if_pos rfl]
  have el : (List.range (k + 1)).map (lnV M (rwP rw k A c)) = (List.range k).map (lnV M rw) ++ [.slice A (M.getD k []).length c] := by
    rw [List.range_succ, List.map_append, List.map_cons, List.map_nil, e1]
    congr 1
    exact List.map_congr_left fun i hi => e0 i (List.mem_range.1 hi)
  have kp : ∀ {A' : Option Addr} {l : List Bg}, BgsIn (fun b => (S b ∨ w.heap.size ≤ b ∧ b ≤ B2) ∨ (Value.slice R k cR).ownBlock = some b) W1 A' l → BgsIn (fun b => (S b ∨ w.heap.size ≤ b ∧ b ≤ B2) ∨ (Value.slice (some ⟨g, 0, none⟩) (k + 1) cap).ownBlock = some b) (W2.setCell ⟨B2, 1, none⟩ (.slice (some ⟨g, 0, none⟩) (k + 1) cap)) A' l := fun hb => by
    have h2 : BgsIn (fun b => ((S b ∨ w.heap.size ≤ b ∧ b ≤ B2) ∨ (Value.slice R k cR).ownBlock = some b) ∨ b = g) W1 _ _ := hb.mono fun b hlt e => e.elim id fun e => by
      rcases hat with ha | ha
      · exact .inr (by rw [e]; exact ha)
      · omega
    have h3 : BgsIn (fun b => ((S b ∨ w.heap.size ≤ b ∧ b ≤ B2) ∨ (Value.slice R k cR).ownBlock = some b) ∨ b = g) W2 _ _ := h2.keep fun a v hs hcell => hg.cell hcell (fun e => hs (.inl (.inr e.symm)))
    have h4 := h3.keep (KepS.grown (grown_set W2 B2 1 (.slice (some ⟨g, 0, none⟩) (k + 1) cap)) (.inl (.inl (.inr ⟨hw, Nat.le_refl _⟩))))
    refine h4.mono fun b _ e => ?_
    rcases e with e | e
    · exact .inl (.inl e)
    · exact .inr (by injection e with e; exact e.symm)
  refine ⟨?_, ?_, fun i hi => ?_⟩
  · rw [heap_set h1]; rfl
  · rw [el]; exact owns_other ho (grown_set _ _ _ _) (fun q hq => by injection hq with hq; omega)
  · by_cases e : i = k
    · subst e
      have e2 : rwP rw i A c i = (A, c) := if_pos rfl
      rw [e2]; exact ⟨kp hl, hc⟩
    · have e2 : rwP rw k A c i = rw i := if_neg e
      rw [e2]; exact ⟨kp (h.rows i (by omega)).1, (h.rows i (by omega)).2⟩
theorem WiI.row (h : WiI w S B2 dp M M.length R cR rw W) (hS : Old S w) (hw : w.heap.size ≤ B2) : LnsIn (fun b => S b ∨ w.heap.size ≤ b ∧ b ≤ B2) W R M := fun hn => by
  have hlen : ((List.range M.length).map (lnV M rw)).length = M.length := by rw [List.length_map, List.length_range]
  rcases h.own.2 with ⟨_, h0⟩ | ⟨g, cap, cur, hv, hbg, hg, _, _, _, ht⟩
  · omega
  · injection hv with hA
    refine ⟨g, 0, hA, fun e => ?_, fun i hi => ⟨(rw i).1, (rw i).2, ?_, (h.rows i hi).2, (h.rows i hi).1.mono fun b _ e => .inl e⟩⟩
    · rcases e with e | e
      · have := hS _ e; omega
      · omega
    · rw [Nat.zero_add, Lib.cell_of_heap hg, ← Array.getElem?_toList]
      have : (cur.toList.take (M.length * 1))[i]? = some (lnV M rw i) := by
        rw [ht, List.getElem?_map, List.getElem?_range hi]; rfl
      rw [List.getElem?_take] at this
      split at this
      · exact this
      · cases this
end
/-- The lane that is laid in, and others, are older than the store being made. -/
theorem bgs_old {w W : World} {S : Nat → Prop} {B2 : Nat} {v : Value} {A : Option Addr} {l : List Bg} (h : BgsIn S w A l) (hb : Below w.heap.size w W) (hw : w.heap.size ≤ B2) (ho : ∀ b, v.ownBlock = some b → B2 + 1 ≤ b) : BgsIn (fun b => (S b ∨ w.heap.size ≤ b ∧ b ≤ B2) ∨ v.ownBlock = some b) W A l :=
  (h.mono fun b hlt e => by
    rcases e with (e | e) | e
    · exact e
    · omega
    · have := ho b e; omega).keep (KepS.below hb)
def WithTo (dp : Int) (L : List (List Bg)) (f : Nat) (l' : List Bg) (S : Nat → Prop) (w : World) (e : Ending) (w' : World) : Prop := ∃ A' c', e = .returned (lnsV dp A' L.length c') ∧ LnsIn S w' A' (L.set f l') ∧ L.length ≤ c' ∧ Below w.heap.size w w'
theorem info_slp : (Try.prog.info? 68).map (fun i => (i.zero, i.size, i.bytes)) = some (some (.slice none 0 0), 1, 24) := info_sl
set_option maxHeartbeats 4000000 in
set_option maxRecDepth 100000 in
theorem with_any (S : Nat → Prop) (dp : Int) (L : List (List Bg)) (f : Nat) (l' : List Bg) (A B : Option Addr) (c d : Nat) (w : World) (hS : Old S w) (hn : L.length ≤ 20) (hl : ∀ l ∈ L, l.length ≤ 20) (hf : f < L.length) (h : LnsIn S w A L) (hb : BgsIn S w B l') (hd : l'.length ≤ d) :
    Calls Try.prog 47 #[lnsV dp A L.length c, .int .i64 f, .slice B l'.length d] w (WithTo dp L f l' S w) := by
  obtain ⟨i0, hi0, hia, hib, hic⟩ := info_parts info_slp
  have KI := hide hi0
  have KA := hide hia
  have KB := hide hib
  have KC := hide hic
  clear hi0 hia hib hic
  obtain ⟨j0, jz, hj0, hja, hjb, hjc, hjd⟩ := info_size info_st
  have JI := hide hj0
  have JA := hide hja
  have JB := hide hjb
  have JC := hide hjc
  have JD := hide hjd
  clear hj0 hja hjb hjc hjd
  obtain ⟨W2, hW2⟩ : ∃ W2 : World, (w.alloc (lnsO dp A L.length c)).alloc (lnsO 0 none 0 0) = W2 := ⟨_, rfl⟩
  have b2 : Below w.heap.size w W2 := by rw [← hW2]; exact below_new (below_new (Below.refl w.heap.size w) _) _
  have hz : W2.heap.size = w.heap.size + 2 := by rw [← hW2, World.size_alloc, World.size_alloc]
  have hx : W2.heap[w.heap.size]? = some (lnsO dp A L.length c) := by rw [← hW2]; exact heap_later (heap_alloc_new w _) _
  have hy : W2.heap[w.heap.size + 1]? = some (lnsO 0 none 0 0) := by
    have h := heap_alloc_new (w.alloc (lnsO dp A L.length c)) (lnsO 0 none 0 0)
    rw [World.size_alloc, hW2] at h; exact h
  have x0 : W2.cell? ⟨w.heap.size, 0, none⟩ = some (.int .i64 dp) := by rw [Lib.cell_of_heap hx]; rfl
  obtain ⟨M, hM⟩ : ∃ M, L.set f l' = M := ⟨_, rfl⟩
  have hMl : M.length = L.length := by rw [← hM, List.length_set]
  have hMf : M.getD f [] = l' := by rw [← hM, getD_set hf, if_pos rfl]
  have HMo := hide (show ∀ i, i ≠ f → M.getD i [] = L.getD i [] from fun i hi => by rw [← hM, getD_set hf, if_neg (fun e => hi e.symm)])
  have hb3 := below_new (Below.refl W2.heap.size W2) (lnsO dp none 0 0)
  have H0 := hide (show WiI w S W2.heap.size dp M 0 none 0 (fun _ => (none, 0)) (W2.alloc (lnsO dp none 0 0)) ∧ Below W2.heap.size W2 (W2.alloc (lnsO dp none 0 0)) from
    ⟨⟨heap_alloc_new W2 _, World.ownsRow_nil _ _ _ _, fun _ hi => absurd hi (Nat.not_lt_zero _)⟩, hb3⟩)
  have HX := hide hx
  have HY := hide hy
  have HB := hide b2
  have HL := hide h
  have HLl := hide hl
  have HBl := hide hb
  have HD := hide hd
  have HS := hide hS
  have HM := hide hM
  have HMf := hide hMf

  have hwB : w.heap.size ≤ W2.heap.size := b2.size
  have HWB := hide hwB
  clear b2 hx hy h hl hb hd hS hM hb3 hMf hwB
  go_enter Try.func47, Try.ntmps47
  go_wp2_with fail
  rw [hz] at HWB H0
  have HBB := hide hz
  have HZ := hide (show w.heap.size + 2 = w.heap.size + 2 from rfl)
  clear x0
  have H0 := hide (unhide H0)
  go_loopw [8] (fun s8 wr => ∃ (k : Nat) (R : Option Addr) (cR : Nat) (rw : Nat → Option Addr × Nat), k ≤ L.length ∧ s8 = .int .i64 k ∧ Hid (WiI w S (w.heap.size + 2) dp M k R cR rw wr ∧ Below (w.heap.size + 2) W2 wr)) (fun s8 _ => L.length - (intOf s8).toNat)
  case atStart => exact ⟨0, none, 0, _, Nat.zero_le _, rfl, H0⟩
  case round =>
    obtain ⟨k, R, cR, rw, hk, rfl, HI⟩ := hrel
    obtain ⟨wo, rfl⟩ : ∃ wo : World, wo = wr := ⟨_, rfl⟩
    clear H0
    have hB2 := unhide HBB
    have hbo : Below W2.heap.size W2 wo := by rw [hB2]; exact (unhide HI).2
    have x1 : wo.cell? ⟨w.heap.size, 1, none⟩ = some (.slice A L.length c) := by rw [Lib.cell_of_heap (heap_below (unhide HX) hbo)]; rfl
    have z1 : wo.cell? ⟨w.heap.size + 2, 1, none⟩ = some (.slice R k cR) := by rw [Lib.cell_of_heap (unhide HI).1.out]; rfl
    have HBo := hide (onward (unhide HB) hbo)
    have HB2o := hide hbo
    clear hbo hB2 hz
    by_cases hkn : k < L.length
    · have kn : (k : Int) < (L.length : Int) := by omega
      have k0 : (0 : Int) ≤ (k : Int) := by omega
      have HOw := hide (fun b e => ((unhide HI).1.own.lt b e).1)
      by_cases hkf : k = f
      · subst hkf
        have q1 : ((k : Int) == (k : Int)) = true := by simp
        obtain ⟨V1, hV1⟩ : ∃ V1 : World, wo.alloc (.cells #[.slice B l'.length d] 68) = V1 := ⟨_, rfl⟩
        have v1 : Below wo.heap.size wo V1 := by rw [← hV1]; exact below_new (Below.refl _ _) _
        have n1 : V1.heap[wo.heap.size]? = some (.cells #[.slice B l'.length d] 68 (0, 0)) := by rw [← hV1]; exact heap_alloc_new wo _
        have HW1 := hide ((unhide HI).1.below v1)
        have HNw := hide (World.news_of_block n1)
        have hsz := Nat.succ_le_of_lt (unhide HW1).lt
        have HO3 := hide (unhide HW1).own
        have HBg := hide (bgs_old (unhide HBl) (onward (unhide HBo) v1) (unhide HWB) (unhide HOw))
        have HB3 := hide (show Below (w.heap.size + 2) W2 V1 from (unhide HI).2.trans (v1.mono (Nat.le_of_lt (unhide HI).1.lt)))
        clear v1 n1
        go_wp2_with (at_builtin; refine wpList_append_lies _ rfl _ _ 40 rfl ((w.heap.size + 2) + 1) 68 i0 (.slice none 0 0) 1 24 Try.underlying40 (unhide KI) (unhide KA) (unhide KB) (unhide KC) rfl (by decide) _ _ _ rfl (unhide HO3) ⟨wo.heap.size, 0, none⟩ 1 1 [.slice B l'.length d] rfl rfl (unhide HNw) (fun u hu => by rw [List.mem_singleton.1 hu]; rfl) (by decide) (by unfold maxLen; omega) (by omega) hsz _ rfl ?_)
        intro q cap w6 hown hgrow hat hlt6
        have h6 : w6.heap[(w.heap.size + 2)]? = some (lnsO dp R k cR) := (hgrow.block (w.heap.size + 2) (unhide HW1).lt (fun e => by have := unhide HOw _ e.symm; omega)).trans (unhide HW1).out
        have z6 : w6.cell? ⟨w.heap.size + 2, 1, none⟩ = some (.slice R k cR) := by rw [Lib.cell_of_heap h6]; rfl
        have f6 := frozen_of_row w6 (w.heap.size + 2) 1 _ _ h6
        have HR := hide (show WiI w S (w.heap.size + 2) dp M (k + 1) (some ⟨q, 0, none⟩) cap (rwP rw k B d) (w6.setCell ⟨w.heap.size + 2, 1, none⟩ (.slice (some ⟨q, 0, none⟩) (k + 1) cap)) ∧ Below (w.heap.size + 2) W2 (w6.setCell ⟨w.heap.size + 2, 1, none⟩ (.slice (some ⟨q, 0, none⟩) (k + 1) cap)) from
          ⟨WiI.step (unhide HW1) (unhide HWB) (by rw [unhide HMf]; exact unhide HBg) (by rw [unhide HMf]; exact unhide HD) hgrow (by rw [unhide HMf]; exact hown) hat, below_put ((unhide HB3).grown hgrow (Nat.le_trans (Nat.le_of_lt (unhide HI).1.lt) (by rw [← hV1, World.size_alloc]; omega)) (fun j e => by have := unhide HOw j e; omega)) (Nat.le_refl _) _ _⟩)
        clear hown hgrow hat hlt6 h6 hsz
        go_wp2
        go_roundw
        case rel => exact ⟨k + 1, _, cap, _, by omega, by go_num, HR⟩
        case measure => simp [intOf]; omega
      · have q1 : ((k : Int) == (f : Int)) = false := by rw [beq_eq_false_iff_ne]; omega
        obtain ⟨g, off, hA, _, hc⟩ := ((unhide HL).keep (KepS.below (unhide HBo))) (by omega)
        obtain ⟨A1, c1, r0, hc1, hbg⟩ := hc k hkn
        have hll := (unhide HLl) _ (mem_at hkn)
        have HMk := hide ((unhide HMo) k hkf)
        have HBg := hide hbg
        have HA1 := hide (fun (hp : 0 < (L.getD k []).length) => show ∃ g off, A1 = some ⟨g, off, none⟩ ∧ ∀ j u, ((L.getD k []).flatMap bgC)[j]? = some u → wo.cell? ⟨g, off + j, none⟩ = some u from by
          obtain ⟨g, off, e, _, hc⟩ := bgs_src hbg hp
          exact ⟨g, off, e, hc⟩)
        have HW0 := hide ((unhide HI).1.below (Below.refl wo.heap.size wo).drew)
        subst hA
        clear hc hbg
        generalize L.getD k [] = l at *
        obtain ⟨m, hm⟩ : ∃ m, l.length = m := ⟨_, rfl⟩
        rw [hm] at r0 hc1 hll
        have HMm := hide hm
        clear hm
        have hh : wo.drew.cell? ⟨w.heap.size + 2, 1, none⟩ = some (.slice R k cR) ∧ wo.drew.cell? ⟨w.heap.size, 1, none⟩ = some (.slice (some ⟨g, off, none⟩) L.length c) ∧ wo.drew.cell? ⟨g, off + k, none⟩ = some (.slice A1 m c1) := ⟨z1, x1, r0⟩
        have HKp := hide (fun (Z : World) (hb : Below wo.heap.size wo Z) => show Z.cell? ⟨w.heap.size + 2, 1, none⟩ = some (.slice R k cR) ∧ Z.cell? ⟨w.heap.size, 1, none⟩ = some (.slice (some ⟨g, off, none⟩) L.length c) ∧ Z.cell? ⟨g, off + k, none⟩ = some (.slice A1 m c1) from ⟨kept hb z1, kept hb x1, kept hb r0⟩)
        go_wp2_with fail
        clear z1 x1 r0
        refine wp_region_anyZ 11 (fun Z => Z.cell? ⟨w.heap.size + 2, 1, none⟩ = some (.slice R k cR) ∧ Z.cell? ⟨w.heap.size, 1, none⟩ = some (.slice (some ⟨g, off, none⟩) L.length c) ∧ Z.cell? ⟨g, off + k, none⟩ = some (.slice A1 m c1)) (by kernel_rfl) ?_
        refine anyZ_take (i := 0) (v := .pointer (some ⟨w.heap.size + 2, 1, none⟩)) rfl (by kernel_rfl) (by kernel_rfl) (by kernel_rfl) (by kernel_rfl) (fun _ _ _ h => h) (Or.inl ⟨by rfl, by intro Z hs; go_simp⟩) hh ?_
        refine anyZ_take (i := 1) (v := .slice R k cR) rfl (by kernel_rfl) (by kernel_rfl) (by kernel_rfl) (by kernel_rfl) (fun _ _ _ h => h) (Or.inl ⟨by rfl, by intro Z hs; have h9 := hs.1; go_simp⟩) hh ?_
        refine anyZ_take (i := 2) (v := .pointer (some ⟨w.heap.size, 1, none⟩)) rfl (by kernel_rfl) (by kernel_rfl) (by kernel_rfl) (by kernel_rfl) (fun _ _ _ h => h) (Or.inl ⟨by rfl, by intro Z hs; go_simp⟩) hh ?_
        refine anyZ_take (i := 3) (v := .slice (some ⟨g, off, none⟩) L.length c) rfl (by kernel_rfl) (by kernel_rfl) (by kernel_rfl) (by kernel_rfl) (fun _ _ _ h => h) (Or.inl ⟨by rfl, by intro Z hs; have h9 := hs.2.1; go_simp⟩) hh ?_
        go_simp
        refine anyZ_take (i := 4) (v := .int .i64 k) rfl (by kernel_rfl) (by kernel_rfl) (by kernel_rfl) (by kernel_rfl) (fun _ _ _ h => h) (Or.inl ⟨by rfl, by intro Z hs; go_simp⟩) hh ?_
        refine anyZ_take (i := 5) (v := .pointer (some ⟨g, off + k, none⟩)) rfl (by kernel_rfl) (by kernel_rfl) (by kernel_rfl) (by kernel_rfl) (fun _ _ _ h => h) (Or.inl ⟨by rfl, by intro Z hs; go_simp⟩) hh ?_
        refine anyZ_take (i := 6) (v := .slice A1 m c1) rfl (by kernel_rfl) (by kernel_rfl) (by kernel_rfl) (by kernel_rfl) (fun _ _ _ h => h) (Or.inl ⟨by rfl, by intro Z hs; have h9 := hs.2.2; go_simp⟩) hh ?_
        go_simp
        refine anyZ_one (i := 7) (by kernel_rfl) rfl (fun K hK => ?_)
        rw [if_pos (by rfl)]
        refine wp_append_any _ _ 68 rfl wo.heap.size 39 j0 jz 2 16 Try.underlying68 (unhide JI) (unhide JA) (unhide JB) (unhide JC) (unhide JD) (by decide) (.slice none 0 0) 0 [] rfl (World.ownsRow_nil _ _ _ _) A1 m c1 (l.flatMap bgC) rfl (by rw [flatK_len bgC 2 bgC_len, unhide HMm]) (fun hp => (unhide HA1) (by rw [unhide HMm]; exact hp)) st_one (by unfold maxLen; omega) (by omega) (Nat.le_refl _) ?_
        intro v1 w4 hown4 hg4 _
        rw [Nat.zero_add, List.nil_append] at hown4
        obtain ⟨A4, c4, rfl⟩ := own_form hown4
        have b4 : Below wo.heap.size wo w4 := (Below.refl wo.heap.size wo).drew.grown hg4 (Nat.le_refl _) (fun j e => by cases e)
        have HB4 := hide b4
        have HC4 := hide (show BgsIn (fun b => b < wo.heap.size) w4 A4 l ∧ m ≤ c4 from ⟨bgs_own hown4 (fun b hb => hb), own_cap hown4⟩)
        refine hK _ _ ⟨fun _ => unhide HKp w4 b4, ?_⟩
        clear hK K hown4 hg4 b4
        refine anyZ_one (i := 8) (by kernel_rfl) rfl (fun K hK => ?_)
        go_simp
        obtain ⟨V1, hV1⟩ : ∃ V1 : World, w4.alloc (.cells #[.slice A4 m c4] 68) = V1 := ⟨_, rfl⟩
        have v1 : Below w4.heap.size w4 V1 := by rw [← hV1]; exact below_new (Below.refl _ _) _
        have n1 : V1.heap[w4.heap.size]? = some (.cells #[.slice A4 m c4] 68 (0, 0)) := by rw [← hV1]; exact heap_alloc_new w4 _
        have HV1 := hide (onward (unhide HB4) v1)
        have HN1 := hide (World.news_of_block n1)
        have HC5 := hide ((unhide HC4).1.keep (KepS.below v1))
        have HW1 := hide ((unhide HI).1.below (unhide HV1))
        try rw [hV1]
        refine hK _ _ ⟨fun _ => unhide HKp V1 (unhide HV1), ?_⟩
        clear hK K v1 n1 hV1
        refine anyZ_one (i := 9) (by kernel_rfl) rfl (fun K hK => ?_)
        rw [if_pos (by rfl)]
        have hsz := Nat.succ_le_of_lt (unhide HW1).lt
        refine wp_append_lies _ _ _ 40 rfl ((w.heap.size + 2) + 1) 68 i0 (.slice none 0 0) 1 24 Try.underlying40 (unhide KI) (unhide KA) (unhide KB) (unhide KC) rfl (by decide) _ _ _ rfl (unhide HW1).own ⟨w4.heap.size, 0, none⟩ 1 1 [.slice A4 m c4] rfl rfl (unhide HN1) (fun u hu => by rw [List.mem_singleton.1 hu]; rfl) (by decide) (by unfold maxLen; omega) (by omega) hsz _ rfl ?_
        intro q cap w6 hown hgrow hat hlt6
        have h6 : w6.heap[(w.heap.size + 2)]? = some (lnsO dp R k cR) := (hgrow.block (w.heap.size + 2) (unhide HW1).lt (fun e => by have := unhide HOw _ e.symm; omega)).trans (unhide HW1).out
        have z6 : w6.cell? ⟨w.heap.size + 2, 1, none⟩ = some (.slice R k cR) := by rw [Lib.cell_of_heap h6]; rfl
        have f6 := frozen_of_row w6 (w.heap.size + 2) 1 _ _ h6
        have kx : ∀ {a : Addr} {v : Value}, a.block < (w.heap.size + 2) → V1.cell? a = some v → w6.cell? a = some v := fun ha hc => hgrow.cell hc (fun e => by have := unhide HOw _ e.symm; omega)
        have hs6 : w6.cell? ⟨w.heap.size + 2, 1, none⟩ = some (.slice R k cR) ∧ w6.cell? ⟨w.heap.size, 1, none⟩ = some (.slice (some ⟨g, off, none⟩) L.length c) ∧ w6.cell? ⟨g, off + k, none⟩ = some (.slice A1 m c1) := by
          obtain ⟨e1, e2, e3⟩ := unhide HKp V1 (unhide HV1)
          have hZ := unhide HZ
          refine ⟨z6, kx (by show w.heap.size < (w.heap.size + 2); omega) e2, kx ?_ e3⟩
          obtain ⟨g', off', hA', _, hc'⟩ := (unhide HL) (by omega)
          injection hA' with hA'
          injection hA' with hA1 _ _
          subst hA1
          obtain ⟨_, _, r0, _⟩ := hc' k hkn
          have := World.block_lt_of_cell? w _ r0
          show g < (w.heap.size + 2)
          have h5 : g < w.heap.size := this
          omega
        have HR := hide (show WiI w S (w.heap.size + 2) dp M (k + 1) (some ⟨q, 0, none⟩) cap (rwP rw k A4 c4) (w6.setCell ⟨w.heap.size + 2, 1, none⟩ (.slice (some ⟨q, 0, none⟩) (k + 1) cap)) ∧ Below (w.heap.size + 2) W2 (w6.setCell ⟨w.heap.size + 2, 1, none⟩ (.slice (some ⟨q, 0, none⟩) (k + 1) cap)) from
          ⟨WiI.step (unhide HW1) (unhide HWB) (by
              rw [unhide HMk]
              refine (unhide HC5).mono fun b _ e => ?_
              have hlo := (unhide HI).1.lt
              rcases e with (e | e) | e
              · have := unhide HS b e; have := unhide HWB; omega
              · omega
              · exact ((unhide HI).1.own.lt b e).2) (by rw [unhide HMk, unhide HMm]; exact (unhide HC4).2) hgrow (by rw [unhide HMk, unhide HMm]; exact hown) hat,
            below_put (((unhide HI).2.trans ((unhide HV1).mono (Nat.le_of_lt (unhide HI).1.lt))).grown hgrow (Nat.le_trans (Nat.le_of_lt (unhide HI).1.lt) (unhide HV1).size) (fun j e => by have := unhide HOw j e; omega)) (Nat.le_refl _) _ _⟩)
        refine hK _ _ ⟨fun _ => hs6, ?_⟩
        clear hK K hown hgrow hat hlt6 h6 hsz kx
        refine anyZ_one (i := 10) (by kernel_rfl) rfl (fun K hK => ?_)
        go_simp
        refine hK _ _ ⟨fun _ => hs6, ?_⟩
        clear hK K hs6
        refine anyZ_one (i := 11) (by kernel_rfl) rfl (fun K hK => ?_)
        go_simp
        refine hK _ _ ⟨fun h => absurd rfl h, ?_⟩
        clear hK K z6 f6
        refine anyZ_done (by kernel_rfl) ?_ _
        go_simp
        go_wp2
        go_roundw
        case rel => exact ⟨k + 1, _, cap, _, by omega, by go_num, HR⟩
        case measure => simp [intOf]; omega
    · have kn : ¬ (k : Int) < (L.length : Int) := by omega
      obtain rfl : k = L.length := by omega
      have HO := hide (unhide HI).1.out
      have HY2 := hide (heap_below (unhide HY) (unhide HB2o))
      go_wp2_with (first
        | (refine wpList_loadLn (unhide HO) rfl _ rfl rfl ?_)
        | (refine wpList_storeLn (unhide HY2) rfl _ _ rfl rfl rfl ?_))
      refine bodyPost_ret (v := lnsV dp R L.length cR) (results_row1 rfl _ _ (w.heap.size + 1) _ _ _ _ rfl (setRow_heap _ _ _ _ _ _ (unhide HY2)) Try.underlying42 rfl infoLn) rfl ?_
      have hZ := unhide HZ
      have hI := (unhide HI).1
      rw [← hMl] at hI
      refine ⟨R, cR, rfl, ?_, ?_, below_row (unhide HBo) (by omega) _⟩
      · rw [unhide HM]
        exact ((hI.row (unhide HS) (unhide HWB)).keep (KepS.setRow _ _ (.inr ⟨by omega, by omega⟩))).mono fun b _ e => .inl e
      · have := own_cap hI.own; rw [hMl] at this; exact this
end Go.Proofs.Ytmmhchhekmcihaa
