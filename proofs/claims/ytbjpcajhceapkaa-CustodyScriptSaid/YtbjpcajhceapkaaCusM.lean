/-
  Custody (layer 16): the document's own Revoke: what it gives is a row of the call's own.
-/
import Derived.Test.YtbjpcajhceapkaaCusL
namespace Go.Proofs.Ytbjpcajhceapkaa
open Go.RowKit

def revK (l : List Se) (bag : Int) (k : Nat) : List Se := (l.take k).filter fun x => decide (x.bag ≠ bag)
theorem revK_step {l : List Se} {bag : Int} {k : Nat} {x : Se} (hk : k < l.length) (hx : l.getD k se0 = x) : revK l bag (k + 1) = if x.bag ≠ bag then revK l bag k ++ [x] else revK l bag k := by
  unfold revK
  rw [List.take_succ_eq_append_getElem hk, List.filter_append, ← at_k hk (d := se0), hx]
  split
  · rename_i h; rw [List.filter_cons_of_pos (by simpa using h)]; rfl
  · rename_i h; rw [List.filter_cons_of_neg (by simpa using h)]; simp
theorem revK_len (l : List Se) (bag : Int) (k : Nat) : (revK l bag k).length ≤ l.length := Nat.le_trans (List.length_filter_le _ _) (List.length_take_le' _ _)
theorem revK_all (l : List Se) (bag : Int) : revK l bag l.length = l.filter fun x => decide (x.bag ≠ bag) := by unfold revK; rw [List.take_length]
/-- A custody that is built while another one is read: its box O, its seals in a row of the call's own. -/
structure RvS (w : World) (O : Nat) (l : List Se) (A : Option Addr) (c : Nat) (o : List Se) (A' : Option Addr) (c' : Nat) (W : World) : Prop where
  bel : Below w.heap.size w W
  bx : W.heap[w.heap.size]? = some (cusO A l.length c)
  rs : W.heap[w.heap.size + 1]? = some (cusO none 0 0)
  ox : W.heap[O]? = some (cusO A' o.length c')
  own : SesO (O + 1) W A' c' o
  lo : w.heap.size + 2 ≤ O
section
variable {w W W' : World} {O : Nat} {l o : List Se} {A A' A2 : Option Addr} {c c' c2 : Nat}
theorem RvS.szO (h : RvS w O l A c o A' c' W) : O + 1 ≤ W.heap.size := (Array.getElem?_eq_some_iff.1 h.ox).1
theorem RvS.below (h : RvS w O l A c o A' c' W) (hb : Below W.heap.size W W') : RvS w O l A c o A' c' W' := ⟨onward h.bel hb, heap_below h.bx hb, heap_below h.rs hb, heap_below h.ox hb, owns_later h.own hb, h.lo⟩
theorem RvS.push {x : Se} (h : RvS w O l A c o A' c' W) (own : W'.ownsRow (O + 1) 54 2 (.slice A2 (o.length + 1) c2) (o.length + 1) (o.flatMap Se.cs ++ Se.cs x)) (hg : W.grownBy W' (Value.slice A' o.length c').ownBlock) :
    W'.heap[O]? = some (cusO A' o.length c') ∧ RvS w O l A c (o ++ [x]) A2 c2 (W'.setCell ⟨O, 0, none⟩ (.slice A2 (o.length + 1) c2)) := by
  have hr : ∀ q, (Value.slice A' o.length c').ownBlock = some q → O + 1 ≤ q := fun q e => (h.own.lt q e).1
  have hlo := h.lo
  have hk : ∀ {b : Nat} {ob : Obj}, W.heap[b]? = some ob → b ≤ O → W'.heap[b]? = some ob := fun hb hle => (hg.block _ (Array.getElem?_eq_some_iff.1 hb).1 (fun e => by have := hr _ e.symm; omega)).trans hb
  have hO := hk h.ox (Nat.le_refl _)
  refine ⟨hO, (h.bel.grown hg h.bel.size (fun q e => by have := hr q e; omega)).setCell (p := ⟨O, 0, none⟩) (by simp only []; omega) _, heap_setOther (hk h.bx (by omega)) (by omega) _, heap_setOther (hk h.rs (by omega)) (by omega) _, ?_, ?_, hlo⟩
  · rw [List.length_append]; exact heap_set hO _
  · have h9 := own.kept (grown_set W' O 0 (.slice A2 (o.length + 1) c2)) (.inr (fun e => by have := (own.lt _ e).1; omega))
    show World.ownsRow _ _ _ 2 (.slice A2 (o ++ [x]).length c2) (o ++ [x]).length ((o ++ [x]).flatMap Se.cs)
    rw [List.length_append, List.flatMap_append]
    simpa using h9
end

set_option maxHeartbeats 4000000 in
set_option maxRecDepth 100000 in
theorem rqrevoke_any (B : Nat) (l : List Se) (bag : Int) (A : Option Addr) (c : Nat) (w : World) (hv : ValQ l) (h : SesO B w A c l) :
    Calls Try.prog 14 #[cusV A l.length c, .int .i64 bag] w (GivesO w (revL l bag) (revE l bag)) := by
  obtain ⟨W1, hW⟩ : ∃ W1 : World, (w.alloc (cusO A l.length c)).alloc (cusO none 0 0) = W1 := ⟨_, rfl⟩
  have HS := hide (show QS w w.heap.size l A c W1 from by rw [← hW]; exact QS.start (sesO_in h (.inr (Nat.le_refl _))))
  have HBX := hide (unhide HS).bx
  have HV := hide hv
  have HZ := hide hv.len
  have HL := hide (fun W (hb : Below w.heap.size w W) => RowIn.keep (sesO_in h (.inr (Nat.le_refl w.heap.size))) hb)
  have HC := hide (fun W (hs : QS w w.heap.size l A c W) => rqcleared_any w.heap.size l A c W (unhide HV) hs.ses)
  clear hv h
  go_enter Try.func14, Try.ntmps14
  go_wp2_with (refine wpList_loadCu (unhide HBX) rfl _ rfl rfl ?_)
  refine (unhide HC W1 (unhide HS)).mono ?_
  rintro e w2 ⟨A2, c2, rfl, hn2, hb2⟩
  have HS2 := hide ((unhide HS).below hb2)
  have HN2 := hide (hn2 w.heap.size (.inl (by have := (unhide HS).lt; omega)))
  clear hn2 hb2 HS HBX hW HC
  have HIn := hide (kin_any w.heap.size (l.map Se.bag) bag A2 c2 w2 (by have := unhide HZ; rw [List.length_map]; omega) (unhide HN2))
  rw [List.length_map] at HIn
  have HIn := hide (unhide HIn)
  have HRS := hide (unhide HS2).rs
  cases hf : hasSe l bag with
  | false =>
    have HE := hide (show revE l bag = 6 from by unfold revE; rw [hf]; rfl)
    have HE2 := hide (show revL l bag = [] from by unfold revL; rw [unhide HE]; rfl)
    rw [show decide (bag ∈ l.map Se.bag) = false from hf] at HIn
    have HIn := hide (unhide HIn)
    clear hf
    go_wp2_with (first
      | (go_at_call 23; refine (unhide HIn).mono ?_; rintro e wy ⟨rfl, hwy⟩; subst wy)
      | (refine wpList_storeCu (A := none) (n := 0) (c := 0) (unhide HRS) rfl _ _ rfl rfl rfl ?_))
    refine bodyPost_ret (v := .tuple #[cusV none 0 0, .int .i64 6]) (results_row2' rfl _ _ (w.heap.size + 1) _ _ _ _ _ rfl rfl (setRow_heap w2 (w.heap.size + 1) _ #[.slice none 0 0] _ _ (unhide HRS)) Try.underlying27 rfl infoCu) rfl ?_
    exact givesO_no (unhide HS2) (unhide HE2) (unhide HE)
  | true =>
    have HE := hide (show revE l bag = 0 from by unfold revE; rw [hf]; rfl)
    have HE2 := hide (show revL l bag = revK l bag l.length from by unfold revL; rw [unhide HE, if_pos rfl, revK_all])
    rw [show decide (bag ∈ l.map Se.bag) = true from hf] at HIn
    have HIn := hide (unhide HIn)
    clear hf
    obtain ⟨W3, hW3⟩ : ∃ W3 : World, w2.alloc (cusO none 0 0) = W3 := ⟨_, rfl⟩
    have b3 := (Below.refl w2.heap.size w2).alloc (Nat.le_refl _) (cusO none 0 0)
    have hx3 := heap_alloc_new w2 (cusO none 0 0)
    rw [hW3] at b3 hx3
    obtain ⟨O, hO⟩ : ∃ O, w2.heap.size = O := ⟨_, rfl⟩
    have HOl := hide (show w.heap.size + 2 ≤ O by have := (unhide HS2).lt; omega)
    rw [hO] at hx3
    have H0 := hide (show RvS w O l A c (revK l bag 0) none 0 W3 from ⟨onward (unhide HS2).bel b3, heap_below (unhide HS2).bx b3, heap_below (unhide HS2).rs b3, hx3, World.ownsRow_nil _ _ _ _, unhide HOl⟩)
    obtain ⟨i0, zz, hi0, hia, hib, hic, hid⟩ := info_size info_se
    have HI0 := hide hi0
    have HIA := hide hia
    have HIB := hide hib
    have HIC := hide hic
    have HID := hide hid
    clear hi0 hia hib hic hid b3 hx3 HN2 HS2 HRS
    go_wp2_with (go_at_call 23; refine (unhide HIn).mono ?_; rintro e wy ⟨rfl, hwy⟩; subst wy)
    clear hO hW3 HIn
    go_loopw [7] (fun iv wr => ∃ (k : Nat) (A' : Option Addr) (c' : Nat), k ≤ l.length ∧ iv = .int .i64 k ∧ Hid (RvS w O l A c (revK l bag k) A' c' wr)) (fun iv _ => l.length - (intOf iv).toNat)
    case atStart => exact ⟨0, none, 0, Nat.zero_le _, rfl, H0⟩
    case round =>
      obtain ⟨k, A', c', hk, rfl, HP⟩ := hrel
      obtain ⟨wo, rfl⟩ : ∃ wo : World, wo = wr := ⟨_, rfl⟩
      clear H0
      have hz40 := unhide HZ
      have z0 : wo.cell? ⟨w.heap.size, 0, none⟩ = some (.slice A l.length c) := by rw [Lib.cell_of_heap (unhide HP).bx]; rfl
      by_cases hlt : k < l.length
      · have kl : (k : Int) < (l.length : Int) := by omega
        have k0 : (0 : Int) ≤ (k : Int) := by omega
        obtain ⟨g, off, rfl, hgw, hc⟩ := se_at (unhide HL _ (unhide HP).bel) hlt
        obtain ⟨x, hx⟩ : ∃ x, l.getD k se0 = x := ⟨_, rfl⟩
        rw [hx] at hc
        have HXX := hide hx
        have HST := hide (revK_step (bag := bag) hlt hx)
        have HRL := hide (revK_len l bag k)
        obtain ⟨c0, c1⟩ := se_cells hc
        have HCx := hide hc
        have HLT := hide hlt
        clear hc hx hlt
        have HP := hide (unhide HP)
        by_cases hq : x.bag = bag
        · have q1 : (x.bag != bag) = false := by rw [bne_eq_false_iff_eq]; exact hq
          have HE3 := hide (show revK l bag (k + 1) = revK l bag k by rw [unhide HST, if_neg (fun h => h hq)])
          clear hq
          go_wp2
          go_roundw
          case rel => exact ⟨k + 1, A', c', by have := unhide HLT; omega, by go_num, hide (by rw [unhide HE3]; exact unhide HP)⟩
          case measure => simp [intOf]; have := unhide HLT; omega
        · have q1 : (x.bag != bag) = true := by rw [bne_iff_ne]; exact hq
          have HE3 := hide (show revK l bag (k + 1) = revK l bag k ++ [x] by rw [unhide HST, if_pos hq])
          clear hq
          go_upto_region 8 with fail
          have HCe := hide (fun W (hb : Below w.heap.size w W) => (se_cells (x := x) (by
            obtain ⟨g9, off9, e9, _, hc9⟩ := se_at (unhide HL W hb) (unhide HLT)
            injection e9 with e9
            injection e9 with e91 e92
            subst e91; subst e92
            rw [unhide HXX] at hc9
            exact hc9) : W.cell? ⟨g, off + k * 2, none⟩ = some (.int .i64 x.bag) ∧ W.cell? ⟨g, off + k * 2 + 1, none⟩ = some (.int .i64 x.im)))
          have HSf := hide (fun W (hs : RvS w O l (some ⟨g, off, none⟩) c (revK l bag k) A' c' W) => (⟨hs.bx, hs.ox, unhide HCe W hs.bel⟩ : W.heap[w.heap.size]? = some (cusO (some ⟨g, off, none⟩) l.length c) ∧ W.heap[O]? = some (cusO A' (revK l bag k).length c') ∧ W.cell? ⟨g, off + k * 2, none⟩ = some (.int .i64 x.bag) ∧ W.cell? ⟨g, off + k * 2 + 1, none⟩ = some (.int .i64 x.im)))
          have HPd := hide ((unhide HP).below (Below.refl wo.heap.size wo).drew)
          have HSt := hide (unhide HSf _ (unhide HPd))
          refine wp_region_anyZ 10 (fun Z => Z.heap[w.heap.size]? = some (cusO (some ⟨g, off, none⟩) l.length c) ∧ Z.heap[O]? = some (cusO A' (revK l bag k).length c') ∧ Z.cell? ⟨g, off + k * 2, none⟩ = some (.int .i64 x.bag) ∧ Z.cell? ⟨g, off + k * 2 + 1, none⟩ = some (.int .i64 x.im)) (by kernel_rfl) ?_
          refine anyZ_take (i := 0) (v := .pointer (some ⟨O, 0, none⟩)) rfl (by kernel_rfl) (by kernel_rfl) (by kernel_rfl) (by kernel_rfl) (fun _ _ _ h => h) (Or.inl ⟨by rfl, by intro Z _; go_simp⟩) HSt.out ?_
          refine anyZ_take (i := 1) (v := .slice A' (revK l bag k).length c') rfl (by kernel_rfl) (by kernel_rfl) (by kernel_rfl) (by kernel_rfl) (fun _ _ _ h => h) (Or.inl ⟨by rfl, by intro Z hs; have h9 : Z.cell? ⟨O, 0, none⟩ = some (.slice A' (revK l bag k).length c') := (by rw [Lib.cell_of_heap hs.2.1]; rfl); go_simp⟩) HSt.out ?_
          refine anyZ_take (i := 2) (v := .pointer (some ⟨w.heap.size, 0, none⟩)) rfl (by kernel_rfl) (by kernel_rfl) (by kernel_rfl) (by kernel_rfl) (fun _ _ _ h => h) (Or.inl ⟨by rfl, by intro Z _; go_simp⟩) HSt.out ?_
          refine anyZ_take (i := 3) (v := .slice (some ⟨g, off, none⟩) l.length c) rfl (by kernel_rfl) (by kernel_rfl) (by kernel_rfl) (by kernel_rfl) (fun _ _ _ h => h) (Or.inl ⟨by rfl, by intro Z hs; have h9 : Z.cell? ⟨w.heap.size, 0, none⟩ = some (.slice (some ⟨g, off, none⟩) l.length c) := (by rw [Lib.cell_of_heap hs.1]; rfl); go_simp⟩) HSt.out ?_
          go_simp
          refine anyZ_take (i := 4) (v := .int .i64 k) rfl (by kernel_rfl) (by kernel_rfl) (by kernel_rfl) (by kernel_rfl) (fun _ _ _ h => h) (Or.inl ⟨by rfl, by intro Z _; go_simp⟩) HSt.out ?_
          refine anyZ_take (i := 5) (v := .pointer (some ⟨g, off + k * 2, none⟩)) rfl (by kernel_rfl) (by kernel_rfl) (by kernel_rfl) (by kernel_rfl) (fun _ _ _ h => h) (Or.inl ⟨by rfl, by intro Z _; go_simp⟩) HSt.out ?_
          refine anyZ_take (i := 6) (v := Se.v x) rfl (by kernel_rfl) (by kernel_rfl) (by kernel_rfl) (by kernel_rfl) (fun _ _ _ h => h) (Or.inl ⟨by rfl, by intro Z hs; have h8 := hs.2.2.1; have h9 := hs.2.2.2; go_simp⟩) HSt.out ?_
          go_simp
          refine anyZ_one (i := 7) (by kernel_rfl) rfl (fun K hK => ?_)
          rw [if_pos (by rfl)]
          refine wp_build1 25 54 _ rfl (Se.arr x) i0 zz 2 Try.underlying25 (unhide HI0) (unhide HIA) (unhide HIB) (by decide) (by decide) (unhide HID) rfl rfl ?_
          have bx := (Below.refl wo.drew.heap.size wo.drew).alloc (Nat.le_refl _) (.cells (Se.arr x) 54)
          have HK1 := hide (heap_alloc_new wo.drew (.cells (Se.arr x) 54))
          have HP1 := hide ((unhide HPd).below bx)
          refine hK _ _ ⟨fun _ => unhide HSf _ (unhide HP1), ?_⟩
          clear hK K bx
          obtain ⟨wb, hwb⟩ : ∃ wb : World, wo.drew.alloc (.cells (Se.arr x) 54) = wb := ⟨_, rfl⟩
          rw [hwb] at HK1 HP1 ⊢
          clear hwb
          refine anyZ_one (i := 8) (by kernel_rfl) rfl (fun K hK => ?_)
          rw [if_pos (by rfl)]
          refine wp_append_any _ _ 25 rfl (O + 1) 54 i0 zz 2 16 Try.underlying25 (unhide HI0) (unhide HIA) (unhide HIB) (unhide HIC) (unhide HID) (by decide) _ _ _ rfl (unhide HP1).own _ 1 1 (Se.cs x) rfl rfl (fun _ => ⟨wo.drew.heap.size, 0, rfl, fun j u hu => by rw [Nat.zero_add, Lib.cell_of_heap (unhide HK1), ← Array.getElem?_toList]; exact hu⟩) (fun u hu => by simp [Se.cs] at hu; rcases hu with rfl | rfl <;> rfl) (by unfold maxLen; have := unhide HRL; omega) (by have := unhide HRL; omega) (unhide HP1).szO ?_
          intro v2 w2' hown hgrow _
          obtain ⟨A2', c2', rfl⟩ := own_form hown
          obtain ⟨hx2, hp2⟩ := (unhide HP1).push hown hgrow
          have hst2 : w2'.heap[w.heap.size]? = some (cusO (some ⟨g, off, none⟩) l.length c) ∧ w2'.heap[O]? = some (cusO A' (revK l bag k).length c') ∧ w2'.cell? ⟨g, off + k * 2, none⟩ = some (.int .i64 x.bag) ∧ w2'.cell? ⟨g, off + k * 2 + 1, none⟩ = some (.int .i64 x.im) := by
            have hr : ∀ q, (Value.slice A' (revK l bag k).length c').ownBlock = some q → O + 1 ≤ q := fun q e => ((unhide HP1).own.lt q e).1
            have hlo := (unhide HP1).lo
            exact ⟨(hgrow.block _ (Array.getElem?_eq_some_iff.1 (unhide HP1).bx).1 (fun e => by have := hr _ e.symm; omega)).trans (unhide HP1).bx, hx2, unhide HCe _ ((unhide HP1).bel.grown hgrow (unhide HP1).bel.size (fun q e => by have := hr q e; omega))⟩
          have HSt2 := hide hst2
          have HP2 := hide hp2
          have HX2 := hide hx2
          refine hK _ _ ⟨fun _ => unhide HSt2, ?_⟩
          clear hK K hown hgrow hx2 hp2 hst2
          go_simp
          refine anyZ_take (i := 9) (v := .pointer (some ⟨O, 0, none⟩)) rfl (by kernel_rfl) (by kernel_rfl) (by kernel_rfl) (by kernel_rfl) (fun _ _ _ h => h) (Or.inl ⟨by rfl, by intro Z _; go_simp⟩) (unhide HSt2) ?_
          refine anyZ_one (i := 10) (by kernel_rfl) rfl (fun K hK => ?_)
          have cz : w2'.cell? ⟨O, 0, none⟩ = some (.slice A' (revK l bag k).length c') := by rw [Lib.cell_of_heap (unhide HX2)]; rfl
          have fz : w2'.frozen? ⟨O, 0, none⟩ = false := frozen_of_row w2' O 0 _ _ (unhide HX2)
          go_simp
          refine hK _ _ ⟨fun h => absurd rfl h, ?_⟩
          clear hK K cz fz
          refine anyZ_done (by kernel_rfl) ?_ _
          go_simp
          go_wp2
          go_roundw
          case rel => exact ⟨k + 1, A2', c2', by have := unhide HLT; omega, by go_num, hide (by rw [unhide HE3]; exact unhide HP2)⟩
          case measure => simp [intOf]; have := unhide HLT; omega
      · have kl : ¬ (k : Int) < (l.length : Int) := by omega
        obtain rfl : k = l.length := by omega
        have HXo := hide (unhide HP).ox
        have HRs := hide (unhide HP).rs
        have HOo := hide (unhide HP).own
        go_wp2_with (first
          | (refine wpList_loadCu (unhide HXo) rfl _ rfl rfl ?_)
          | (refine wpList_storeCu (A := A') (n := (revK l bag l.length).length) (c := c') (unhide HRs) rfl _ _ rfl rfl rfl ?_))
        refine bodyPost_ret (v := .tuple #[cusV A' (revK l bag l.length).length c', .int .i64 0]) (results_row2' rfl _ _ (w.heap.size + 1) _ _ _ _ _ rfl rfl (setRow_heap wo (w.heap.size + 1) _ #[.slice A' (revK l bag l.length).length c'] _ _ (unhide HRs)) Try.underlying27 rfl infoCu) rfl ?_
        exact givesO_yes (unhide HE2) (unhide HE) (unhide HP).bel (by have := unhide HOl; omega) rfl (unhide HOo)
end Go.Proofs.Ytbjpcajhceapkaa
