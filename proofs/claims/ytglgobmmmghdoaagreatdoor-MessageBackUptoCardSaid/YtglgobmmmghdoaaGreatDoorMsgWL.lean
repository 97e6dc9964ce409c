/-
  Contract of writeList: the passengers in pieces of eight.
-/
import Derived.Test.YtglgobmmmghdoaaGreatDoorMsgCh
namespace Go.Proofs.YtglgobmmmghdoaaGreatDoor
open Go.RowKit Go.Shelf
attribute [local go_sem] Oper.semAt_some

/-- The piece of a list at a number; its parts. -/
def pieceL (l : List Int) (k : Nat) : List Int := (l.drop (8 * k)).take 8
theorem piece_len (l : List Int) (k : Nat) : (pieceL l k).length = chN l.length k := by
  unfold pieceL chN; rw [List.length_take, List.length_drop]
theorem piece_at {l : List Int} {k i : Nat} (hi : i < chN l.length k) : (pieceL l k).getD i 0 = l.getD (8 * k + i) 0 := by
  unfold chN at hi
  unfold pieceL
  rw [List.getD_eq_getElem?_getD, List.getD_eq_getElem?_getD, List.getElem?_take, if_pos (by omega), List.getElem?_drop]
def partsL (l : List Int) (k : Nat) : List ByteArray := (pieceL l k).map three
theorem owns_keepW {base size n : Nat} {e : TypeId} {v : Value} {xs : List Value} {w w' : World} (h : w.ownsRow base e size v n xs) (k : KeepTy e w w') : w'.ownsRow base e size v n xs := by
  refine ⟨h.1, ?_⟩
  rcases h.2 with hn | ⟨g, cap, cur, hv, hbg, hgg, rest⟩
  · exact .inl hn
  · exact .inr ⟨g, cap, cur, hv, hbg, k _ _ _ hgg, rest⟩
/-- Between two pieces. -/
structure Wlx (w0 : World) (b : Nat) (l : List Int) (pre : List Nat) (xs : List PsS) (A : Option Addr) (c : Nat) (W : World) : Prop where
  box : Boxed W w0.heap.size 67 (.slice A xs.length c)
  map : xs.map (·.1) = pre.map (partsL l)
  pts : Pts w0 b (w0.heap.size + 3) A c xs W
def Wli (w0 : World) (b : Nat) (l : List Int) (pre : List Nat) (W : World) : Prop := ∃ (xs : List PsS) (A : Option Addr) (c : Nat), Wlx w0 b l pre xs A c W
section
variable {w0 W W' : World} {b c : Nat} {l : List Int} {pre : List Nat} {xs : List PsS} {A : Option Addr}
theorem Wlx.turn (h : Wlx w0 b l pre xs A c W) {row : Option Nat} (hg : W.grownBy W' row) (hr : ∀ r, row = some r → w0.heap.size ≤ r ∧ ∃ o : Obj, W.heap[r]? = some o ∧ o.isCells = false) : Wlx w0 b l pre xs A c W' := by
  have key : ∀ (g : Nat) (cs : Array Value) (t : TypeId) (fz : Nat × Nat), W.heap[g]? = some (Obj.cells cs t fz) → W'.heap[g]? = some (Obj.cells cs t fz) := fun g cs t fz h => by
    refine (hg.block g (Array.getElem?_eq_some_iff.1 h).1 (fun e => ?_)).trans h
    obtain ⟨_, o, ho, hc⟩ := hr g e.symm
    rw [h] at ho
    cases ho
    cases hc
  have hp := h.pts
  refine ⟨key _ _ _ _ h.box, h.map, ?_, ?_, fun x hx => (hp.fin x hx).step (fun g cs fz h _ => key g cs _ fz h), hp.hb, hp.lB, Nat.le_trans hp.sz hg.size⟩
  · exact hp.bel.grown hg hp.bel.size (fun k e => (hr k e).1)
  · exact owns_keepW hp.own (fun g cs fz h => key g cs _ fz h)
theorem wli_own {D : Nat} (hD : w0.heap.size ≤ D) : OwnFrom D (Wli w0 b l) := fun _ _ _ _ ⟨xs, P, c, h⟩ hg hr =>
  ⟨xs, P, c, h.turn hg (fun r e => ⟨Nat.le_trans hD (hr r e).1, (hr r e).2⟩)⟩
theorem Wlx.below (h : Wlx w0 b l pre xs A c W) (hb : Below W.heap.size W W') : Wlx w0 b l pre xs A c W' :=
  ⟨(hb.block _ h.box.lt).trans h.box, h.map, h.pts.below hb⟩
theorem keeps_below (hb : Below W.heap.size W W') : KeepsOthers W W' := ⟨hb.size, fun k _ hk _ => (hb.block k (Array.getElem?_eq_some_iff.1 hk).1).trans hk⟩
/-- A piece more: what is kept, and the box. -/
theorem Wlx.push {w1 : World} (h : Wlx w0 b l pre xs A c W) {x n5 c5 q cap : Nat} {A5 : Option Addr} (hp : StrRow b W A5 (partsL l x)) (hn : n5 = (partsL l x).length)
    (hown : w1.ownsRow (w0.heap.size + 3) 53 1 (.slice (some ⟨q, 0, none⟩) (xs.length + 1) cap) (xs.length + 1) (xs.map psCell ++ [.slice A5 n5 c5]))
    (hgrow : (W.alloc (.cells #[.slice A5 n5 c5] 53)).grownBy w1 (Value.slice A xs.length c).ownBlock) :
    Boxed w1 w0.heap.size 67 (.slice A xs.length c) ∧ KeepsOthers W (w1.setCell ⟨w0.heap.size, 0, none⟩ (.slice (some ⟨q, 0, none⟩) (xs.length + 1) cap)) ∧
      KpX w0.heap.size (w0.heap.size + 3) W (w1.setCell ⟨w0.heap.size, 0, none⟩ (.slice (some ⟨q, 0, none⟩) (xs.length + 1) cap)) ∧
      Wlx w0 b l (pre ++ [x]) (xs ++ [(partsL l x, A5, c5)]) (some ⟨q, 0, none⟩) cap (w1.setCell ⟨w0.heap.size, 0, none⟩ (.slice (some ⟨q, 0, none⟩) (xs.length + 1) cap)) := by
  subst hn
  have hrow := h.pts.own
  have hsz := h.pts.sz
  have hne : 67 ≠ 53 := by decide
  have hv1 : Boxed w1 w0.heap.size 67 (.slice A xs.length c) := (h.box.alloc _).kept hgrow (h.box.not_row hne hrow)
  have ba : Below W.heap.size W (W.alloc (.cells #[.slice A5 (partsL l x).length c5] 53)) := (Below.refl _ _).alloc (Nat.le_refl _) _
  have hP1 := (h.pts.below ba).push (x := (partsL l x, A5, c5)) (hp.step (KeepS.below ba)) hown hgrow
  have hblk : ∀ k, (Value.slice A xs.length c).ownBlock = some k → w0.heap.size + 3 ≤ k := fun k e => (hrow.lt k e).1
  have hgs := grownBy_setCell' w1 w0.heap.size (.slice (some ⟨q, 0, none⟩) (xs.length + 1) cap)
  refine ⟨hv1, ?_, fun k hk hk0 => ?_, ?_, ?_, ?_⟩
  · refine ((KeepsOthers.alloc W _).trans (KeepsOthers.of_grownBy hgrow fun j o ej hj => ?_)).trans (KeepsOthers.setCell _ _ _)
    rcases (hrow.alloc (.cells #[.slice A5 (partsL l x).length c5] 53)).2 with ⟨hv, _⟩ | ⟨g, cap', cur, hv, _, hgb, _⟩
    · rw [hv] at ej; simp [Value.ownBlock] at ej
    · rw [hv] at ej
      obtain rfl : g = j := by simpa [Value.ownBlock] using ej
      rw [hgb] at hj; cases hj; rfl
  · have hkw : k < W.heap.size := by omega
    refine (hgs.block k (Nat.lt_of_lt_of_le hkw (Nat.le_trans ba.size hgrow.size)) (by simpa using hk0)).trans ((hgrow.block k (Nat.lt_of_lt_of_le hkw ba.size) (fun e => ?_)).trans (ba.block k hkw))
    have := hblk k e.symm
    omega
  · rw [List.length_append]; exact hv1.set _
  · rw [List.map_append, List.map_append, h.map]; rfl
  · have hb0 : w0.heap.size ≤ w1.heap.size := hP1.bel.size
    have hKs : KeepTy 9 w1 (w1.setCell ⟨w0.heap.size, 0, none⟩ (.slice (some ⟨q, 0, none⟩) (xs.length + 1) cap)) := KeepTy.other hgs hv1 (by decide)
    have hKr : KeepTy 53 w1 (w1.setCell ⟨w0.heap.size, 0, none⟩ (.slice (some ⟨q, 0, none⟩) (xs.length + 1) cap)) := KeepTy.other hgs hv1 (by decide)
    exact ⟨hP1.bel.setCell (p := ⟨w0.heap.size, 0, none⟩) (Nat.le_refl _) _, owns_keepW hP1.own hKr, fun y hy => (hP1.fin y hy).step (hKs.s b), hP1.hb, hP1.lB, Nat.le_trans hP1.sz hgs.size⟩
end

set_option maxRecDepth 100000 in
set_option maxHeartbeats 8000000 in
theorem wlist_any (b : Nat) (l : List Int) (A : Option Addr) (c : Nat) (w : World) (hb : b < w.heap.size) (hz : l.length ≤ 1000) (hr : ∀ v ∈ l, 0 ≤ v ∧ v ≤ 999) (h : NumsIn b w A l) (hc : l.length ≤ c) :
    Calls Tryz.prog 49 #[.slice A l.length c] w (Writes b w ((List.range (nCh l.length)).map (partsL l))) := by
  obtain ⟨bb, off, hA⟩ : ∃ bb off, 0 < l.length → A = some ⟨bb, off, none⟩ ∧ ∀ i, i < l.length → w.cell? ⟨bb, off + i, none⟩ = some (.int .i64 (l.getD i 0)) := by
    rcases Nat.eq_zero_or_pos l.length with e | e
    · exact ⟨0, 0, fun h' => by omega⟩
    · obtain ⟨g, off, hA, _, hcs⟩ := h e
      exact ⟨g, off, fun _ => ⟨hA, hcs⟩⟩
  refine (callsIn_wide (n := 6)).1 ?_
  refine callsIn_of_wp_marks Tryz.func49 rfl trivial ?_ rfl
  simp only [Tryz.ntmps49, List.size_toArray, List.length_cons, List.length_nil, Nat.reduceAdd, Nat.reduceSub, Array.replicate_succ, Array.replicate_zero, List.push_toArray, List.append_toArray, List.nil_append, List.cons_append]
  gi_wp2_with (refine ⟨trivial, ?_⟩; refine (chunk_in Fence.wide 5 trivial rfl _ _ _ _).mono ?_; rintro e w' ⟨rfl, rfl⟩)
  obtain ⟨W1, hW1⟩ : ∃ W1 : World, ((w.alloc (.cells #[.slice none 0 0] 67)).alloc (.cells #[.slice A l.length c] 22)).alloc (.cells #[.int .i64 8] 3) = W1 := ⟨_, rfl⟩
  have sz : W1.heap.size = w.heap.size + 3 := by rw [← hW1, World.size_alloc, World.size_alloc, World.size_alloc]
  have b1 : Below w.heap.size w W1 := by rw [← hW1]; exact below_new (below_new ((Below.refl _ _).alloc (Nat.le_refl _) _) _) _
  have bB : Boxed W1 w.heap.size 67 (.slice none 0 0) := by rw [← hW1]; exact ((Boxed.new w _ _).alloc _).alloc _
  have cS : W1.cell? ⟨w.heap.size + 1, 0, none⟩ = some (.slice A l.length c) := by
    have := ((Boxed.new (w.alloc (.cells #[.slice none 0 0] 67)) 22 (.slice A l.length c)).alloc (.cells #[.int .i64 8] 3)).cell
    rw [World.size_alloc, hW1] at this
    exact this
  have cN : W1.cell? ⟨w.heap.size + 2, 0, none⟩ = some (.int .i64 8) := by
    have := (Boxed.new ((w.alloc (.cells #[.slice none 0 0] 67)).alloc (.cells #[.slice A l.length c] 22)) 3 (.int .i64 8)).cell
    rw [World.size_alloc, World.size_alloc, hW1] at this
    exact this
  rw [hW1]
  clear hW1
  refine wpIn_rangeFunc_ownG rfl (by decide) (gf := 92) (lb := #[.pointer (some ⟨w.heap.size + 1, 0, none⟩), .pointer (some ⟨w.heap.size + 2, 0, none⟩)]) rfl trivial (enters_of Tryz.func92 (by kernel_rfl) rfl)
    (chunk_stops Fence.wide 5 trivial rfl (by decide) (w.heap.size + 1) (w.heap.size + 2) w.heap.size (w.heap.size + 3) l.length c A bb off (fun h' => (hA h').1) hz hc (by omega) (by omega) (by omega) (by omega) W1 (by omega) (by omega) cS cN)
    kpX_t (kpX_b (by omega)) (Below.refl _ _) (fun _ => rfl)
    (Wli w b l) (fun _ _ _ => False) (wli_own (by omega)) (fun _ _ _ _ _ hs _ _ => hs)
    ⟨[], none, 0, bB, rfl, ⟨b1, World.ownsRow_nil _ _ _ _, (fun _ h' => by cases h'), by omega, by omega, by omega⟩⟩
    (fun x => { tmps := #[.slice A l.length c, undef, .slice none 0 0, .pointer (some ⟨w.heap.size, 0, none⟩), chV bb off l.length x, undef, undef, undef, .slice A l.length c, .func (.func 92) #[] #[.pointer (some ⟨w.heap.size + 1, 0, none⟩), .pointer (some ⟨w.heap.size + 2, 0, none⟩)], chV bb off l.length x, undef, undef, undef, undef, undef, undef, undef, undef, undef, undef, undef, undef, undef, undef, undef, undef, undef], defers := [] }) ?assign ?body ?done ?stop
  case assign =>
    intro l' x W K hK
    gi_wp2
    exact hK
  case body =>
    rintro l' pre x W ⟨xs, A', c', hX⟩ hlt
    have hN8 : chN l.length x ≤ 8 := by unfold chN; omega
    have hpx := piece_len l x
    have hel : ∀ wr, Below W.heap.size W wr → ∀ i, i < chN l.length x → wr.cell? ⟨bb, off + 8 * x + i, none⟩ = some (.int .i64 ((pieceL l x).getD i 0)) := fun wr hbw i hi => by
      have hi2 : 8 * x + i < l.length := by unfold chN at hi; omega
      have h0 := (hA (by omega)).2 (8 * x + i) hi2
      rw [piece_at hi, Nat.add_assoc]
      exact kept (onward hX.pts.bel hbw) h0
    have hrg : ∀ i, i < chN l.length x → 0 ≤ (pieceL l x).getD i 0 ∧ (pieceL l x).getD i 0 ≤ 999 := fun i hi => by
      have hi2 : 8 * x + i < l.length := by unfold chN at hi; omega
      rw [piece_at hi, at_k hi2]
      exact hr _ (List.getElem_mem _)
    have hxl : xs.length ≤ 1000 := by
      have e := congrArg List.length hX.map
      simp only [List.length_map] at e
      unfold nCh at hlt
      omega
    obtain ⟨i0, hi, hz0, hz1, hz2⟩ := info_parts info_strE
    obtain ⟨j0, hj, hy0, hy1, hy2⟩ := info_parts info_ps
    have HI0 := hide hi
    have HZ0 := hide hz0
    have HZ1 := hide hz1
    have HZ2 := hide hz2
    have HJ0 := hide hj
    have HY0 := hide hy0
    have HY1 := hide hy1
    have HY2 := hide hy2
    have HX := hide hX
    have HEL := hide hel
    have HRG := hide hrg
    have HPX := hide hpx
    have HHH := hide h
    have HR := hide hr
    have HA := hide hA
    clear hX hel hrg hpx h hr hA hi hz0 hz1 hz2 hj hy0 hy1 hy2 cS cN bB b1 sz
    simp only [chV]
    generalize chN l.length x = M at *
    gi_wp2
    gi_loopw [5, 13] (fun v i wr => ∃ (k : Nat) (A5 : Option Addr) (c5 : Nat), k ≤ M ∧ i = .int .i64 k ∧ v = .slice A5 k c5 ∧ Hid (wr.ownsRow W.heap.size 9 1 (.slice A5 k c5) k (((pieceL l x).take k).map fun n => Value.string (three n)) ∧ Below W.heap.size W wr)) (fun _ i _ => M - (intOf i).toNat)
    case atStart => exact ⟨0, none, 0, Nat.zero_le _, rfl, rfl, Lib.hid ⟨World.ownsRow_nil _ _ _ _, Below.refl _ _⟩⟩
    case round =>
      obtain ⟨k, A5, c5, hk, rfl, rfl, HP⟩ := hrel
      by_cases hlt' : k < M
      · have kl : (k : Int) < (M : Int) := by omega
        have ce := unhide HEL wr HP.out.2 k hlt'
        obtain ⟨r0, r1⟩ := unhide HRG k hlt'
        have HST := hide (show (pieceL l x).take (k + 1) = (pieceL l x).take k ++ [(pieceL l x).getD k 0] by
          rw [List.take_succ_eq_append_getElem (by rw [unhide HPX]; exact hlt'), at_k (by rw [unhide HPX]; exact hlt')])
        generalize (pieceL l x).getD k 0 = nn at *
        gi_wp2_with (first
          | (refine ⟨trivial, ?_⟩; refine (CallsIn.inRound l' (callsIn_wide.2 (three_any nn wr (by omega) (by omega)))).mono ?_; rintro e w2 ⟨rfl, hb2⟩; have hb3 := (Below.refl w2.heap.size w2).alloc (Nat.le_refl _) (.cells #[.string (three nn)] 9); have hB3 := onward (onward HP.out.2 hb2) hb3; have HB3 := hide hB3; have HO3 := hide (owns_below (owns_below HP.out.1 hb2) hb3); have HN := hide (World.news_of_block (heap_alloc_new w2 (.cells #[.string (three nn)] 9))); have hz3 := hB3.size; clear hb2 hb3 hB3)
          | (gi_at_builtin; refine wpListIn_append_own _ rfl _ _ 53 rfl W.heap.size 9 i0 (.string ByteArray.empty) 1 16 Tryz.underlying53 (unhide HI0) (unhide HZ0) (unhide HZ1) (unhide HZ2) rfl (by decide) _ _ _ rfl (unhide HO3) ⟨w2.heap.size, 0, none⟩ 1 1 [.string (three nn)] rfl rfl (unhide HN) (fun u hu => by rw [List.mem_singleton.1 hu]; rfl) (by unfold maxLen; omega) (by omega) hz3 ?_; intro v' w6 hown hgrow _; obtain ⟨q, cap', rfl⟩ := ownsRow_succ hown; have HB6 := hide ((unhide HB3).grown hgrow hz3 (fun k hk => ((unhide HO3).lt k hk).1)); have HO6 := hide hown; clear hown hgrow))
        go_roundw
        case rel => exact ⟨k + 1, some ⟨q, 0, none⟩, cap', by omega, by go_num, rfl, Lib.hid ⟨by rw [unhide HST, List.map_append]; exact unhide HO6, unhide HB6⟩⟩
        case measure => simp [intOf]; omega
      · have kl : ¬ (k : Int) < (M : Int) := by omega
        obtain rfl : k = M := by omega
        have hXr := (unhide HX).below HP.out.2
        have hcv := hXr.box.cell
        have hpt : StrRow b wr A5 (partsL l x) := by
          have e1 : ((pieceL l x).take k).map (fun n => Value.string (three n)) = (partsL l x).map Value.string := by
            rw [List.take_of_length_le (by rw [unhide HPX]; omega)]; unfold partsL; rw [List.map_map]; rfl
          have e2 : (partsL l x).length = k := by unfold partsL; rw [List.length_map]; exact unhide HPX
          have := HP.out.1
          rw [e1] at this
          refine StrRow.own (base := W.heap.size) (cap := c5) ?_ (Nat.lt_of_lt_of_le (unhide HX).pts.hb (unhide HX).pts.sz)
          rw [e2]
          exact this
        have HPT := hide hpt
        have HKL := hide (show k = (partsL l x).length by unfold partsL; rw [List.length_map]; exact (unhide HPX).symm)
        have HXR := hide hXr
        have ba := (Below.refl wr.heap.size wr).alloc (Nat.le_refl _) (.cells #[.slice A5 k c5] 53)
        have HO3 := hide (owns_below hXr.pts.own ba)
        have HN := hide (World.news_of_block (heap_alloc_new wr (.cells #[.slice A5 k c5] 53)))
        have hz3 : w.heap.size + 3 ≤ (wr.alloc (.cells #[.slice A5 k c5] 53)).heap.size := Nat.le_trans hXr.pts.sz ba.size
        clear hXr hpt ba
        gi_wp2_with (gi_at_builtin; refine wpListIn_append_own _ rfl _ _ 67 rfl (w.heap.size + 3) 53 j0 (.slice none 0 0) 1 24 Tryz.underlying67 (unhide HJ0) (unhide HY0) (unhide HY1) (unhide HY2) rfl (by decide) _ _ _ rfl (unhide HO3) ⟨wr.heap.size, 0, none⟩ 1 1 [.slice A5 k c5] rfl rfl (unhide HN) (fun u hu => by rw [List.mem_singleton.1 hu]; rfl) (by unfold maxLen; omega) (by omega) hz3 ?_; intro v' w6 hown hgrow _; obtain ⟨q, cap', rfl⟩ := ownsRow_succ hown; obtain ⟨hv1, hk2, hx2, hW2⟩ := (unhide HXR).push (x := x) (unhide HPT) (unhide HKL) hown hgrow; have hc1 := hv1.cell; have hf1 := hv1.frozen; have HK2 := hide hk2; have HX2 := hide hx2; have HW2 := hide hW2; clear hown hgrow hk2 hx2 hW2 hv1)
        have h3 := (unhide HX).pts.sz
        exact ⟨((keeps_below HP.out.2).trans (unhide HK2)).from _, kpX_t (fun k' hk' _ => HP.out.2.block k' (by omega)) (unhide HX2), _, _, _, unhide HW2⟩
  case done =>
    rintro D ys W hD rfl ⟨xs, A', c', hX⟩ hK
    have hcv := hX.box.cell
    have hm := hX.map
    have hX2 := hX.turn (grownBy_putObj' W D (.deferred none)) (fun r e => by cases e; exact ⟨by omega, _, hK, rfl⟩)
    have HX2 := hide hX2
    have HM := hide hm
    clear hX hm hX2
    gi_wp2
    refine ⟨by simp, .inl ⟨_, _, rfl, run_takeDeferred hK, ?_⟩⟩
    have hl2 := congrArg List.length (unhide HM)
    rw [List.length_map] at hl2
    exact ⟨_, results_tmp rfl _ _ _, A', c', by show Ending.returned (.slice A' xs.length c') = _; rw [hl2], by rw [← unhide HM]; exact (unhide HX2).pts.parts, (unhide HX2).pts.bel⟩
  case stop =>
    rintro D cc pre W _ _ h' _
    exact h'.elim

theorem piece_succ (l : List Int) (k : Nat) : pieceL l (k + 1) = pieceL (l.drop 8) k := by
  unfold pieceL
  rw [List.drop_drop, show 8 * (k + 1) = 8 + 8 * k by omega]
theorem chunks_eq : ∀ (f : Nat) (l : List Int), l.length ≤ f → chunks f l = (List.range (nCh l.length)).map (pieceL l) := by
  intro f
  induction f with
  | zero =>
    intro l h
    obtain rfl : l = [] := List.eq_nil_of_length_eq_zero (by omega)
    rfl
  | succ f ih =>
    intro l h
    unfold chunks
    by_cases h0 : l.length = 0
    · rw [if_pos h0, h0]; rfl
    · rw [if_neg h0, ih (l.drop 8) (by rw [List.length_drop]; omega)]
      have e : nCh l.length = nCh (l.drop 8).length + 1 := by rw [List.length_drop]; unfold nCh; omega
      rw [e, List.range_succ_eq_map, List.map_cons, List.map_map]
      refine congr (congrArg List.cons ?_) ?_
      · unfold pieceL; rw [Nat.mul_zero, List.drop_zero]
      · refine List.map_congr_left fun k _ => ?_
        exact (piece_succ l k).symm
theorem lstP_eq (l : List Int) : lstP l = (List.range (nCh l.length)).map (partsL l) := by
  unfold lstP
  rw [chunks_eq l.length l (Nat.le_refl _), List.map_map]
  rfl

set_option maxHeartbeats 4000000 in
set_option maxRecDepth 100000 in
theorem wr_66 (b : Nat) (m : Msg) (A L : Option Addr) (c d : Nat) (w : World) (hb : b < w.heap.size) (hz : m.lst.length ≤ 1000) (hg : m.lst.all seqB = true) (h2 : NumsIn b w L m.lst) (hd : m.lst.length ≤ d) :
    Calls Tryz.prog 22 #[msgV m A c L d, .int .i32 66] w (Writes b w (writeP m 66)) := by
  have HV := hide (show writeP m 66 = lstP m.lst from rfl)
  have b0 := (Below.refl w.heap.size w).alloc (Nat.le_refl _) (msgO m A c L d)
  have HC := hide (wlist_any b m.lst L d (w.alloc (msgO m A c L d)) (by rw [World.size_alloc]; omega) hz (fun v hv => by
    have := inB_iff.1 (show inB v 1 999 = true from List.all_eq_true.1 hg v hv)
    omega) (h2.keep b0) hd)
  have HB0 := hide b0
  clear hb hg h2 b0 hz hd
  go_enter Tryz.func22, Tryz.ntmps22
  go_wp2_with (go_at_call 49; refine (unhide HC).mono ?_; rintro e w2 ⟨A2, c2, rfl, hp2, hb2⟩; have HB2 := hide ((unhide HB0).trans (hb2.mono (unhide HB0).size)); have HP2 := hide hp2; clear hb2 hp2)
  go_ret
  rw [unhide HV, lstP_eq]
  exact ⟨_, _, by rw [List.length_map, List.length_range]; rfl, unhide HP2, unhide HB2⟩
end Go.Proofs.YtglgobmmmghdoaaGreatDoor
