/-
  Strips (layer 9): contract of the bags of a strip: slices.Backward hands on the windows from the last one to the first.
-/
import Derived.Test.YtfddpdognelhmaaKpX
import Derived.Test.YtfddpdognelhmaaStrB
namespace Go.Proofs.Ytfddpdognelhmaa
open Go.RowKit Go.Shelf
attribute [local go_sem] Oper.semAt_some

/-- The first j numbers of n, from the greatest one down. -/
def dnN (n : Nat) : Nat → List Nat
  | 0 => []
  | j + 1 => dnN n j ++ [n - 1 - j]
theorem dnN_len (n : Nat) : ∀ j, (dnN n j).length = j
  | 0 => rfl
  | j + 1 => by rw [dnN, List.length_append, dnN_len n j]; rfl
/-- The bags of some windows. -/
def sPf (s : List Int) (pre : List Nat) : List Int := sNz (pre.map fun k => s.getD k 0)
theorem sPf_snoc (s : List Int) (pre : List Nat) (k : Nat) : sPf s (pre ++ [k]) = sPf s pre ++ if s.getD k 0 = 0 then [] else [s.getD k 0] := by
  unfold sPf sNz
  rw [List.map_append, List.filter_append, List.map_singleton]
  by_cases h0 : s.getD k 0 = 0
  · rw [if_pos h0, List.filter_cons_of_neg (by rw [h0]; simp)]; rfl
  · rw [if_neg h0, List.filter_cons_of_pos (by simpa using h0)]; rfl
theorem sPf_len (s : List Int) (pre : List Nat) : (sPf s pre).length ≤ pre.length := by
  unfold sPf sNz
  exact Nat.le_trans (List.length_filter_le _ _) (by rw [List.length_map]; exact Nat.le_refl _)
theorem sPf_dn (s : List Int) : ∀ j, j ≤ s.length → sPf s (dnN s.length j) = sBk s (s.length - j)
  | 0, _ => by rw [Nat.sub_zero, sBk_end]; rfl
  | j + 1, h => by
    rw [dnN, sPf_snoc, sPf_dn s j (by omega), show s.length - j = (s.length - 1 - j) + 1 by omega, show s.length - (j + 1) = s.length - 1 - j by omega, sBk_step (k := s.length - 1 - j) (by omega)]
theorem sPf_all (s : List Int) : sPf s (dnN s.length s.length) = sBags s := by
  rw [sPf_dn s _ (Nat.le_refl _), Nat.sub_self, sBk_all]
/-- A window: its number and what is in it. -/
def winV (s : List Int) (k : Nat) : Array Value := #[.int .i64 (k : Int), .int .i64 (s.getD k 0)]

set_option maxRecDepth 100000 in
set_option maxHeartbeats 4000000 in
theorem back1_in (F : Fence) (n : Nat) (hf : F.fn 32) (hro : F.round = none) (hn : 1 ≤ n) (y Bs B0 n₀ cap : Nat) (A : Option Addr) (s : List Int) (hlen : s.length ≤ 1000000) (hs : Bs < n₀) (hs0 : Bs ≠ B0) (J Jx : List Nat → World → Prop)
    (hY : ∀ pre x W, J pre W → pre.length < s.length → YieldAt F (n - 1) Try.prog y (winV s x) W fun e W' =>
      (e = .returned (.bool true) ∧ J (pre ++ [x]) W' ∧ KpX B0 n₀ W W') ∨ (e = .returned (.bool false) ∧ Jx (pre ++ [x]) W'))
    (W : World) (hBs : W.cell? ⟨Bs, 0, none⟩ = some (.slice A s.length cap)) (hc : 0 < s.length → ∃ g off, A = some ⟨g, off, none⟩ ∧ g < n₀ ∧ g ≠ B0 ∧ ∀ i, i < s.length → W.cell? ⟨g, off + i, none⟩ = some (.int .i64 (s.getD i 0))) (h0 : J [] W) :
    CallsIn F n Try.prog 32 #[.func (.yield y) #[] #[], .pointer (some ⟨Bs, 0, none⟩)] W fun e W' => (∃ v, e = .returned v) ∧
      ((∃ ys, ys = dnN s.length s.length ∧ J ys W') ∨ (∃ pre, True ∧ Jx pre W')) := by
  have HC := hide hc
  have s1 : IntKind.i64.wrap ((s.length : Int) - 1) = (s.length : Int) - 1 := IntWalk.i64_in _ (by omega)
  clear hc
  refine callsIn_of_wp Try.func32 rfl hf ?_ hro
  simp only [Try.ntmps32, List.size_toArray, List.length_cons, List.length_nil, Nat.reduceAdd, Nat.reduceSub, Array.replicate_succ, Array.replicate_zero, List.push_toArray, List.append_toArray, List.nil_append, List.cons_append]
  gi_wp2
  gi_loopw [3] (fun i wr => ∃ j : Nat, j ≤ s.length ∧ i = .int .i64 ((s.length : Int) - 1 - (j : Int)) ∧ Hid (J (dnN s.length j) wr) ∧ Hid (KpX B0 n₀ W wr))
    (fun i _ => (intOf i + 1).toNat)
  case atStart => exact ⟨0, Nat.zero_le _, by simp, Lib.hid h0, Lib.hid kpX_refl⟩
  case round =>
    obtain ⟨j, hj, rfl, hJs, hnx⟩ := hrel
    have c1 := (hnx.out.cell hs hs0).trans hBs
    by_cases hlt : j < s.length
    · obtain ⟨k, hk⟩ : ∃ k, k + 1 + j = s.length := ⟨s.length - 1 - j, by omega⟩
      have ek : (s.length : Int) - 1 - (j : Int) = (k : Int) := by omega
      have ek' : s.length - 1 - j = k := by omega
      rw [ek]
      obtain ⟨g, off, rfl, hg, hg0, hcs⟩ := unhide HC (by omega)
      have c2 := (hnx.out.cell hg hg0).trans (hcs k (by omega))
      have k0 : (0 : Int) ≤ (k : Int) := by omega
      have kl : (k : Int) < (s.length : Int) := by omega
      have s2 : IntKind.i64.wrap ((k : Int) - 1) = (k : Int) - 1 := IntWalk.i64_in _ (by omega)
      obtain ⟨fn, tmps, assign, body, hy, hR⟩ := hY _ k wr hJs.out (by rw [dnN_len]; exact hlt)
      unfold winV at hy
      generalize s.getD k 0 = x at *
      have HD := hide (show dnN s.length (j + 1) = dnN s.length j ++ [k] by rw [dnN, ek'])
      have HK := hide (show (k : Int) - 1 = (s.length : Int) - 1 - ((j + 1 : Nat) : Int) by omega)
      clear ek ek' hk
      gi_wp2
      refine hR.mono ?_
      rintro e W3 (⟨rfl, hJ3, hk3⟩ | ⟨rfl, hJx3⟩)
      · have HJ3 := hide hJ3
        have HK3 := hide (kpX_t hnx.out hk3)
        clear hJ3 hk3 hnx hJs
        gi_wp2
        go_roundw
        case rel => exact ⟨j + 1, by omega, by rw [unhide HK], by rw [unhide HD]; exact Lib.hid (unhide HJ3), Lib.hid (unhide HK3)⟩
        case measure => simp [intOf] <;> omega
      · gi_wp2
        refine bodyPost_ret (results_none rfl _ _ _) rfl ?_
        exact ⟨⟨_, rfl⟩, .inr ⟨_, trivial, hJx3⟩⟩
    · obtain rfl : j = s.length := by omega
      have k0 : ¬ (0 : Int) ≤ (s.length : Int) - 1 - (s.length : Int) := by omega
      gi_wp2
      go_end0
      first | exact hJs.out | exact ⟨⟨_, rfl⟩, .inl hJs.out⟩ | exact ⟨⟨_, rfl⟩, .inl ⟨_, rfl, hJs.out⟩⟩

set_option maxHeartbeats 1000000 in
/-- slices.Backward: the slice is boxed; the function value captures the box. -/
theorem back_in (F : Fence) (n : Nat) (hf : F.fn 30) (hro : F.round = none) (a : Option Addr) (len cap : Nat) (w : World) :
    CallsIn F n Try.prog 30 #[.slice a len cap] w fun e w' => e = .returned (.func (.func 32) #[] #[.pointer (some ⟨w.heap.size, 0, none⟩)]) ∧ w' = w.alloc (.cells #[.slice a len cap] 22) := by
  refine callsIn_of_wp Try.func30 rfl hf ?_ hro
  simp only [Try.ntmps30, List.size_toArray, List.length_cons, List.length_nil, Nat.reduceAdd, Nat.reduceSub, Array.replicate_succ, Array.replicate_zero, List.push_toArray, List.append_toArray, List.nil_append, List.cons_append]
  gi_wp2
  go_ret
  exact ⟨rfl, rfl⟩

theorem back_stops (F : Fence) (n : Nat) (hf : F.fn 32) (hro : F.round = none) (hn : 1 ≤ n) (Bs B0 n₀ cap : Nat) (A : Option Addr) (s : List Int) (hlen : s.length ≤ 1000000) (hs : Bs < n₀) (hs0 : Bs ≠ B0)
    (w : World) (hsw : Bs < w.heap.size) (hBs : w.cell? ⟨Bs, 0, none⟩ = some (.slice A s.length cap)) (hc : 0 < s.length → ∃ g off, A = some ⟨g, off, none⟩ ∧ g < n₀ ∧ g ≠ B0 ∧ ∀ i, i < s.length → w.cell? ⟨g, off + i, none⟩ = some (.int .i64 (s.getD i 0))) :
    SeqStopsK F n Try.prog 32 #[.pointer (some ⟨Bs, 0, none⟩)] (winV s) (KpX B0 n₀) (fun ys => ys = dnN s.length s.length) (fun _ => True) s.length w := fun l J Jx W hW _ _ hY h0 =>
  back1_in F n hf hro hn l Bs B0 n₀ cap A s hlen hs hs0 J Jx hY W ((hW.cell (p := ⟨Bs, 0, none⟩) hsw).trans hBs) (fun h => by
    obtain ⟨g, off, hA, hg, hg0, hcs⟩ := hc h
    refine ⟨g, off, hA, hg, hg0, fun i hi => ?_⟩
    exact (hW.cell (World.block_lt_of_cell? w _ (hcs i hi))).trans (hcs i hi)) h0

/-- Between two windows. -/
structure BgS (w0 : World) (s : List Int) (pre : List Nat) (A : Option Addr) (c : Nat) (W : World) : Prop where
  box : Boxed W w0.heap.size 22 (.slice A (sPf s pre).length c)
  row : W.ownsRow (w0.heap.size + 2) 3 1 (.slice A (sPf s pre).length c) (sPf s pre).length ((sPf s pre).map (Value.int .i64))
  bel : Below w0.heap.size w0 W
  sz : w0.heap.size + 2 ≤ W.heap.size
def Bgs (w0 : World) (s : List Int) (pre : List Nat) (W : World) : Prop := ∃ (A : Option Addr) (c : Nat), BgS w0 s pre A c W
theorem BgS.turn {w0 W W' : World} {s : List Int} {pre : List Nat} {A : Option Addr} {c : Nat} (h : BgS w0 s pre A c W) {row : Option Nat} (hg : W.grownBy W' row) (hr : ∀ r, row = some r → w0.heap.size ≤ r ∧ ∃ o : Obj, W.heap[r]? = some o ∧ o.isCells = false) : BgS w0 s pre A c W' := by
  have key : ∀ (g : Nat) (cs : Array Value) (t : TypeId) (fz : Nat × Nat), W.heap[g]? = some (Obj.cells cs t fz) → W'.heap[g]? = some (Obj.cells cs t fz) := fun g cs t fz h => by
    refine (hg.block g (Array.getElem?_eq_some_iff.1 h).1 (fun e => ?_)).trans h
    obtain ⟨_, o, ho, hc⟩ := hr g e.symm
    rw [h] at ho
    cases ho
    cases hc
  refine ⟨key _ _ _ _ h.box, ⟨h.row.1, ?_⟩, h.bel.grown hg h.bel.size (fun k e => (hr k e).1), Nat.le_trans h.sz hg.size⟩
  rcases h.row.2 with hn | ⟨g, cap, cur, hv, hbg, hgg, rest⟩
  · exact .inl hn
  · exact .inr ⟨g, cap, cur, hv, hbg, key _ _ _ _ hgg, rest⟩
theorem bgs_own {w0 : World} {s : List Int} {D : Nat} (hD : w0.heap.size ≤ D) : OwnFrom D (Bgs w0 s) := fun _ _ _ _ ⟨A, c, h⟩ hg hr =>
  ⟨A, c, h.turn hg (fun r e => ⟨Nat.le_trans hD (hr r e).1, (hr r e).2⟩)⟩
/-- A bag more: what is kept, and the box. -/
theorem BgS.push {w0 W w1 : World} {s : List Int} {pre : List Nat} {A : Option Addr} {c k q cap : Nat} (h : BgS w0 s pre A c W) (hx : s.getD k 0 ≠ 0) {tmp : Obj}
    (hown : w1.ownsRow (w0.heap.size + 2) 3 1 (.slice (some ⟨q, 0, none⟩) ((sPf s pre).length + 1) cap) ((sPf s pre).length + 1) ((sPf s pre).map (Value.int .i64) ++ [.int .i64 (s.getD k 0)]))
    (hgrow : (W.alloc tmp).grownBy w1 (Value.slice A (sPf s pre).length c).ownBlock) :
    Boxed w1 w0.heap.size 22 (.slice A (sPf s pre).length c) ∧ KeepsOthers W (w1.setCell ⟨w0.heap.size, 0, none⟩ (.slice (some ⟨q, 0, none⟩) ((sPf s pre).length + 1) cap)) ∧
      KpX w0.heap.size (w0.heap.size + 2) W (w1.setCell ⟨w0.heap.size, 0, none⟩ (.slice (some ⟨q, 0, none⟩) ((sPf s pre).length + 1) cap)) ∧
      BgS w0 s (pre ++ [k]) (some ⟨q, 0, none⟩) cap (w1.setCell ⟨w0.heap.size, 0, none⟩ (.slice (some ⟨q, 0, none⟩) ((sPf s pre).length + 1) cap)) := by
  have hne : 22 ≠ 3 := by decide
  have hv1 : Boxed w1 w0.heap.size 22 (.slice A (sPf s pre).length c) := (h.box.alloc tmp).kept hgrow (h.box.not_row hne h.row)
  have ba : Below W.heap.size W (W.alloc tmp) := (Below.refl _ _).alloc (Nat.le_refl _) _
  have hgs := grownBy_setCell' w1 w0.heap.size (.slice (some ⟨q, 0, none⟩) ((sPf s pre).length + 1) cap)
  have hb1 : Below w0.heap.size w0 w1 := (h.bel.alloc h.bel.size tmp).grown hgrow (by rw [World.size_alloc]; have := h.bel.size; omega) (fun j e => by have := (h.row.lt j e).1; omega)
  have hpf : sPf s (pre ++ [k]) = sPf s pre ++ [s.getD k 0] := by rw [sPf_snoc, if_neg hx]
  refine ⟨hv1, ?_, fun j hj hj0 => ?_, ?_, ?_, hb1.setCell (p := ⟨w0.heap.size, 0, none⟩) (Nat.le_refl _) _, Nat.le_trans h.sz (Nat.le_trans ba.size (Nat.le_trans hgrow.size hgs.size))⟩
  · refine ((KeepsOthers.alloc W _).trans (KeepsOthers.of_grownBy hgrow fun j o ej hj => ?_)).trans (KeepsOthers.setCell _ _ _)
    rcases (h.row.alloc tmp).2 with ⟨hv, _⟩ | ⟨g, cap', cur, hv, _, hgb, _⟩
    · rw [hv] at ej; simp [Value.ownBlock] at ej
    · rw [hv] at ej
      obtain rfl : g = j := by simpa [Value.ownBlock] using ej
      rw [hgb] at hj; cases hj; rfl
  · have hjw : j < W.heap.size := by have := h.sz; omega
    refine (hgs.block j (Nat.lt_of_lt_of_le hjw (Nat.le_trans ba.size hgrow.size)) (by simpa using hj0)).trans ((hgrow.block j (Nat.lt_of_lt_of_le hjw ba.size) (fun e => ?_)).trans (ba.block j hjw))
    have := (h.row.lt j e.symm).1
    omega
  · rw [hpf, List.length_append]; exact hv1.set _
  · rw [hpf, List.length_append, List.map_append]
    exact hown.kept hgs (.inr (hv1.not_row hne hown).symm)

set_option maxRecDepth 100000 in
set_option maxHeartbeats 8000000 in
theorem bags_any (s : List Int) (A : Option Addr) (c : Nat) (w : World) (hz : s.length ≤ 1000000) (h : NumsIn w.heap.size w A s) :
    Calls Try.prog 17 #[.slice A s.length c] w (IntsO (sBags s) w) := by
  obtain ⟨i0, hi, hz0, hz1, hz2⟩ := info_parts linfo_int
  refine (callsIn_wide (n := 6)).1 ?_
  refine callsIn_of_wp_marks Try.func17 rfl trivial ?_ rfl
  simp only [Try.ntmps17, List.size_toArray, List.length_cons, List.length_nil, Nat.reduceAdd, Nat.reduceSub, Array.replicate_succ, Array.replicate_zero, List.push_toArray, List.append_toArray, List.nil_append, List.cons_append]
  gi_wp2_with (refine ⟨trivial, ?_⟩; refine (back_in Fence.wide 5 trivial rfl _ _ _ _).mono ?_; rintro e w' ⟨rfl, rfl⟩)
  obtain ⟨W1, hW1⟩ : ∃ W1 : World, (w.alloc (.cells #[.slice none 0 0] 22)).alloc (.cells #[.slice A s.length c] 22) = W1 := ⟨_, rfl⟩
  have sz : W1.heap.size = w.heap.size + 2 := by rw [← hW1, World.size_alloc, World.size_alloc]
  have b1 : Below w.heap.size w W1 := by rw [← hW1]; exact below_new ((Below.refl _ _).alloc (Nat.le_refl _) _) _
  have bB : Boxed W1 w.heap.size 22 (.slice none 0 0) := by rw [← hW1]; exact (Boxed.new w _ _).alloc _
  have cS : W1.cell? ⟨w.heap.size + 1, 0, none⟩ = some (.slice A s.length c) := by
    have := (Boxed.new (w.alloc (.cells #[.slice none 0 0] 22)) 22 (.slice A s.length c)).cell
    rw [World.size_alloc, hW1] at this
    exact this
  rw [hW1]
  clear hW1
  have hcs : 0 < s.length → ∃ g off, A = some ⟨g, off, none⟩ ∧ g < w.heap.size + 2 ∧ g ≠ w.heap.size ∧ ∀ i, i < s.length → W1.cell? ⟨g, off + i, none⟩ = some (.int .i64 (s.getD i 0)) := fun hp => by
    obtain ⟨g, off, hA, hg, hc⟩ := h hp
    have := World.block_lt_of_cell? w _ (hc 0 hp)
    exact ⟨g, off, hA, by simp only [] at this; omega, hg, fun i hi => kept b1 (hc i hi)⟩
  have HI0 := hide hi
  have HZ0 := hide hz0
  have HZ1 := hide hz1
  have HZ2 := hide hz2
  refine wpIn_rangeFunc_ownG rfl (by decide) (gf := 32) (lb := #[.pointer (some ⟨w.heap.size + 1, 0, none⟩)]) rfl trivial (enters_of Try.func32 (by kernel_rfl) rfl)
    (back_stops Fence.wide 5 trivial rfl (by decide) (w.heap.size + 1) w.heap.size (w.heap.size + 2) c A s hz (by omega) (by omega) W1 (by omega) cS hcs)
    kpX_t (kpX_b (by omega)) (Below.refl _ _) (fun _ => rfl)
    (Bgs w s) (fun _ _ _ => False) (bgs_own (by omega)) (fun _ _ _ _ _ hs _ _ => hs)
    ⟨none, 0, bB, World.ownsRow_nil _ _ _ _, b1, by omega⟩
    (fun x => { tmps := #[.slice A s.length c, undef, .slice none 0 0, .pointer (some ⟨w.heap.size, 0, none⟩), undef, .int .i64 (s.getD x 0), .slice A s.length c, .func (.func 32) #[] #[.pointer (some ⟨w.heap.size + 1, 0, none⟩)], .int .i64 (x : Int), .int .i64 (s.getD x 0), undef, undef, undef, undef, undef, undef, undef], defers := [] }) ?assign ?body ?done ?stop
  case assign =>
    intro l' x W K hK
    unfold winV
    gi_wp2
    exact hK
  case body =>
    rintro l' pre x W ⟨A', c', hX⟩ hlt
    have hcv := hX.box.cell
    have hpl := sPf_len s pre
    have HX := hide hX
    have HO3 := hide (hX.row.alloc (.cells #[.int .i64 (s.getD x 0)] 3))
    have HN := hide (lone_new W (.int .i64 (s.getD x 0)) 3)
    have hz3 : w.heap.size + 2 ≤ (W.alloc (.cells #[.int .i64 (s.getD x 0)] 3)).heap.size := by rw [World.size_alloc]; have := hX.sz; omega
    obtain ⟨y, hy⟩ : ∃ y, s.getD x 0 = y := ⟨_, rfl⟩
    rw [hy] at HO3 HN hz3
    have HY := hide hy
    rw [hy]
    clear hX hi hz0 hz1 hz2 cS hcs bB h hy
    cases h0 : (y != 0) with
    | false =>
      have HR := hide (show sPf s (pre ++ [x]) = sPf s pre by rw [sPf_snoc, unhide HY, if_pos (by rwa [bne_eq_false_iff_eq] at h0), List.append_nil])
      gi_wp2
      refine ⟨KeepsFrom.refl _ _, kpX_refl, A', c', ?_⟩
      have := unhide HX
      exact ⟨by rw [unhide HR]; exact this.box, by rw [unhide HR]; exact this.row, this.bel, this.sz⟩
    | true =>
      have hne : s.getD x 0 ≠ 0 := by rw [unhide HY]; rwa [bne_iff_ne] at h0
      have HNe := hide hne
      clear hne
      gi_wp2_with (gi_at_builtin; refine wpListIn_append_own _ rfl _ _ 22 rfl (w.heap.size + 2) 3 i0 (.int .i64 0) 1 8 Try.underlying22 (unhide HI0) (unhide HZ0) (unhide HZ1) (unhide HZ2) rfl (by decide) _ _ _ rfl (unhide HO3) ⟨W.heap.size, 0, none⟩ 1 1 [.int .i64 y] rfl rfl (unhide HN) (fun u hu => by rw [List.mem_singleton.1 hu]; rfl) (by unfold maxLen; omega) (by omega) hz3 ?_; intro v' w6 hown hgrow _; obtain ⟨q, cap', rfl⟩ := ownsRow_succ hown; have hP := (unhide HX).push (unhide HNe) (by rw [unhide HY]; exact hown) hgrow; have HP := hide hP; have hcv6 := hP.1.cell; have hfz6 := hP.1.frozen; clear hP hown hgrow)
      obtain ⟨_, k1, k2, k3⟩ := unhide HP
      exact ⟨k1.from _, k2, _, _, k3⟩
  case done =>
    rintro D ys W hD rfl ⟨A', c', hX⟩ hK
    have hcv := hX.box.cell
    have hX2 := hX.turn (grownBy_putObj' W D (.deferred none)) (fun r e => by cases e; exact ⟨by omega, _, hK, rfl⟩)
    have HX2 := hide hX2
    have HAll := hide (sPf_all s)
    clear hX hX2 hi hz0 hz1 hz2 cS hcs bB h
    gi_wp2
    refine ⟨by simp, .inl ⟨_, _, rfl, run_takeDeferred hK, ?_⟩⟩
    have hr := (unhide HX2).row
    have hb := (unhide HX2).bel
    rw [unhide HAll] at hr ⊢
    exact ⟨_, results_tmp rfl _ _ _, _, rfl, own_base hr (by omega), hb⟩
  case stop =>
    rintro D cc pre W _ _ h' _
    exact h'.elim
end Go.Proofs.Ytfddpdognelhmaa
