/-
  Custody (layer 16): slices.Insert of one seal, slices.Clone of seals.
-/
import Derived.Test.YtbjpcajhceapkaaCusD
import Derived.Test.YtbjpcajhceapkaaCpyG
import Derived.Lib.SliceRun
namespace Go.Proofs.Ytbjpcajhceapkaa
open Go.RowKit

theorem info_se : (Try.prog.info? 54).map (fun i => (i.zero.map (·.cells.size), i.size, i.bytes)) = some (some 2, 2, 16) := by kernel_rfl
theorem se_one {l : List Se} : ∀ u ∈ l.flatMap Se.cs, u.oneCell' = true := fun u hu => by
  obtain ⟨x, _, hx⟩ := List.mem_flatMap.1 hu
  simp only [Se.cs, List.mem_cons, List.not_mem_nil, or_false] at hx
  rcases hx with rfl | rfl <;> rfl


set_option maxHeartbeats 4000000 in
set_option maxRecDepth 100000 in
theorem insQ_end (base : Nat) (A : Option Addr) (n c vb : Nat) (xs vs : List Value) (w : World) (hown : w.ownsRow base 54 2 (.slice A n c) n xs) (hn : n ≤ 1000) (hvl : vs.length = 2) (hv : w.heap[vb]? = some (.cells vs.toArray 54 (0, 0)))
    (h1v : ∀ v ∈ vs, v.oneCell' = true) (hb : base ≤ w.heap.size) :
    Calls Try.prog 27 #[.slice A n c, .int .i64 n, .slice (some ⟨vb, 0, none⟩) 1 1] w
      fun e w' => ∃ A' c', e = .returned (.slice A' (n + 1) c') ∧ w'.ownsRow base 54 2 (.slice A' (n + 1) c') (n + 1) (xs ++ vs) ∧ w.grownBy w' (Value.slice A n c).ownBlock := by
  obtain ⟨i0, z0, hi0, hia, hib, hic, hid⟩ := info_size info_se
  have H0 := hide hi0
  have HA := hide hia
  have HB := hide hib
  have HC := hide hic
  have HD := hide hid
  have HO := hide hown
  have HV := hide (World.news_of_block hv)
  have HW := hide h1v
  have HL := hide hvl
  clear hi0 hia hib hic hid hown hv h1v hvl
  rcases (unhide HO).2 with ⟨e, hn0⟩ | ⟨g, cap, cur, e, _, _, hnc, hcm, _⟩
  · obtain ⟨rfl, _, rfl⟩ : A = none ∧ n = 0 ∧ c = 0 := by injection e with e1 e2 e3; exact ⟨e1, e2, e3⟩
    subst hn0
    go_enter Try.func27, Try.ntmps27
    go_wp2_with (at_builtin; refine wpList_append_lies _ rfl _ _ 25 rfl base 54 i0 z0 2 16 Try.underlying25 (unhide H0) (unhide HA) (unhide HB) (unhide HC) (unhide HD) (by decide) _ _ _ rfl (unhide HO) ⟨vb, 0, none⟩ 1 1 vs rfl (unhide HL) (unhide HV) (unhide HW) (by decide) (by unfold maxLen; omega) (by omega) hb _ rfl ?_)
    intro q cap' w3 hown3 hgrow hat hlt3
    go_wp2
    go_ret
    exact ⟨_, _, rfl, hown3, hgrow⟩
  · obtain ⟨rfl, rfl⟩ : A = some ⟨g, 0, none⟩ ∧ c = cap := by injection e with e1 e2 e3; exact ⟨e1, e3⟩
    unfold maxLen at hcm
    by_cases hc : c = n
    · subst hc
      go_enter Try.func27, Try.ntmps27
      go_wp2_with (at_builtin; refine wpList_append_lies _ rfl _ _ 25 rfl base 54 i0 z0 2 16 Try.underlying25 (unhide H0) (unhide HA) (unhide HB) (unhide HC) (unhide HD) (by decide) _ _ _ rfl (unhide HO) ⟨vb, 0, none⟩ 1 1 vs rfl (unhide HL) (unhide HV) (unhide HW) (by decide) (by unfold maxLen; omega) (by omega) hb _ rfl ?_)
      intro q cap' w3 hown3 hgrow hat hlt3
      go_wp2
      go_ret
      exact ⟨_, _, rfl, hown3, hgrow⟩
    · go_enter Try.func27, Try.ntmps27
      go_wp2_with (at_builtin; refine wpList_append_lies _ rfl _ _ 25 rfl base 54 i0 z0 2 16 Try.underlying25 (unhide H0) (unhide HA) (unhide HB) (unhide HC) (unhide HD) (by decide) _ _ _ rfl (unhide HO) ⟨vb, 0, none⟩ 1 1 vs rfl (unhide HL) (unhide HV) (unhide HW) (by decide) (by unfold maxLen; omega) (by omega) hb _ rfl ?_)
      intro q cap' w3 hown3 hgrow hat hlt3
      go_wp2
      go_ret
      exact ⟨_, _, rfl, hown3, hgrow⟩

set_option maxHeartbeats 4000000 in
set_option maxRecDepth 100000 in
theorem insQ_room (base : Nat) (g n c i vb : Nat) (xs vs : List Value) (w : World) (hown : w.ownsRow base 54 2 (.slice (some ⟨g, 0, none⟩) n c) n xs) (hi : i < n) (hn : n ≤ 1000) (hc : n + 1 ≤ c) (hvl : vs.length = 2) (hv : w.heap[vb]? = some (.cells vs.toArray 54 (0, 0))) (hvb : vb ≠ g)
    (h1x : ∀ v ∈ xs, v.oneCell' = true) (h1v : ∀ v ∈ vs, v.oneCell' = true) :
    Calls Try.prog 27 #[.slice (some ⟨g, 0, none⟩) n c, .int .i64 i, .slice (some ⟨vb, 0, none⟩) 1 1] w
      fun e w' => e = .returned (.slice (some ⟨g, 0, none⟩) (n + 1) c) ∧ w'.ownsRow base 54 2 (.slice (some ⟨g, 0, none⟩) (n + 1) c) (n + 1) (xs.take (i * 2) ++ vs ++ xs.drop (i * 2)) ∧ w.grownBy w' (some g) := by
  obtain ⟨i0, z0, hi0, hia, hib, hic, hid⟩ := info_size info_se
  obtain ⟨cur, hbg, hg, hcm, hcs, ht⟩ : ∃ cur : Array Value, base ≤ g ∧ w.heap[g]? = some (.cells cur 54 (0, 0)) ∧ c ≤ maxLen ∧ cur.size = c * 2 ∧ cur.toList.take (n * 2) = xs := by
    rcases hown.2 with ⟨e, _⟩ | ⟨g', cap, cur, e, hb, hg, _, h3, h4, h5⟩
    · cases e
    · injection e with e1 e2 e3
      injection e1 with e1
      injection e1 with e1
      subst e1; subst e3
      exact ⟨cur, hb, hg, h3, h4, h5⟩
  have hxl := hown.1
  have hsz : (Try.prog.info? 54).map (·.size) = some 2 := by rw [hi0, Option.map_some, hib]
  have hov : ∀ lb cb, (callFunc 33 #[.slice (some ⟨vb, 0, none⟩) 1 1, .slice (some ⟨g, (i + 1) * 2, none⟩) lb cb]).run Try.prog w = .ok (.value (.bool false)) w := fun lb cb => by
    rw [run_callFunc_extern Try.func33 (by kernel_rfl) (by kernel_rfl) (by kernel_rfl) (e := Extern.SlicesOverlaps.overlaps #[25, 25] #[4]) (by kernel_rfl),
      Lib.run_overlaps_apart w 25 4 54 Try.underlying25 2 Try.sizeOf54 ⟨vb, 0, none⟩ ⟨g, (i + 1) * 2, none⟩ 1 1 lb cb hvb 54 54 2 (c * 2) (by simp [World.shape?, hv, hvl]) (by simp [World.shape?, hg, hcs]) (by omega) (by simp [World.frozen?, hv]) (by simp [World.frozen?, hv])]
    rfl
  obtain ⟨N, hN⟩ : ∃ N, N = n * 2 := ⟨_, rfl⟩
  obtain ⟨p, hp⟩ : ∃ p, p = i * 2 := ⟨_, rfl⟩
  have hps : (i + 1) * 2 = p + 2 := by omega
  have hpN : p + 2 ≤ N := by omega
  have hfit : N + 2 ≤ cur.toList.length := by rw [Array.length_toList, hcs]; omega
  obtain ⟨cur1, hc1⟩ : ∃ cur1, cur1 = (cur.toList.take (p + 2) ++ xs.drop p ++ cur.toList.drop (p + 2 + (xs.drop p).length)).toArray := ⟨_, rfl⟩
  have hdl : (xs.drop p).length = (n - i) * 2 := by rw [List.length_drop, hxl]; omega
  have hcp1 : ∀ ty dc sc, (Builtin.copy_ #[25, 25] ty #[.slice (some ⟨g, (i + 1) * 2, none⟩) (n - i) dc, .slice (some ⟨g, i * 2, none⟩) (n + 1 - i) sc]).run Try.prog w.drew = .ok (goInt (n - i : Nat)) (w.drew.setRow g cur1) := fun ty dc sc => by
    rw [hps, ← hp, hc1]
    refine run_copy_rows w.drew _ _ ty 54 2 g (p + 2) _ dc ⟨g, p, none⟩ _ sc cur 54 (xs.drop p) (n - i) Try.underlying25 hsz hg (by simp only [Nat.min_def]; split <;> omega) hdl (fun j v hj => ?_) ?_ (fun v hv => h1x v (List.mem_of_mem_drop hv))
    · rw [Addr.add_lit, show w.drew.cell? ⟨g, p + j, none⟩ = cur[p + j]? from Lib.cell_of_heap (w := w.drew) hg _, ← Array.getElem?_toList]
      rw [List.getElem?_drop, ← ht, List.getElem?_take] at hj
      split at hj
      · exact hj
      · cases hj
    · rw [hdl]; rw [Array.length_toList] at hfit; omega
  have hg1 : (w.drew.setRow g cur1).heap[g]? = some (.cells cur1 54 (0, 0)) := setRow_heap w.drew g _ _ _ _ hg
  obtain ⟨W1, hW1⟩ : ∃ W1, w.drew.setRow g cur1 = W1 := ⟨_, rfl⟩
  rw [hW1] at hg1
  have hv1 : W1.heap[vb]? = some (.cells vs.toArray 54 (0, 0)) := by rw [← hW1, setRow_other _ _ _ _ hvb]; exact hv
  have hl1 : cur1.toList.length = cur.toList.length := by
    rw [hc1]
    simp only [List.length_append, List.length_take, List.length_drop, hxl]
    omega
  have hcp2 : ∀ ty dc, (Builtin.copy_ #[25, 25] ty #[.slice (some ⟨g, i * 2, none⟩) (n + 1 - i) dc, .slice (some ⟨vb, 0, none⟩) 1 1]).run Try.prog W1 = .ok (goInt 1) (W1.setRow g (cur1.toList.take p ++ vs ++ cur1.toList.drop (p + vs.length)).toArray) := fun ty dc => by
    rw [← hp]
    refine run_copy_rows W1 _ _ ty 54 2 g p _ dc ⟨vb, 0, none⟩ 1 1 cur1 54 vs 1 Try.underlying25 hsz hg1 (by simp only [Nat.min_def]; split <;> omega) (by omega) (fun j v hj => ?_) (by rw [← Array.length_toList, hl1, hvl]; omega) h1v
    exact World.news_of_block hv1 j v hj
  have hrow : (cur1.toList.take p ++ vs ++ cur1.toList.drop (p + vs.length)) = xs.take p ++ vs ++ xs.drop p ++ cur.toList.drop (N + 2) := by
    rw [hc1, hvl]
    exact ins_row (by rw [hN]; exact ht) (by omega) (by omega) hfit
  obtain ⟨cur2, hc2⟩ : ∃ cur2 : Array Value, cur2 = (xs.take p ++ vs ++ xs.drop p ++ cur.toList.drop (N + 2)).toArray := ⟨_, rfl⟩
  rw [hrow, ← hc2] at hcp2
  have hlen := ins_len (s := 2) (N := N) (show xs.length = N by omega) (show p ≤ N by omega) hvl
  have hOut : (W1.setRow g cur2).ownsRow base 54 2 (.slice (some ⟨g, 0, none⟩) (n + 1) c) (n + 1) (xs.take p ++ vs ++ xs.drop p) := by
    refine ⟨by rw [hlen]; omega, .inr ⟨g, c, _, rfl, hbg, setRow_heap W1 g _ _ _ _ hg1, by omega, hcm, ?_, ?_⟩⟩
    · rw [hc2, List.size_toArray, List.length_append, hlen, List.length_drop, Array.length_toList, hcs]; omega
    · rw [hc2, show (n + 1) * 2 = N + 2 by omega, List.take_append_of_le_length (Nat.le_of_eq hlen.symm)]
      exact List.take_of_length_le (Nat.le_of_eq hlen)
  have hGr : w.grownBy (W1.setRow g cur2) (some g) := by
    rw [← hW1]
    refine ⟨rfl, rfl, rfl, by simp [World.setRow], fun k hk hne => ?_⟩
    have hne' : k ≠ g := by simpa using hne
    rw [setRow_other _ _ _ _ hne', setRow_other _ _ _ _ hne']
    rfl
  have HO := hide hOut
  have HG := hide hGr
  have HP := hide hp
  have hw1 : IntKind.i64.wrap ((i : Int) + 1) = (i : Int) + 1 := by rw [IntKind.wrap_i64]; omega
  have hb1 : (0 : Int) ≤ (i : Int) + 1 := by omega
  have hin : i ≤ n := by omega
  have htn : ((i : Int) + 1).toNat = i + 1 := by omega
  have hb2 : ¬ (c = i + 1) := by omega
  have hb3 : (i : Int) ≤ (n : Int) + 1 := by omega
  have hb4 : ¬ (c = i) := by omega
  have hz2 : ¬ ((i : Int) = (n : Int)) := by omega
  have hcl : c ≤ 9223372036854775807 := by unfold maxLen at hcm; exact hcm
  clear hown hg hcm hcs ht hxl hps hpN hfit hc1 hdl hg1 hv1 hl1 hrow hlen hOut hGr hc2 hp hN hsz hi0 hia hib hic hid
  go_enter Try.func27, Try.ntmps27
  have mixed : Try.prog.follows Departure.mixedOrders = true := by kernel_rfl
  go_wp2_with (simp only [hov])
  go_region_law_o (refine step_copy_is rfl _ _ 25 25 rfl _ _ (by simp [Act.eval, Act.put]) (by simp [Act.eval, Act.put]) (hcp1 _ _ _) ?_)
  go_wp2_with (at_builtin; refine wpList_copy_is _ rfl _ _ 25 25 rfl _ _ rfl rfl (hcp2 _ _) ?_)
  go_ret
  exact ⟨rfl, by rw [← unhide HP]; exact unhide HO, unhide HG⟩

set_option maxHeartbeats 4000000 in
set_option maxRecDepth 100000 in
theorem insQ_grow (base : Nat) (g n i vb : Nat) (xs vs : List Value) (w : World) (hown : w.ownsRow base 54 2 (.slice (some ⟨g, 0, none⟩) n n) n xs) (hi : i < n) (hn : n ≤ 1000) (hvl : vs.length = 2) (hv : w.heap[vb]? = some (.cells vs.toArray 54 (0, 0)))
    (h1x : ∀ v ∈ xs, v.oneCell' = true) (h1v : ∀ v ∈ vs, v.oneCell' = true) (hb : base ≤ w.heap.size) :
    Calls Try.prog 27 #[.slice (some ⟨g, 0, none⟩) n n, .int .i64 i, .slice (some ⟨vb, 0, none⟩) 1 1] w
      fun e w' => ∃ c', e = .returned (.slice (some ⟨w.heap.size, 0, none⟩) (n + 1) c') ∧ w'.ownsRow base 54 2 (.slice (some ⟨w.heap.size, 0, none⟩) (n + 1) c') (n + 1) (xs.take (i * 2) ++ vs ++ xs.drop (i * 2)) ∧ w.grownBy w' (some g) := by
  obtain ⟨i0, z0, hi0, hia, hib, hic, hid⟩ := info_size info_se
  obtain ⟨cur, hg, hcs, ht⟩ : ∃ cur : Array Value, w.heap[g]? = some (.cells cur 54 (0, 0)) ∧ cur.size = n * 2 ∧ cur.toList.take (n * 2) = xs := by
    rcases hown.2 with ⟨e, _⟩ | ⟨g', cap, cur, e, hb, hg, _, h3, h4, h5⟩
    · cases e
    · injection e with e1 e2 e3
      injection e1 with e1
      injection e1 with e1
      subst e1; subst e3
      exact ⟨cur, hg, h4, h5⟩
  have hxl := hown.1
  have hsz : (Try.prog.info? 54).map (·.size) = some 2 := by rw [hi0, Option.map_some, hib]
  have hgw : g < w.heap.size := (Array.getElem?_eq_some_iff.1 hg).1
  have hvw : vb < w.heap.size := (Array.getElem?_eq_some_iff.1 hv).1
  obtain ⟨N, hN⟩ : ∃ N, N = n * 2 := ⟨_, rfl⟩
  obtain ⟨p, hp⟩ : ∃ p, p = i * 2 := ⟨_, rfl⟩
  have hps : (i + 1) * 2 = p + 2 := by omega
  have hpN : p + 2 ≤ N := by omega
  have hdl : (xs.drop p).length = (n - i) * 2 := by rw [List.length_drop, hxl]; omega
  have hxc : ∀ j v, xs[j]? = some v → w.cell? ⟨g, j, none⟩ = some v := fun j v hj => by
    rw [Lib.cell_of_heap hg, ← Array.getElem?_toList]
    rw [← ht, List.getElem?_take] at hj
    split at hj
    · exact hj
    · cases hj
  have hold : (Builtin.firstCells i0.size i (.slice (some ⟨g, 0, none⟩) i n)).run Try.prog w.drew = .ok (xs.take p).toArray w.drew := by
    rw [hib]
    exact run_firstCells_some w.drew 2 i ⟨g, 0, none⟩ i n (xs.take p) (by rw [List.length_take]; omega) (fun j v hj => by
      rw [Addr.add_lit, Nat.zero_add]
      rw [List.getElem?_take] at hj
      split at hj
      · exact hxc j v hj
      · cases hj)
  obtain ⟨G, hG⟩ : ∃ G, G = grownCap w (n + 1) n 54 := ⟨_, rfl⟩
  obtain ⟨Zs, hZs⟩ : ∃ Zs : List Value, Zs = (Builtin.zeroCells z0.cells (n + 1 - i) ++ Builtin.zeroCells z0.cells (G - (n + 1))).toList := ⟨_, rfl⟩
  have hGn : n + 1 ≤ G := by rw [hG]; exact grownCap_ge w _ _ _
  have hGm : G ≤ maxLen := by rw [hG]; exact grownCap_le_maxLen w (n + 1) n 54 (by unfold maxLen; omega)
  have hZl : Zs.length = (G - i) * 2 := by
    rw [hZs, Array.length_toList, Array.size_append, size_zeroCells, size_zeroCells, hid, ← Nat.add_mul]
    congr 1; omega
  have hrow0 : (xs.take p).toArray ++ Builtin.zeroCells z0.cells (n + 1 - i) ++ Builtin.zeroCells z0.cells (G - (n + 1)) = (xs.take p ++ Zs).toArray := by
    rw [hZs, Array.append_assoc, Array.toArray_append, Array.toArray_toList]
  obtain ⟨W1, hW1⟩ : ∃ W1, w.drew.alloc (.cells (xs.take p ++ Zs).toArray 54) = W1 := ⟨_, rfl⟩
  have hrz : ∀ ty, (Builtin.append_ #[25, 3] ty #[.slice (some ⟨g, 0, none⟩) i n, .int .i64 ((n : Int) + 1 - (i : Int))]).run Try.prog w = .ok (.slice (some ⟨w.heap.size, 0, none⟩) (n + 1) G) W1 := fun ty => by
    have h := Lib.run_append_grow_zeros w 25 3 ty 54 i0 z0 .i64 .i64 Try.underlying25 Try.underlying3 hi0 hia (some ⟨g, 0, none⟩) i n (xs.take p) hold (n + 1 - i) (by omega) (by rw [hib]; omega) (by omega) (by omega) (by rw [hic]; omega) (by rw [hic, show i + (n + 1 - i) = n + 1 by omega]; exact growslice_fits (by omega) (by omega))
    rw [show i + (n + 1 - i) = n + 1 by omega, ← hG, hrow0, hW1] at h
    rw [show (n : Int) + 1 - (i : Int) = ((n + 1 - i : Nat) : Int) by omega]
    exact h
  have hB1 : W1.heap[w.heap.size]? = some (.cells (xs.take p ++ Zs).toArray 54 (0, 0)) := by rw [← hW1]; exact heap_alloc_new w.drew _
  have hv1 : W1.heap[vb]? = some (.cells vs.toArray 54 (0, 0)) := by rw [← hW1, Below.heap_alloc _ _ _ (show vb < w.drew.heap.size from hvw)]; exact hv
  have hg1 : W1.heap[g]? = some (.cells cur 54 (0, 0)) := by rw [← hW1, Below.heap_alloc _ _ _ (show g < w.drew.heap.size from hgw)]; exact hg
  have hcpA : ∀ ty dc, (Builtin.copy_ #[25, 25] ty #[.slice (some ⟨w.heap.size, i * 2, none⟩) (n + 1 - i) dc, .slice (some ⟨vb, 0, none⟩) 1 1]).run Try.prog W1 = .ok (goInt 1) (W1.setRow w.heap.size ((xs.take p ++ Zs).take p ++ vs ++ (xs.take p ++ Zs).drop (p + vs.length)).toArray) := fun ty dc => by
    rw [← hp]
    refine run_copy_rows W1 _ _ ty 54 2 w.heap.size p _ dc ⟨vb, 0, none⟩ 1 1 (xs.take p ++ Zs).toArray 54 vs 1 Try.underlying25 hsz hB1 (by simp only [Nat.min_def]; split <;> omega) (by omega) (fun j v hj => World.news_of_block hv1 j v hj) ?_ h1v
    rw [List.size_toArray, List.length_append, List.length_take, hZl]; omega
  obtain ⟨R1, hR1⟩ : ∃ R1 : List Value, R1 = (xs.take p ++ Zs).take p ++ vs ++ (xs.take p ++ Zs).drop (p + vs.length) := ⟨_, rfl⟩
  rw [← hR1] at hcpA
  have hl1 : R1.length = G * 2 := by
    rw [hR1]
    simp only [List.length_append, List.length_take, List.length_drop, hZl, hxl]
    omega
  obtain ⟨W2, hW2⟩ : ∃ W2, W1.setRow w.heap.size R1.toArray = W2 := ⟨_, rfl⟩
  have hB2 : W2.heap[w.heap.size]? = some (.cells R1.toArray 54 (0, 0)) := by rw [← hW2]; exact setRow_heap W1 _ _ _ _ _ hB1
  have hg2 : W2.heap[g]? = some (.cells cur 54 (0, 0)) := by rw [← hW2, setRow_other _ _ _ _ (by omega)]; exact hg1
  have hcpB : ∀ ty dc sc, (Builtin.copy_ #[25, 25] ty #[.slice (some ⟨w.heap.size, (i + 1) * 2, none⟩) (n - i) dc, .slice (some ⟨g, i * 2, none⟩) (n - i) sc]).run Try.prog W2.drew = .ok (goInt (n - i : Nat)) (W2.drew.setRow w.heap.size (R1.take (p + 2) ++ xs.drop p ++ R1.drop (p + 2 + (xs.drop p).length)).toArray) := fun ty dc sc => by
    rw [hps, ← hp]
    refine run_copy_rows W2.drew _ _ ty 54 2 w.heap.size (p + 2) _ dc ⟨g, p, none⟩ _ sc R1.toArray 54 (xs.drop p) (n - i) Try.underlying25 hsz hB2 (by simp only [Nat.min_def]; split <;> omega) hdl (fun j v hj => ?_) ?_ (fun v hv => h1x v (List.mem_of_mem_drop hv))
    · rw [Addr.add_lit, show W2.drew.cell? ⟨g, p + j, none⟩ = cur[p + j]? from Lib.cell_of_heap (w := W2.drew) hg2 _, ← Lib.cell_of_heap hg]
      rw [List.getElem?_drop] at hj
      exact hxc _ v hj
    · rw [hdl, List.size_toArray, hl1]; omega
  have hrow : R1.take (p + 2) ++ xs.drop p ++ R1.drop (p + 2 + (xs.drop p).length) = xs.take p ++ vs ++ xs.drop p ++ Zs.drop (N + 2 - p) := by
    rw [hR1]
    exact grow_row (s := 2) (N := N) (by omega) (by omega) hvl
  obtain ⟨R2, hR2⟩ : ∃ R2 : Array Value, R2 = (xs.take p ++ vs ++ xs.drop p ++ Zs.drop (N + 2 - p)).toArray := ⟨_, rfl⟩
  rw [hrow, ← hR2] at hcpB
  have hlen := ins_len (s := 2) (N := N) (show xs.length = N by omega) (show p ≤ N by omega) hvl
  have hOut : (W2.drew.setRow w.heap.size R2).ownsRow base 54 2 (.slice (some ⟨w.heap.size, 0, none⟩) (n + 1) G) (n + 1) (xs.take p ++ vs ++ xs.drop p) := by
    refine ⟨by rw [hlen]; omega, .inr ⟨w.heap.size, G, _, rfl, hb, setRow_heap W2.drew _ _ _ _ _ hB2, by omega, hGm, ?_, ?_⟩⟩
    · rw [hR2, List.size_toArray, List.length_append, hlen, List.length_drop, hZl]; omega
    · rw [hR2, show (n + 1) * 2 = N + 2 by omega, List.take_append_of_le_length (Nat.le_of_eq hlen.symm)]
      exact List.take_of_length_le (Nat.le_of_eq hlen)
  have hGr : w.grownBy (W2.drew.setRow w.heap.size R2) (some g) := by
    rw [← hW2, ← hW1]
    refine ⟨rfl, rfl, rfl, by simp [World.setRow], fun k hk hne => ?_⟩
    have hk' : k ≠ w.heap.size := by omega
    rw [setRow_other _ _ _ _ hk']
    show ((w.drew.alloc _).setRow w.heap.size R1.toArray).heap[k]? = _
    rw [setRow_other _ _ _ _ hk']
    exact Below.heap_alloc w.drew _ _ hk
  have HO := hide hOut
  have HG := hide hGr
  have HP := hide hp
  have hw1 : IntKind.i64.wrap ((i : Int) + 1) = (i : Int) + 1 := by rw [IntKind.wrap_i64]; omega
  have hb1 : (0 : Int) ≤ (i : Int) + 1 := by omega
  have hin : i ≤ n := by omega
  have htn : ((i : Int) + 1).toNat = i + 1 := by omega
  have hb2 : ¬ (G = i + 1) := by omega
  have hb3 : (i : Int) ≤ (n : Int) := by omega
  have hb4 : ¬ (G = i) := by omega
  have hb5 : ¬ (n = i) := by omega
  have hz2 : ¬ ((i : Int) = (n : Int)) := by omega
  have hcl : G ≤ 9223372036854775807 := by unfold maxLen at hGm; exact hGm
  have mixed : Try.prog.follows Departure.mixedOrders = true := by kernel_rfl
  clear hown hg hcs ht hxl hps hpN hdl hxc hold hG hZs hGm hZl hrow0 hB1 hv1 hg1 hl1 hR1 hB2 hg2 hrow hlen hR2 hOut hGr hp hN hsz hi0 hia hib hic hid hgw hvw
  go_enter Try.func27, Try.ntmps27
  go_wp2_with (first
    | (at_builtin; refine Lib.wpList_append_run _ rfl _ _ _ _ rfl _ _ rfl rfl _ _ (hrz _) ?_)
    | (at_builtin; refine wpList_copy_is _ rfl _ _ 25 25 rfl _ _ rfl rfl (hcpA _ _) ?_))
  go_region_law_o (refine step_copy_is rfl _ _ 25 25 rfl _ _ (by simp [Act.eval, Act.put]) (by simp [Act.eval, Act.put]) (hcpB _ _ _) ?_)
  go_wp2
  go_ret
  exact ⟨_, rfl, by rw [← unhide HP]; exact unhide HO, unhide HG⟩

/-- Insert of one thing, at any place. -/
theorem insQ_any (base : Nat) (A : Option Addr) (n c i vb : Nat) (xs vs : List Value) (w : World) (hown : w.ownsRow base 54 2 (.slice A n c) n xs) (hi : i ≤ n) (hn : n ≤ 1000) (hvl : vs.length = 2) (hv : w.heap[vb]? = some (.cells vs.toArray 54 (0, 0)))
    (hvb : ∀ k, (Value.slice A n c).ownBlock = some k → vb ≠ k) (h1x : ∀ v ∈ xs, v.oneCell' = true) (h1v : ∀ v ∈ vs, v.oneCell' = true) (hb : base ≤ w.heap.size) :
    Calls Try.prog 27 #[.slice A n c, .int .i64 i, .slice (some ⟨vb, 0, none⟩) 1 1] w
      fun e w' => ∃ A' c', e = .returned (.slice A' (n + 1) c') ∧ w'.ownsRow base 54 2 (.slice A' (n + 1) c') (n + 1) (xs.take (i * 2) ++ vs ++ xs.drop (i * 2)) ∧ w.grownBy w' (Value.slice A n c).ownBlock := by
  by_cases hin : i = n
  · subst hin
    refine (insQ_end base A i c vb xs vs w hown hn hvl hv h1v hb).mono ?_
    rintro e w' ⟨A', c', rfl, h2, h3⟩
    refine ⟨A', c', rfl, ?_, h3⟩
    rw [← hown.1, List.take_length, List.drop_length, List.append_nil]
    exact h2
  · rcases hown.2 with ⟨e, hn0⟩ | ⟨g, cap, cur, e, hbg, hg, hnc, _⟩
    · omega
    · obtain ⟨rfl, rfl⟩ : A = some ⟨g, 0, none⟩ ∧ c = cap := by injection e with e1 e2 e3; exact ⟨e1, e3⟩
      by_cases hc : n + 1 ≤ c
      · refine (insQ_room base g n c i vb xs vs w hown (by omega) hn hc hvl hv (hvb g rfl) h1x h1v).mono ?_
        rintro e w' ⟨rfl, h2, h3⟩
        exact ⟨_, _, rfl, h2, h3⟩
      · obtain rfl : c = n := by omega
        refine (insQ_grow base g c i vb xs vs w hown (by omega) hn hvl hv h1x h1v hb).mono ?_
        rintro e w' ⟨c', rfl, h2, h3⟩
        exact ⟨_, _, rfl, h2, h3⟩

set_option maxHeartbeats 1000000 in
set_option maxRecDepth 100000 in
theorem cloneQ_any (b : Nat) (A : Option Addr) (c : Nat) (l : List Se) (w : World) (h : SesIn b w A l) (hz : l.length ≤ 1000) :
    Calls Try.prog 28 #[.slice A l.length c] w
      fun e w' => ∃ A' c', e = .returned (.slice A' l.length c') ∧ w'.ownsRow w.heap.size 54 2 (.slice A' l.length c') l.length (l.flatMap Se.cs) ∧ Below w.heap.size w w' := by
  obtain ⟨i0, z0, hi0, hia, hib, hic, hid⟩ := info_size info_se
  have H0 := hide hi0
  have HA := hide hia
  have HB := hide hib
  have HC := hide hic
  have HD := hide hid
  have HL := hide (flatK_len Se.cs 2 Se.cs_len l)
  have HO := hide (se_one (l := l))
  have bx := (Below.refl w.heap.size w).alloc (Nat.le_refl _) (.cells #[] 54)
  have HX := hide bx
  have HS := hide (fun (hn : 0 < l.length) => (show ∃ g off, A = some ⟨g, off, none⟩ ∧ ∀ j u, (l.flatMap Se.cs)[j]? = some u → (w.alloc (.cells #[] 54)).cell? ⟨g, off + j, none⟩ = some u from by
    obtain ⟨g, off, h1, _, h3⟩ := h.keep bx hn
    exact ⟨g, off, h1, h3⟩))
  have HW := hide (show (w.alloc (.cells #[] 54)).ownsRow w.heap.size 54 2 (.slice (some ⟨w.heap.size, 0, none⟩) 0 0) 0 [] from
    ⟨rfl, .inr ⟨w.heap.size, 0, #[], rfl, Nat.le_refl _, heap_alloc_new w _, Nat.le_refl _, Nat.zero_le _, rfl, rfl⟩⟩)
  clear hi0 hia hib hic hid bx h
  have q26 : ∀ (w : World) (a : Option Addr) (n c n' c' : Nat), (binOp .eql 25 (.slice a n c) (.slice none n' c')).run Try.prog w = .ok (.bool a.isNone) w := fun w a n c n' c' => Lib.run_eql_slice_nil w _ _ a n c n' c' Try.underlying25
  cases A with
  | none =>
    by_cases h0 : 0 < l.length
    · obtain ⟨g, off, h1, _⟩ := (unhide HS) h0; cases h1
    · obtain rfl : l = [] := List.eq_nil_of_length_eq_zero (by omega)
      go_enter Try.func28, Try.ntmps28
      go_wp2
      go_ret
      exact ⟨none, 0, rfl, World.ownsRow_nil _ _ _ _, Below.refl _ _⟩
  | some ad =>
    go_enter Try.func28, Try.ntmps28
    go_wp2_with (at_builtin; refine wpList_copyG (H := w.heap.size) (e := w.heap.size) rfl _ _ rfl rfl rfl rfl Try.underlying25 (unhide H0) (unhide HA) (unhide HB) (unhide HC) (unhide HD) (by decide) (unhide HL) (by unfold maxLen; omega) (by omega) (unhide HO) (by rw [World.size_alloc]; omega) (unhide HW) (unhide HS) ?_)
    intro A' c' w2 hown hg
    go_wp2
    go_ret
    exact ⟨A', c', rfl, hown, (unhide HX).grown hg (unhide HX).size (fun k e => by injection e with e; omega)⟩
end Go.Proofs.Ytbjpcajhceapkaa
