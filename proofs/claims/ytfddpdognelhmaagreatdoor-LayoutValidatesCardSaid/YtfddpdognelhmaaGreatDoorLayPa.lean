/-
  Contract of Parse of layouts.
-/
import Derived.Test.YtfddpdognelhmaaGreatDoorLayU
import Derived.Test.YtfddpdognelhmaaGreatDoorLayZ
import Derived.Test.YtfddpdognelhmaaGreatDoorLayH

/- LayPm: The layout that a text is: plain mathematics. -/
namespace Go.Proofs.YtfddpdognelhmaaGreatDoor

/-- How many lines are nodes. -/
def splN (ls : List Ln) : Nat := ls.findIdx isDv
theorem splN_eq {ls : List Ln} {n : Nat} (h : SplitL ls n) : splN ls = n := by
  unfold splN
  by_cases e : n < ls.length
  · rw [List.findIdx_eq e]
    refine ⟨?_, fun j hj => ?_⟩
    · have := h.2 n e
      rw [at_k e] at this
      rw [this]; simp
    · have := h.2 j (by omega)
      rw [at_k (by omega)] at this
      rw [this]; simp; omega
  · obtain rfl : n = ls.length := by have := h.1; omega
    rw [List.findIdx_eq_length]
    intro x hx
    obtain ⟨i, hi, rfl⟩ := List.getElem_of_mem hx
    have := h.2 i hi
    rw [at_k hi] at this
    rw [this]; simp; omega
theorem linesG_len : ∀ (f : Nat) (acc : List Ln) (s : ByteArray), (linesG f acc s).1.length ≤ acc.length + f
  | 0, acc, s => by unfold linesG; exact Nat.le_refl _
  | f + 1, acc, s => by
    unfold linesG
    split
    · show acc.length ≤ _; omega
    · split
      · show acc.length ≤ _; omega
      · split
        · show acc.length ≤ _; omega
        · split
          · refine Nat.le_trans (linesG_len f _ _) ?_
            rw [List.length_append, List.length_singleton]; omega
          · show acc.length ≤ _; omega
theorem linesF_len (s : ByteArray) : (linesF s).1.length ≤ s.size := by
  have h : (linesG s.size [] s).1.length ≤ s.size := by
    have := linesG_len s.size [] s
    simpa using this
  exact h
theorem buildL_few {ls : List Ln} {n : Nat} (hg : ∀ x ∈ ls, LnG x) (hn : n ≤ ls.length) :
    (buildL ls n).1.nodes.length ≤ ls.length ∧ (buildL ls n).1.devs.length ≤ ls.length ∧ ∀ x ∈ (buildL ls n).1.nodes, x.exits.length ≤ 6 := by
  unfold buildL
  split
  · exact ⟨Nat.zero_le _, Nat.zero_le _, fun _ h => (nomatch h)⟩
  · refine ⟨?_, ?_, fun x hx => ?_⟩
    · show (setEx ls n ls.length).length ≤ _; rw [setEx_len]; exact hn
    · show (dvsU ls n ls.length).length ≤ _; unfold dvsU; rw [List.length_map, List.length_range]; omega
    · have hx' : x ∈ setEx ls n ls.length := hx
      unfold setEx at hx'
      obtain ⟨i, hi, rfl⟩ := List.mem_map.1 hx'
      have hi' : i < ls.length := by have : i < n := by simpa using hi
                                     omega
      unfold exAt
      rw [if_pos hi']
      show (idxF _ _).length ≤ 6
      rw [idxF_len, at_k hi']
      exact (hg _ (List.getElem_mem _)).2.2.1
def lay0 : Lay := ⟨[], []⟩
/-- What Parse returns: the layout, the line, the error. -/
def parB (r : Lay × Int) : Lay × Int × Int := if 0 < r.2 then (lay0, r.2, 6) else if layE r.1 = 0 then (r.1, 0, 0) else (lay0, 0, layE r.1)
def parL (r : List Ln × Bool) : Lay × Int × Int := if r.2 = true then parB (buildL r.1 (splN r.1)) else (lay0, (r.1.length : Int) + 1, 3)
def parX (s : ByteArray) : Lay × Int × Int := if s.size ≤ 4096 then parL (linesF s) else (lay0, 0, 2)
theorem buildL_pos (ls : List Ln) (n : Nat) : 0 ≤ (buildL ls n).2 ∧ (buildL ls n).2 ≤ ls.length := by
  unfold buildL
  split
  · rename_i i h
    have := List.mem_of_find?_eq_some h
    have hi : i < ls.length := by simpa using this
    show (0 : Int) ≤ (i : Int) + 1 ∧ (i : Int) + 1 ≤ ls.length
    omega
  · show (0 : Int) ≤ 0 ∧ (0 : Int) ≤ _
    omega
end Go.Proofs.YtfddpdognelhmaaGreatDoor

/- LayPa: Contract of Parse of layouts. -/
namespace Go.Proofs.YtfddpdognelhmaaGreatDoor
open Go.RowKit

/-- A store into a block of slices leaves what no slice is. -/
structure SlB (q : Nat) (w w' : World) : Prop where
  only : ∀ o v, w.cell? ⟨q, o, none⟩ = some v → ∃ A n c, v = .slice A n c
  keep : ∀ g o v, g ≠ q → w.cell? ⟨g, o, none⟩ = some v → w'.cell? ⟨g, o, none⟩ = some v
theorem SlB.at {q : Nat} {w w' : World} (h : SlB q w w') {g o : Nat} {v : Value} (hc : w.cell? ⟨g, o, none⟩ = some v) (hv : ∀ A n c, v ≠ .slice A n c) : g ≠ q ∧ w'.cell? ⟨g, o, none⟩ = some v := by
  have hne : g ≠ q := fun e => by
    subst e
    obtain ⟨A, n, c, e⟩ := h.only o v hc
    exact hv A n c e
  exact ⟨hne, h.keep g o v hne hc⟩
theorem SlB.nums {q b : Nat} {w w' : World} (h : SlB q w w') {A : Option Addr} {l : List Int} (hn : NumsIn b w A l) : NumsIn b w' A l := fun h0 => by
  obtain ⟨g, off, hA, hg, hc⟩ := hn h0
  exact ⟨g, off, hA, hg, fun i hi => (h.at (hc i hi) (fun _ _ _ e => by cases e)).2⟩
theorem SlB.nds {q b : Nat} {w w' : World} (h : SlB q w w') {A : Option Addr} {l : List Nd} (hn : NdsIn b w A l) : NdsIn b w' A l := fun h0 => by
  obtain ⟨g, off, hA, hg, hc⟩ := hn h0
  refine ⟨g, off, hA, hg, fun i hi => ?_⟩
  obtain ⟨c0, c1, c2, c3, P, c, c4, hl, hn⟩ := hc i hi
  have k0 := h.at c0 (fun _ _ _ e => by cases e)
  exact ⟨k0.2, (h.at c1 (fun _ _ _ e => by cases e)).2, (h.at c2 (fun _ _ _ e => by cases e)).2, (h.at c3 (fun _ _ _ e => by cases e)).2, P, c, h.keep _ _ _ k0.1 c4, hl, h.nums hn⟩
theorem SlB.dvs {q b : Nat} {w w' : World} (h : SlB q w w') {A : Option Addr} {l : List Dv} (hn : DvsIn b w A l) : DvsIn b w' A l := fun h0 => by
  obtain ⟨g, off, hA, hg, hc⟩ := hn h0
  exact ⟨g, off, hA, hg, fun i hi => ⟨(h.at (hc i hi).1 (fun _ _ _ e => by cases e)).2, (h.at (hc i hi).2.1 (fun _ _ _ e => by cases e)).2, (h.at (hc i hi).2.2 (fun _ _ _ e => by cases e)).2⟩⟩
theorem SlB.lay {q b : Nat} {w w' : World} (h : SlB q w w') {x : Lay} {A B : Option Addr} (hn : LayIn b w x A B) : LayIn b w' x A B := ⟨h.nds hn.nds, h.dvs hn.dvs, hn.few, hn.nn, hn.nd⟩
theorem SlB.row {q : Nat} {w : World} {A A' : Option Addr} {n c n' c' : Nat} {t : TypeId} {fz : Nat × Nat} (h : w.heap[q]? = some (.cells #[.slice A n c, .slice A' n' c'] t fz)) (cs : Array Value) : SlB q w (w.setRow q cs) := by
  refine ⟨fun o v hv => ?_, fun g o v hg hv => ?_⟩
  · rw [Lib.cell_of_heap h] at hv
    match o, hv with
    | 0, hv => exact ⟨_, _, _, (Option.some.inj hv).symm⟩
    | 1, hv => exact ⟨_, _, _, (Option.some.inj hv).symm⟩
    | o + 2, hv => simp at hv
  · rw [World.cell?_of_block (setRow_other w q g cs hg)]
    exact hv

/-- What Parse comes to. -/
def ParTo (b : Nat) (r : Lay × Int × Int) (w : World) (e : Ending) (w' : World) : Prop :=
  ∃ (A : Option Addr) (c : Nat) (B : Option Addr) (d : Nat), e = .returned (.tuple #[lV r.1 A c B d, .int .i64 r.2.1, .int .i64 r.2.2]) ∧ LayIn b w' r.1 A B ∧ Below w.heap.size w w'
theorem lay0_in (b : Nat) (w : World) : LayIn b w lay0 none none := ⟨NdsIn.nil _ _ _, DvsIn.nil _ _ _, fun _ h => (nomatch h), Nat.zero_le _, Nat.zero_le _⟩
abbrev zL : Array Value := #[.slice none 0 0, .slice none 0 0]
theorem par_zero {b : Nat} {w W : World} {m n : Int} (hB : Below w.heap.size w W) : ParTo b (lay0, m, n) w (.returned (.tuple #[.agg zL, .int .i64 m, .int .i64 n])) (W.setRow w.heap.size zL) :=
  ⟨none, 0, none, 0, rfl, lay0_in _ _, lbelow_setRow hB (Nat.le_refl _) _⟩
theorem zL_cells {W : World} {q : Nat} {cs : Array Value} {t : TypeId} {fz : Nat × Nat} (h : W.heap[q]? = some (.cells cs t fz)) :
    (W.setRow q zL).cell? ⟨q, 0, none⟩ = some (.slice none 0 0) ∧ (W.setRow q zL).cell? ⟨q, 1, none⟩ = some (.slice none 0 0) := by
  have hR := setRow_heap W q _ zL _ _ h
  exact ⟨by rw [Lib.cell_of_heap hR]; rfl, by rw [Lib.cell_of_heap hR]; rfl⟩
set_option maxHeartbeats 4000000 in
set_option maxRecDepth 100000 in
theorem lparse_any (b : Nat) (s : ByteArray) (w : World) (hT : LTab w) (hbw : b < w.heap.size) :
    Calls Tryz.prog 21 #[.string s] w (ParTo b (parX s) w) := by
  have b0 := (Below.refl w.heap.size w).alloc (Nat.le_refl _) (.cells zL 25)
  have HB0 := hide b0
  have HRes := hide (heap_alloc_new w (.cells zL 25))
  have HT := hide (hT.keep b0)
  have hbw1 : b < (w.alloc (.cells zL 25)).heap.size := by rw [World.size_alloc]; omega
  clear hT b0
  by_cases hz : s.size ≤ 4096
  · have HX := hide (show parX s = parL (linesF s) from if_pos hz)
    have hz1 : ¬ (4096 : Int) < (s.size : Int) := by omega
    have HL := hide (lrlines_any b s _ (unhide HT) (by omega) hbw1)
    obtain ⟨hgd, n, hsp⟩ := linesF_good s
    have hlen := linesF_len s
    have HG := hide hgd
    have HSp := hide hsp
    clear hgd hsp
    generalize linesF s = r at *
    obtain ⟨ls, ok⟩ := r
    have hln : ls.length ≤ 4096 := Nat.le_trans hlen hz
    clear hlen
    go_enter Tryz.func21, Tryz.ntmps21
    go_wp2_with fail
    refine (unhide HL).mono ?_
    rintro e w1 ⟨A, c, us, rfl, hus, hI1, hb1⟩
    have hus' : us.map (·.x) = ls := hus
    subst hus'
    have hul : us.length ≤ 4096 := by rw [List.length_map] at hln; exact hln
    have hB1 := onward (unhide HB0) hb1
    have HB1 := hide hB1
    have hres1 := heap_below (unhide HRes) hb1
    have HRes1 := hide hres1
    have HT1 := hide ((unhide HT).keep hb1)
    have hbw2 : b < w1.heap.size := Nat.lt_of_lt_of_le hbw1 hb1.size
    have HI1 := hide hI1
    clear hb1 hB1 hres1 hI1 hus hln
    cases ok with
    | false =>
      have HR := hide (show parX s = (lay0, (us.length : Int) + 1, 3) by rw [unhide HX]; show (lay0, ((us.map (·.x)).length : Int) + 1, (3 : Int)) = _; rw [List.length_map])
      go_wp2_with (first
        | (refine wpList_store_row rfl _ _ _ rfl w.heap.size zL rfl rfl 25 _ (unhide HRes1) linfo_lay rfl (by simp [Value.oneCell']) ?_))
      obtain ⟨z0, z1⟩ := zL_cells (unhide HRes1)
      rw [unhide HR]
      exact bodyPost_ret (v := .tuple #[.agg zL, .int .i64 ((us.length : Int) + 1), .int .i64 3]) (by simp [results, go_sem, z0, z1]) rfl (par_zero (unhide HB1))
    | true =>
      have HX2 := hide (show parX s = parB (buildL (us.map (·.x)) n) by rw [unhide HX]; show parB (buildL (us.map (·.x)) (splN (us.map (·.x)))) = _; rw [splN_eq (unhide HSp)])
      have HBd := hide (lbuild_any b us n A c w1 (by omega) hbw2 (unhide HSp) (unhide HG) (unhide HI1))
      have hfew := buildL_few (n := n) (unhide HG) (unhide HSp).1
      have hpos := buildL_pos (us.map (·.x)) n
      rw [List.length_map] at hfew hpos
      clear HX
      generalize buildL (us.map (·.x)) n = r2 at *
      obtain ⟨L, m⟩ := r2
      have hm0 : 0 ≤ m := hpos.1
      have hm1 : m ≤ 4096 := by have : m ≤ us.length := hpos.2
                                omega
      have HFw := hide hfew
      clear hpos hfew
      go_wp2_with fail
      refine (unhide HBd).mono ?_
      rintro e w2 ⟨A2, c2, B2, d2, rfl, hN2, hD2, hb2⟩
      have hI2 : LayIn b w2 L A2 B2 := ⟨hN2, hD2, fun x hx => Nat.le_trans ((unhide HFw).2.2 x hx) (by omega), Nat.le_trans (show L.nodes.length ≤ us.length from (unhide HFw).1) (by omega), Nat.le_trans (show L.devs.length ≤ us.length from (unhide HFw).2.1) (by omega)⟩
      have bC := (Below.refl w2.heap.size w2).alloc (Nat.le_refl _) (lO L A2 c2 B2 d2)
      have hB2 := onward (onward (unhide HB1) hb2) bC
      have hres2 := heap_below (heap_below (unhide HRes1) hb2) bC
      have hbx2 := heap_alloc_new w2 (lO L A2 c2 B2 d2)
      have HI2 := hide (hI2.keep bC)
      have HB2 := hide hB2
      have HRes2 := hide hres2
      have HBx2 := hide hbx2
      clear hb2 hN2 hD2 hI2 bC hB2 hres2 hbx2
      by_cases hm : 0 < m
      · have HR := hide (show parX s = (lay0, m, 6) by rw [unhide HX2]; exact if_pos hm)
        go_wp2_with (first
          | (refine wpList_store_row rfl _ _ _ rfl w.heap.size zL rfl rfl 25 _ (unhide HRes2) linfo_lay rfl (by simp [Value.oneCell']) ?_))
        obtain ⟨z0, z1⟩ := zL_cells (unhide HRes2)
        rw [unhide HR]
        exact bodyPost_ret (v := .tuple #[.agg zL, .int .i64 m, .int .i64 6]) (by simp [results, go_sem, z0, z1]) rfl (par_zero (unhide HB2))
      · obtain rfl : m = 0 := by omega
        have hV := lval_any b L A2 B2 c2 d2 _ (unhide HI2)
        have HV := hide hV
        clear hV hm
        by_cases he : layE L = 0
        · have HR := hide (show parX s = (L, 0, 0) by rw [unhide HX2]; show (if 0 < (0 : Int) then _ else if layE L = 0 then (L, (0 : Int), (0 : Int)) else _) = _; rw [if_neg (by omega), if_pos he])
          rw [he] at HV
          have l0 : (w2.alloc (lO L A2 c2 B2 d2)).cell? ⟨w2.heap.size, 0, none⟩ = some (.slice A2 L.nodes.length c2) := by rw [Lib.cell_of_heap (unhide HBx2)]; rfl
          have l1 : (w2.alloc (lO L A2 c2 B2 d2)).cell? ⟨w2.heap.size, 1, none⟩ = some (.slice B2 L.devs.length d2) := by rw [Lib.cell_of_heap (unhide HBx2)]; rfl
          clear he
          go_wp2_with fail
          refine (unhide HV).mono ?_
          rintro e w3 ⟨rfl, hb3⟩
          have hbx3 := heap_below (unhide HBx2) hb3
          have HRes3 := hide (heap_below (unhide HRes2) hb3)
          have HI3 := hide ((unhide HI2).keep hb3)
          have HB3 := hide (onward (unhide HB2) hb3)
          have k0 : w3.cell? ⟨w2.heap.size, 0, none⟩ = some (.slice A2 L.nodes.length c2) := by rw [Lib.cell_of_heap hbx3]; rfl
          have k1 : w3.cell? ⟨w2.heap.size, 1, none⟩ = some (.slice B2 L.devs.length d2) := by rw [Lib.cell_of_heap hbx3]; rfl
          clear l0 l1 hb3 hbx3
          go_wp2_with (first
            | (refine wpList_store_row rfl _ _ _ rfl w.heap.size #[.slice A2 L.nodes.length c2, .slice B2 L.devs.length d2] rfl rfl 25 _ (unhide HRes3) linfo_lay rfl (by simp [Value.oneCell']) ?_))
          have hR := setRow_heap w3 w.heap.size _ #[.slice A2 L.nodes.length c2, .slice B2 L.devs.length d2] _ _ (unhide HRes3)
          have z0 : (w3.setRow w.heap.size #[.slice A2 L.nodes.length c2, .slice B2 L.devs.length d2]).cell? ⟨w.heap.size, 0, none⟩ = some (.slice A2 L.nodes.length c2) := by rw [Lib.cell_of_heap hR]; rfl
          have z1 : (w3.setRow w.heap.size #[.slice A2 L.nodes.length c2, .slice B2 L.devs.length d2]).cell? ⟨w.heap.size, 1, none⟩ = some (.slice B2 L.devs.length d2) := by rw [Lib.cell_of_heap hR]; rfl
          rw [unhide HR]
          exact bodyPost_ret (v := .tuple #[.agg #[.slice A2 L.nodes.length c2, .slice B2 L.devs.length d2], .int .i64 0, .int .i64 0]) (by simp [results, go_sem, z0, z1]) rfl ⟨A2, c2, B2, d2, rfl, (SlB.row (unhide HRes3) _).lay (unhide HI3), lbelow_setRow (unhide HB3) (Nat.le_refl _) _⟩
        · have HR := hide (show parX s = (lay0, 0, layE L) by rw [unhide HX2]; show (if 0 < (0 : Int) then _ else if layE L = 0 then (L, (0 : Int), (0 : Int)) else (lay0, (0 : Int), layE L)) = _; rw [if_neg (by omega), if_neg he])
          have l0 : (w2.alloc (lO L A2 c2 B2 d2)).cell? ⟨w2.heap.size, 0, none⟩ = some (.slice A2 L.nodes.length c2) := by rw [Lib.cell_of_heap (unhide HBx2)]; rfl
          have l1 : (w2.alloc (lO L A2 c2 B2 d2)).cell? ⟨w2.heap.size, 1, none⟩ = some (.slice B2 L.devs.length d2) := by rw [Lib.cell_of_heap (unhide HBx2)]; rfl
          generalize layE L = er at *
          have herb : (er != 0) = true := by rw [bne_iff_ne]; exact he
          clear he
          go_wp2_with fail
          refine (unhide HV).mono ?_
          rintro e w3 ⟨rfl, hb3⟩
          have HRes3 := hide (heap_below (unhide HRes2) hb3)
          have HB3 := hide (onward (unhide HB2) hb3)
          clear l0 l1 hb3
          go_wp2_with (first
            | (refine wpList_store_row rfl _ _ _ rfl w.heap.size zL rfl rfl 25 _ (unhide HRes3) linfo_lay rfl (by simp [Value.oneCell']) ?_))
          obtain ⟨z0, z1⟩ := zL_cells (unhide HRes3)
          rw [unhide HR]
          exact bodyPost_ret (v := .tuple #[.agg zL, .int .i64 0, .int .i64 er]) (by simp [results, go_sem, z0, z1]) rfl (par_zero (unhide HB3))
  · have HR := hide (show parX s = (lay0, 0, 2) from if_neg hz)
    have hz1 : (4096 : Int) < (s.size : Int) := by omega
    go_enter Tryz.func21, Tryz.ntmps21
    go_wp2_with (first
      | (refine wpList_store_row rfl _ _ _ rfl w.heap.size zL rfl rfl 25 _ (unhide HRes) linfo_lay rfl (by simp [Value.oneCell']) ?_))
    obtain ⟨z0, z1⟩ := zL_cells (unhide HRes)
    rw [unhide HR]
    exact bodyPost_ret (v := .tuple #[.agg zL, .int .i64 0, .int .i64 2]) (by simp [results, go_sem, z0, z1]) rfl (par_zero (unhide HB0))
end Go.Proofs.YtfddpdognelhmaaGreatDoor
