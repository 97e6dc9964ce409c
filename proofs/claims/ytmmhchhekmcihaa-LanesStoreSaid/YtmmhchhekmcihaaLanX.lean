/-
  Lanes (layer 17): the program's assign: the places of the bags, and the first bag of the last lane.
-/
import Derived.Test.YtmmhchhekmcihaaLanW
import Derived.Test.YtmmhchhekmcihaaDelK
namespace Go.Proofs.Ytmmhchhekmcihaa
open Go.RowKit

/-- The places of the first k bags stand in block P. -/
def PlI (w : World) (P n k : Nat) (f : Nat → Int × Int) : Prop := ∃ cur : Array Value, w.heap[P]? = some (.cells cur 59 (0, 0)) ∧ cur.size = n * 2 ∧ ∀ i, i < k → cur[i * 2]? = some (.int .i64 (f i).1) ∧ cur[i * 2 + 1]? = some (.int .i64 (f i).2)
section
variable {w w' : World} {P n k : Nat} {f : Nat → Int × Int}
theorem PlI.other (h : PlI w P n k f) {row : Option Nat} (hg : w.grownBy w' row) (hr : some P ≠ row) : PlI w' P n k f := by
  obtain ⟨cur, h1, h2, h3⟩ := h
  exact ⟨cur, (hg.block P (Array.getElem?_eq_some_iff.1 h1).1 hr).trans h1, h2, h3⟩
theorem PlI.keep (h : PlI w P n k f) (hb : Below w.heap.size w w') : PlI w' P n k f := by
  obtain ⟨cur, h1, h2, h3⟩ := h
  exact ⟨cur, heap_below h1 hb, h2, h3⟩
theorem PlI.far (h : PlI w P n k f) {q i : Nat} (hq : P ≠ q) (u : Value) : PlI (w.setCell ⟨q, i, none⟩ u) P n k f := by
  obtain ⟨cur, h1, h2, h3⟩ := h
  exact ⟨cur, heap_setOther h1 hq u, h2, h3⟩
theorem PlI.there (h : PlI w P n k f) {j : Nat} (hj : j < n * 2) : (∃ u, w.cell? ⟨P, j, none⟩ = some u) ∧ w.frozen? ⟨P, j, none⟩ = false := by
  obtain ⟨cur, h1, h2, h3⟩ := h
  exact ⟨⟨_, by rw [Lib.cell_of_heap h1, Array.getElem?_eq_getElem (by omega)]⟩, frozen_of_row _ _ _ _ _ h1⟩
theorem PlI.put (h : PlI w P n k f) {j : Nat} (hj : k * 2 ≤ j) (u : Value) : PlI (w.setCell ⟨P, j, none⟩ u) P n k f := by
  obtain ⟨cur, h1, h2, h3⟩ := h
  refine ⟨_, heap_set h1 u, by simpa using h2, fun i hi => ?_⟩
  rw [Array.getElem?_setIfInBounds_ne (by omega), Array.getElem?_setIfInBounds_ne (by omega)]
  exact h3 i hi
theorem PlI.at (h : PlI w P n k f) {j : Nat} (hj : j < n * 2) (u : Value) : (w.setCell ⟨P, j, none⟩ u).cell? ⟨P, j, none⟩ = some u := by
  obtain ⟨cur, h1, h2, _⟩ := h
  rw [Lib.cell_of_heap (heap_set h1 u), Array.getElem?_setIfInBounds_self_of_lt (by omega)]
theorem PlI.apart (h : PlI w P n k f) {j i : Nat} {v : Value} (hj : j ≠ i) (hc : w.cell? ⟨P, i, none⟩ = some v) (u : Value) : (w.setCell ⟨P, j, none⟩ u).cell? ⟨P, i, none⟩ = some v := by
  obtain ⟨cur, h1, h2, _⟩ := h
  rw [Lib.cell_of_heap h1] at hc
  rw [Lib.cell_of_heap (heap_set h1 u), Array.getElem?_setIfInBounds_ne hj]
  exact hc
theorem PlI.succ (h : PlI w P n k f) (h1 : w.cell? ⟨P, k * 2, none⟩ = some (.int .i64 (f k).1)) (h2 : w.cell? ⟨P, k * 2 + 1, none⟩ = some (.int .i64 (f k).2)) : PlI w P n (k + 1) f := by
  obtain ⟨cur, c1, c2, c3⟩ := h
  rw [Lib.cell_of_heap c1] at h1 h2
  refine ⟨cur, c1, c2, fun i hi => ?_⟩
  rcases Nat.lt_or_ge i k with h | h
  · exact c3 i h
  · obtain rfl : i = k := by omega
    exact ⟨h1, h2⟩
end
theorem info_place : (Try.prog.info? 59).map (fun i => (i.zero, i.size, i.bytes)) = some (some (.agg #[.int .i64 0, .int .i64 0]), 2, 16) := by kernel_rfl
theorem make_places (n : Nat) (hn : n ≤ 1000) (w : World) :
    (Instr.makeSlice 55 (.int .i64 (n : Int)) (.int .i64 (n : Int))).run Try.prog w = .ok (.slice (some ⟨w.heap.size, 0, none⟩) n n) (w.alloc (.cells (madeCells #[.int .i64 0, .int .i64 0] (n * 2)) 59)) := by
  obtain ⟨i, hi, hz, hs, hb⟩ := info_parts info_place
  have h := run_make (P := Try.prog) w 55 59 i _ Try.underlying55 hi hz .i64 .i64 n n (by omega) (by omega) (by rw [hb]; omega) (by omega)
  rw [hs] at h
  exact h
/-- What assign keeps behind k bags. -/
structure AsW (due : List Int) (w wr : World) (k : Nat) (L : Option Addr) (cL : Nat) : Prop where
  pl : PlI wr w.heap.size due.length k (plF due)
  own : wr.ownsRow (w.heap.size + 1) 3 1 (.slice L (asgK due k).E.length cL) (asgK due k).E.length ((lastL due k).map (Value.int .i64))
  blw : Below w.heap.size w wr
  lt : w.heap.size < wr.heap.size
theorem AsW.keep {due : List Int} {w wr w' : World} {k : Nat} {L : Option Addr} {cL : Nat} (h : AsW due w wr k L cL) (hb : Below wr.heap.size wr w') : AsW due w w' k L cL :=
  ⟨h.pl.keep hb, owns_later h.own hb, onward h.blw hb, Nat.lt_of_lt_of_le h.lt hb.size⟩
theorem AsW.start (due : List Int) (w : World) : AsW due w (w.alloc (.cells (madeCells #[.int .i64 0, .int .i64 0] (due.length * 2)) 59)) 0 none 0 :=
  ⟨⟨_, heap_alloc_new w _, size_madeCells _ _, fun i hi => absurd hi (Nat.not_lt_zero _)⟩, World.ownsRow_nil _ _ _ _, below_new (Below.refl _ _) _, by rw [World.size_alloc]; omega⟩
/-- What the end of a round finds, writes and leaves. -/
structure AsT (due : List Int) (w WB W7 W8 W9 : World) (k q p cq : Nat) : Prop where
  c0 : (∃ u, WB.cell? ⟨q, p, none⟩ = some u) ∧ WB.frozen? ⟨q, p, none⟩ = false
  c1 : (∃ u, W7.cell? ⟨w.heap.size, k * 2, none⟩ = some u) ∧ W7.frozen? ⟨w.heap.size, k * 2, none⟩ = false
  c2 : (∃ u, W8.cell? ⟨w.heap.size, k * 2 + 1, none⟩ = some u) ∧ W8.frozen? ⟨w.heap.size, k * 2 + 1, none⟩ = false
  c3 : (∃ u, W9.cell? ⟨w.heap.size, k * 2 + 1, none⟩ = some u) ∧ W9.frozen? ⟨w.heap.size, k * 2 + 1, none⟩ = false
  c4 : 0 < p → W9.cell? ⟨q, p - 1, none⟩ = some (.int .i64 (plF due k).2)
  e0 : p = 0 → AsW due w W9 (k + 1) (some ⟨q, 0, none⟩) cq
  e1 : 0 < p → AsW due w (W9.setCell ⟨w.heap.size, k * 2 + 1, none⟩ (.int .i64 (plF due k).2)) (k + 1) (some ⟨q, 0, none⟩) cq
theorem as_tail {due : List Int} {w WB W7 W8 W9 : World} {k q p cq M : Nat} {Lx : List Int} (hk : k < due.length) (hpl : PlI WB w.heap.size due.length k (plF due)) (ho : WB.ownsRow (w.heap.size + 1) 3 1 (.slice (some ⟨q, 0, none⟩) M cq) M (Lx.map (Value.int .i64)))
    (hb : Below w.heap.size w WB) (hlt : w.heap.size < WB.heap.size) (hM : M = (asgK due (k + 1)).E.length) (hset : Lx.set p (k : Int) = lastL due (k + 1)) (hLx : ∀ j, j < p → Lx.getD j 0 = (lastL due k).getD j 0) (hp : p < M) (hp' : plc (asgK due k).E (due.getD k 0) = p)
    (e7 : WB.setCell ⟨q, p, none⟩ (.int .i64 k) = W7) (e8 : W7.setCell ⟨w.heap.size, k * 2, none⟩ (.int .i64 p) = W8) (e9 : W8.setCell ⟨w.heap.size, k * 2 + 1, none⟩ (.int .i64 (-1)) = W9) : AsT due w WB W7 W8 W9 k q p cq := by
  have hql : w.heap.size + 1 ≤ q ∧ q < WB.heap.size := ho.lt q rfl
  have hlen : Lx.length = M := by have := ho.1; rw [List.length_map] at this; omega
  have hne : w.heap.size ≠ q := by omega
  have o7 : W7.ownsRow (w.heap.size + 1) 3 1 (.slice (some ⟨q, 0, none⟩) M cq) M ((Lx.set p (k : Int)).map (Value.int .i64)) := by
    rw [← e7, List.map_set]; exact own_put ho _
  have p7 : PlI W7 w.heap.size due.length k (plF due) := by rw [← e7]; exact hpl.far hne _
  have p8 : PlI W8 w.heap.size due.length k (plF due) := by rw [← e8]; exact p7.put (Nat.le_refl _) _
  have p9 : PlI W9 w.heap.size due.length k (plF due) := by rw [← e9]; exact p8.put (by omega) _
  have lo : ∀ {W : World} {j : Nat} {u : Value} {xs : List Value}, W.ownsRow (w.heap.size + 1) 3 1 (.slice (some ⟨q, 0, none⟩) M cq) M xs → (W.setCell ⟨w.heap.size, j, none⟩ u).ownsRow (w.heap.size + 1) 3 1 (.slice (some ⟨q, 0, none⟩) M cq) M xs := fun h => owns_other h (grown_set _ _ _ _) (fun g hg => by injection hg with hg; omega)
  have o9 : W9.ownsRow (w.heap.size + 1) 3 1 (.slice (some ⟨q, 0, none⟩) M cq) M ((Lx.set p (k : Int)).map (Value.int .i64)) := by
    rw [← e9, ← e8]; exact lo (lo o7)
  have b9 : Below w.heap.size w W9 := by
    rw [← e9, ← e8, ← e7]
    exact below_put (below_put (below_put hb (by omega) _ _) (Nat.le_refl _) _ _) (Nat.le_refl _) _ _
  have z9 : w.heap.size < W9.heap.size := by rw [← e9, ← e8, ← e7]; simpa [World.setCell] using hlt
  have c8 : W8.cell? ⟨w.heap.size, k * 2, none⟩ = some (.int .i64 p) := by rw [← e8]; exact p7.at (by omega) _
  have c9 : W9.cell? ⟨w.heap.size, k * 2, none⟩ = some (.int .i64 p) := by rw [← e9]; exact p8.apart (by omega) c8 _
  have d9 : W9.cell? ⟨w.heap.size, k * 2 + 1, none⟩ = some (.int .i64 (-1)) := by rw [← e9]; exact p8.at (by omega) _
  refine ⟨?_, p7.there (by omega), p8.there (by omega), p9.there (by omega), fun h0 => ?_, fun h0 => ?_, fun h0 => ?_⟩
  · have h := own_there ho p (by rw [List.length_map]; omega)
    exact ⟨Option.isSome_iff_exists.1 h.1, h.2⟩
  · have hn := nums_own o9 (b := w.heap.size) (.inl (by omega)) (by rw [List.length_set]; omega)
    obtain ⟨g, off, hA, _, hc⟩ := hn
    injection hA with hA
    injection hA with hA hB _
    subst hA; subst hB
    have := hc (p - 1) (by rw [List.length_set]; omega)
    rw [Nat.zero_add, getD_set (by omega), if_neg (by omega), hLx _ (by omega)] at this
    rw [this]
    obtain ⟨p', rfl⟩ : ∃ p', p = p' + 1 := ⟨p - 1, by omega⟩
    rw [plF_pos hk hp']; rfl
  · have hf : plF due k = (0, -1) := plF_zero hk (by omega)
    refine ⟨p9.succ ?_ ?_, by rw [← hM, ← hset]; exact o9, b9, z9⟩
    · rw [c9, hf, h0]; rfl
    · rw [d9, hf]
  · obtain ⟨p', rfl⟩ : ∃ p', p = p' + 1 := ⟨p - 1, by omega⟩
    have hf : (plF due k).1 = ((p' + 1 : Nat) : Int) := by rw [plF_pos hk hp']; rfl
    have p10 := p9.put (j := k * 2 + 1) (by omega) (.int .i64 (plF due k).2)
    refine ⟨p10.succ ?_ ?_, by rw [← hM, ← hset]; exact lo o9, below_put b9 (Nat.le_refl _) _ _, by simpa [World.setCell] using z9⟩
    · rw [p9.apart (by omega) c9 _, hf]
    · exact p9.at (by omega) _
/-- What assign comes to. -/
def AsTo (due : List Int) (w : World) (e : Ending) (w' : World) : Prop := e = .returned (.tuple #[.slice (some ⟨w.heap.size, 0, none⟩) due.length due.length, .int .i64 (opF due)]) ∧ PlI w' w.heap.size due.length due.length (plF due) ∧ Below w.heap.size w w' ∧ w.heap.size < w'.heap.size
set_option maxHeartbeats 4000000 in
set_option maxRecDepth 100000 in
theorem assign_any (b : Nat) (due : List Int) (A : Option Addr) (c : Nat) (w : World) (hz : due.length ≤ 200) (ht : ∀ x ∈ due, 0 ≤ x ∧ x ≤ 1048576) (h : NumsIn b w A due) :
    Calls Try.prog 35 #[.slice A due.length c] w (AsTo due w) := by
  have hmk := make_places due.length (by omega)
  obtain ⟨i0, hi, hz0, hz1, hz2⟩ := info_parts linfo_int
  have HI0 := hide hi
  have HZ0 := hide hz0
  have HZ1 := hide hz1
  have HZ2 := hide hz2
  have HN := hide h
  have HT := hide ht
  have H0 := hide (AsW.start due w)
  clear hi hz0 hz1 hz2 h ht
  go_enter Try.func35, Try.ntmps35
  go_wp2_with fail
  clear hmk
  go_loopw [5, 6, 18] (fun s5 s6 s18 wr => ∃ (k : Nat) (L : Option Addr) (cL : Nat), k ≤ due.length ∧ s18 = .int .i64 k ∧ s6 = .slice L (asgK due k).E.length cL ∧ s5 = .int .i64 (opK due k) ∧ Hid (AsW due w wr k L cL)) (fun _ _ s18 _ => due.length - (intOf s18).toNat)
  case atStart => exact ⟨0, none, 0, Nat.zero_le _, rfl, rfl, rfl, H0⟩
  case round =>
    obtain ⟨k, L, cL, hk, rfl, rfl, rfl, HA⟩ := hrel
    obtain ⟨wo, rfl⟩ : ∃ wo : World, wo = wr := ⟨_, rfl⟩
    clear H0
    by_cases hlt : k < due.length
    · obtain ⟨g, off, rfl, _, hc⟩ := ((unhide HN).keep (unhide HA).blw) (by omega)
      have c0 := hc k hlt
      have HC := hide hc
      have kl : (k : Int) < (due.length : Int) := by omega
      have k0 : (0 : Int) ≤ (k : Int) := by omega
      clear hc
      have ⟨x0, x1⟩ := (unhide HT) (due.getD k 0) (by rw [at_k hlt]; exact List.getElem_mem _)
      have HD := hide (asgI due k hk).desc
      have HE := hide (fun j hj => E_range (unhide HT) hk (j := j) hj)
      have HEnd := hide (fun y => shK_end (E := (asgK due k).E) (x := due.getD k 0) x0 (unhide HD) (fun j hj => (unhide HE j hj).1) y)
      have HLd := hide (fun j hj => lastL_due (due := due) hk (j := j) hj)
      have HLat := hide (fun j hj => lastL_at (due := due) (k := k) (j := j) hj)
      have HNum := hide (fun W (hb : Below wo.heap.size wo W) => nums_own ((unhide HA).keep hb).own (b := w.heap.size) (.inl (Nat.lt_succ_self _)))
      have HLl := hide (lastL_len due k)
      have HStep := hide (lastL_step hlt)
      have HOn := hide (fun h => opK_new (due := due) hlt h)
      have HOo := hide (fun h => opK_old (due := due) hlt h)
      have HPl := hide (plc_le (asgK due k).E (due.getD k 0))
      have HEl := hide (putE_len (asgK due k).E (due.getD k 0))
      have HEs := hide (show (asgK due (k + 1)).E = putE (asgK due k).E (due.getD k 0) from by rw [asgK_step hlt]; rfl)
      have hm200 : (asgK due k).E.length ≤ 200 := Nat.le_trans (asg_low hk) (by omega)
      obtain ⟨m, hm⟩ : ∃ m, (asgK due k).E.length = m := ⟨_, rfl⟩
      obtain ⟨x, hx⟩ : ∃ x, due.getD k 0 = x := ⟨_, rfl⟩
      have HM := hide hm
      have HX := hide hx
      rw [hx] at c0 x0 x1 HEnd HStep HOn HOo HPl HEl HEs
      rw [hm] at hm200 HEnd HLl HLd HE HLat HStep HOn HOo HPl HEl
      rw [hm]
      have HEnd := hide (unhide HEnd)
      have HLd := hide (unhide HLd)
      have HE := hide (unhide HE)
      clear hm hx
      go_wp2_with fail
      refine (chooser_any x _).mono ?_
      rintro e w1 ⟨rfl, hc1, hb1, _⟩
      have HI := hide (show ChI w1 wo.heap.size x (shK (asgK due k).E x 0) ∧ Below wo.heap.size wo w1 from ⟨hc1, hb1⟩)
      clear hc1 hb1
      go_wp2_with fail
      go_loopw [27] (fun s27 wi => ∃ j : Nat, j ≤ m ∧ s27 = .int .i64 j ∧ Hid (ChI wi wo.heap.size x (shK (asgK due k).E x j) ∧ Below wo.heap.size wo wi)) (fun s27 _ => m - (intOf s27).toNat)
      case atStart => exact ⟨0, Nat.zero_le _, rfl, HI⟩
      case round =>
        obtain ⟨j, hj, rfl, HJ⟩ := hrel
        clear HI
        obtain ⟨wq, rfl⟩ : ∃ wq : World, wq = wr := ⟨_, rfl⟩
        by_cases hjm : j < m
        · have jm : (j : Int) < (m : Int) := by omega
          have j0 : (0 : Int) ≤ (j : Int) := by omega
          obtain ⟨gl, ol, hL, _, hcl⟩ := (unhide HNum) _ (unhide HJ).2 (by rw [unhide HLl]; omega)
          have d0 := hcl j (by rw [unhide HLl]; exact hjm)
          rw [unhide HLat j hjm] at d0
          obtain ⟨l1, l2⟩ := unhide HLd j hjm
          have ⟨y0, y1⟩ := unhide HE j hjm
          have d1 := kept (unhide HJ).2 (unhide HC _ (Nat.lt_trans l1 hlt))
          rw [l2] at d1
          have HS := hide (show shK (asgK due k).E x (j + 1) = showF (shK (asgK due k).E x j) j (rateF false ((asgK due k).E.getD j 0) x) from rfl)
          clear hcl l2
          have l1' : lastI (asgK due k).L j k < due.length := Nat.lt_trans l1 hlt
          generalize lastI (asgK due k).L j k = bj at d0 d1 l1'
          generalize (asgK due k).E.getD j 0 = y at d1 y0 y1 HS
          have bj0 : (bj : Int) < (due.length : Int) := by omega
          have bj1 : (0 : Int) ≤ (bj : Int) := by omega
          have HSh := hide (show_any j false y x (shK (asgK due k).E x j) wo.heap.size wq y0 y1 (unhide HJ).1)
          subst hL
          clear l1
          go_wp2_with fail
          refine (unhide HSh).mono ?_
          rintro e w2 ⟨rfl, hc2, hb2⟩
          have HJ2 := hide (show ChI w2 wo.heap.size x (shK (asgK due k).E x (j + 1)) ∧ Below wo.heap.size wo w2 from ⟨by rw [unhide HS]; exact hc2, (unhide HJ).2.trans hb2⟩)
          clear hc2 hb2
          go_wp2
          go_roundw
          case rel => exact ⟨j + 1, by omega, by go_num, HJ2⟩
          case measure => simp [intOf]; omega
        · obtain rfl : j = m := by omega
          have jm : ¬ (j : Int) < (j : Int) := by omega
          have HSh := hide (show_any j true 0 x (shK (asgK due k).E x j) wo.heap.size wq (Int.le_refl _) (by omega) (unhide HJ).1)
          rw [unhide HEnd] at HSh
          have HSh := hide (unhide HSh)
          have hp := unhide HPl
          obtain ⟨p, hp'⟩ : ∃ p, plc (asgK due k).E x = p := ⟨_, rfl⟩
          rw [hp'] at HSh hp HStep HOn HOo HEl
          have HP' := hide hp'
          have HSh := hide (unhide HSh)
          clear hp' hjm
          go_wp2_with fail
          refine (unhide HSh).mono ?_
          rintro e w3 ⟨rfl, _, hb3⟩
          have HA3 := hide ((unhide HA).keep ((unhide HJ).2.trans hb3))
          clear hb3
          by_cases hpm : p = j
          · subst hpm
            have HOp := hide (unhide HOn rfl)
            have HMM := hide (show p + 1 = (asgK due (k + 1)).E.length from by rw [unhide HEs, unhide HEl, if_neg (Nat.lt_irrefl _)])
            have HSet := hide (show (lastL due k ++ [(k : Int)]).set p (k : Int) = lastL due (k + 1) from by
              rw [unhide HStep, if_neg (Nat.lt_irrefl _)]
              refine ext_getD (d := 0) (by rw [List.length_set]) fun i hi => ?_
              rw [getD_set (by rw [List.length_append, unhide HLl]; simp)]
              by_cases e : p = i
              · rw [if_pos e, ← e, getD_end (unhide HLl).symm]
              · rw [if_neg e])
            have HLx := hide (show ∀ i, i < p → (lastL due k ++ [(k : Int)]).getD i 0 = (lastL due k).getD i 0 from fun i hi => getD_app (by rw [unhide HLl]; exact hi))
            have HNw := hide (World.news_of_block (heap_alloc_new w3 (.cells #[.int .i64 k] 3)))
            have HO3 := hide (show (w3.alloc (.cells #[.int .i64 k] 3)).ownsRow (w.heap.size + 1) 3 1 (.slice L p cL) p ((lastL due k).map (Value.int .i64)) from by
              have := owns_later (unhide HA3).own (below_new (Below.refl w3.heap.size w3) (.cells #[.int .i64 k] 3)); rw [unhide HM] at this; exact this)
            have HP3 := hide ((unhide HA3).pl.keep (below_new (Below.refl w3.heap.size w3) (.cells #[.int .i64 k] 3)))
            have HB3 := hide (below_new (unhide HA3).blw (.cells #[.int .i64 k] 3))
            have hz3 : w.heap.size + 1 ≤ (w3.alloc (.cells #[.int .i64 k] 3)).heap.size := by rw [World.size_alloc]; have := (unhide HA3).lt; omega
            go_wp2_with (at_builtin; refine wpList_append_lies _ rfl _ _ 22 rfl (w.heap.size + 1) 3 i0 (.int .i64 0) 1 8 Try.underlying22 (unhide HI0) (unhide HZ0) (unhide HZ1) (unhide HZ2) rfl (by decide) _ _ _ rfl (unhide HO3) ⟨w3.heap.size, 0, none⟩ 1 1 [.int .i64 k] rfl rfl (unhide HNw) (fun u hu => by rw [List.mem_singleton.1 hu]; rfl) (by decide) (by unfold maxLen; omega) (by omega) hz3 _ rfl ?_)
            intro q cq w6 hown hgrow hat hlt6
            have HOW := hide (show w6.ownsRow (w.heap.size + 1) 3 1 (.slice (some ⟨q, 0, none⟩) (p + 1) cq) (p + 1) ((lastL due k ++ [(k : Int)]).map (Value.int .i64)) from by rw [List.map_append]; exact hown)
            have hr : ∀ j, (Value.slice L p cL).ownBlock = some j → w.heap.size + 1 ≤ j := fun j e => ((unhide HO3).lt j e).1
            have HPI := hide ((unhide HP3).other hgrow (fun e => by have := hr _ e.symm; omega))
            have HBW := hide ((unhide HB3).grown hgrow (unhide HB3).size (fun j e => by have := hr j e; omega))
            have HZW := hide (show w.heap.size < w6.heap.size from Nat.lt_of_lt_of_le (by omega) hgrow.size)
            have hpM : p < p + 1 := Nat.lt_succ_self p
            have pI : (p : Int) < (p : Int) + 1 := by omega
            clear hown hgrow hat hlt6 hr hz3
            obtain ⟨W7, hW7⟩ : ∃ W7 : World, w6.setCell ⟨q, p, none⟩ (.int .i64 k) = W7 := ⟨_, rfl⟩
            obtain ⟨W8, hW8⟩ : ∃ W8 : World, W7.setCell ⟨w.heap.size, k * 2, none⟩ (.int .i64 p) = W8 := ⟨_, rfl⟩
            obtain ⟨W9, hW9⟩ : ∃ W9 : World, W8.setCell ⟨w.heap.size, k * 2 + 1, none⟩ (.int .i64 (-1)) = W9 := ⟨_, rfl⟩
            have HT9 := hide (as_tail (p := p) hlt (unhide HPI) (unhide HOW) (unhide HBW) (unhide HZW) (unhide HMM) (unhide HSet) (unhide HLx) hpM (by rw [unhide HX]; exact unhide HP') hW7 hW8 hW9)
            obtain ⟨⟨u0, q0⟩, f0⟩ := (unhide HT9).c0
            obtain ⟨⟨u1, q1⟩, f1⟩ := (unhide HT9).c1
            obtain ⟨⟨u2, q2⟩, f2⟩ := (unhide HT9).c2
            obtain ⟨⟨u3, q3⟩, f3⟩ := (unhide HT9).c3
            by_cases hp0 : 0 < p
            · have t0 : (0 : Int) < (p : Int) := by omega
              have q4 := (unhide HT9).c4 hp0
              have HR := hide ((unhide HT9).e1 hp0)
              have hw : IntKind.i64.wrap ((p : Int) - 1) = ((p - 1 : Nat) : Int) := by rw [IntKind.wrap_i64]; omega
              have q5 : ((p - 1 : Nat) : Int) < (p : Int) + 1 := by omega
              generalize (plF due k).2 = bf at q4 HR
              go_wp2
              go_roundw
              case rel => exact ⟨k + 1, _, _, by omega, by go_num, by rw [← unhide HMM], by rw [unhide HOp], HR⟩
              case measure => simp [intOf]; omega
            · have t0 : ¬ (0 : Int) < (p : Int) := by omega
              have HR := hide ((unhide HT9).e0 (by omega))
              go_wp2
              go_roundw
              case rel => exact ⟨k + 1, _, _, by omega, by go_num, by rw [← unhide HMM], by rw [unhide HOp], HR⟩
              case measure => simp [intOf]; omega
          · have hpl : p < j := by omega
            have HOp := hide (unhide HOo hpl)
            have HMM := hide (show j = (asgK due (k + 1)).E.length from by rw [unhide HEs, unhide HEl, if_pos hpl])
            have HSet := hide (show (lastL due k).set p (k : Int) = lastL due (k + 1) from by rw [unhide HStep, if_pos hpl])
            have HLx := hide (show ∀ i, i < p → (lastL due k).getD i 0 = (lastL due k).getD i 0 from fun i hi => rfl)
            have HO3 := hide (show w3.ownsRow (w.heap.size + 1) 3 1 (.slice L j cL) j ((lastL due k).map (Value.int .i64)) from by have := (unhide HA3).own; rw [unhide HM] at this; exact this)
            obtain ⟨q, rfl⟩ := own_some (unhide HO3) (by omega)
            have HOW := hide (unhide HO3)
            have HPI := hide (unhide HA3).pl
            have HBW := hide (unhide HA3).blw
            have HZW := hide (unhide HA3).lt
            have hpM : p < j := hpl
            have pI : (p : Int) < (j : Int) := by omega
            have pE : ((p : Int) == (j : Int)) = false := by rw [beq_eq_false_iff_ne]; omega
            obtain ⟨W7, hW7⟩ : ∃ W7 : World, w3.setCell ⟨q, p, none⟩ (.int .i64 k) = W7 := ⟨_, rfl⟩
            obtain ⟨W8, hW8⟩ : ∃ W8 : World, W7.setCell ⟨w.heap.size, k * 2, none⟩ (.int .i64 p) = W8 := ⟨_, rfl⟩
            obtain ⟨W9, hW9⟩ : ∃ W9 : World, W8.setCell ⟨w.heap.size, k * 2 + 1, none⟩ (.int .i64 (-1)) = W9 := ⟨_, rfl⟩
            have HT9 := hide (as_tail (p := p) hlt (unhide HPI) (unhide HOW) (unhide HBW) (unhide HZW) (unhide HMM) (unhide HSet) (unhide HLx) hpM (by rw [unhide HX]; exact unhide HP') hW7 hW8 hW9)
            obtain ⟨⟨u0, q0⟩, f0⟩ := (unhide HT9).c0
            obtain ⟨⟨u1, q1⟩, f1⟩ := (unhide HT9).c1
            obtain ⟨⟨u2, q2⟩, f2⟩ := (unhide HT9).c2
            obtain ⟨⟨u3, q3⟩, f3⟩ := (unhide HT9).c3
            by_cases hp0 : 0 < p
            · have t0 : (0 : Int) < (p : Int) := by omega
              have q4 := (unhide HT9).c4 hp0
              have HR := hide ((unhide HT9).e1 hp0)
              have hw : IntKind.i64.wrap ((p : Int) - 1) = ((p - 1 : Nat) : Int) := by rw [IntKind.wrap_i64]; omega
              have q5 : ((p - 1 : Nat) : Int) < (j : Int) := by omega
              generalize (plF due k).2 = bf at q4 HR
              go_wp2
              go_roundw
              case rel => exact ⟨k + 1, _, _, by omega, by go_num, by rw [← unhide HMM], by rw [unhide HOp], HR⟩
              case measure => simp [intOf]; omega
            · have t0 : ¬ (0 : Int) < (p : Int) := by omega
              have HR := hide ((unhide HT9).e0 (by omega))
              go_wp2
              go_roundw
              case rel => exact ⟨k + 1, _, _, by omega, by go_num, by rw [← unhide HMM], by rw [unhide HOp], HR⟩
              case measure => simp [intOf]; omega
    · obtain rfl : k = due.length := by omega
      have kl : ¬ (due.length : Int) < (due.length : Int) := by omega
      go_wp2
      go_ret2
      exact ⟨by rw [← opK_end]; rfl, (unhide HA).pl, (unhide HA).blw, (unhide HA).lt⟩
end Go.Proofs.Ytmmhchhekmcihaa
