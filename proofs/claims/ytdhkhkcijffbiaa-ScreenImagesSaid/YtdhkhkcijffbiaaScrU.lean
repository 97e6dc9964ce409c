/-
  Screening (layer 15): the program's deadline and fail.
-/
import Derived.Test.YtdhkhkcijffbiaaScrT
namespace Go.Proofs.Ytdhkhkcijffbiaa
open Go.RowKit

set_option maxRecDepth 100000 in
theorem pdeadline_any (s : Scr) (x : Ck) (A : Option Addr) (c : Nat) (w : World) (hl : (0 ≤ s.l0 ∧ s.l0 ≤ 1000) ∧ (0 ≤ s.l1 ∧ s.l1 ≤ 1000) ∧ (0 ≤ s.l2 ∧ s.l2 ≤ 1000) ∧ (0 ≤ s.l3 ∧ s.l3 ≤ 1000)) (hx : 1 ≤ x.lv ∧ x.lv ≤ 4) (hs : 0 ≤ x.si ∧ x.si ≤ 1048576) :
    Calls Try.prog 37 #[scrV s A c, x.v] w fun e w' => e = .returned (.int .i64 (dlF s x)) ∧ Below w.heap.size w w' := by
  obtain ⟨h1, h4⟩ := hx
  obtain ⟨i0, i1⟩ := hs
  obtain ⟨⟨a0, a1⟩, ⟨b0, b1⟩, ⟨c0, c1⟩, ⟨d0, d1⟩⟩ := hl
  have HB := hide (below_new (below_new (Below.refl w.heap.size w) (scrO s A c)) (.cells x.arr 42))
  have hc : x.lv = 1 ∨ x.lv = 2 ∨ x.lv = 3 ∨ x.lv = 4 := by omega
  obtain ⟨bag, lv, si, im, st⟩ := x
  obtain ⟨l0, l1, l2, l3, nx, l⟩ := s
  simp only [] at *
  rcases hc with rfl | rfl | rfl | rfl
  all_goals
    go_enter Try.func37, Try.ntmps37
    go_wp2_with fail
    go_quiet (fail)
    go_wp2
    go_ret
    exact ⟨rfl, draws (unhide HB) _⟩
/-- One cell of a check in a row. -/
theorem flat_set {k j : Nat} {u : Value} {x' : Ck} : ∀ {l : List Ck}, k < l.length → j < 5 → x'.cs = (l.getD k ck0).cs.set j u → (l.flatMap Ck.cs).set (k * 5 + j) u = (l.set k x').flatMap Ck.cs := by
  intro l
  induction l generalizing k with
  | nil => intro hk; exact absurd hk (Nat.not_lt_zero _)
  | cons y l ih =>
    intro hk hj hx
    rw [List.flatMap_cons]
    cases k with
    | zero =>
      rw [Nat.zero_mul, Nat.zero_add, List.set_append_left _ _ (by rw [Ck.cs_len]; exact hj), List.set_cons_zero, List.flatMap_cons, hx]; rfl
    | succ k =>
      have e : (k + 1) * 5 + j = y.cs.length + (k * 5 + j) := by rw [Ck.cs_len]; omega
      rw [e, List.set_append_right _ _ (by omega), Nat.add_sub_cancel_left, List.set_cons_succ, List.flatMap_cons, ih (by simpa using hk) hj hx]
section
variable {B ob g c : Nat} {o : Scr} {W W' : World}
theorem OutS.put (h : OutS B ob o (some ⟨g, 0, none⟩) c W) {k j : Nat} {u : Value} (x' : Ck) (hk : k < o.l.length) (hj : j < 5) (hx : x'.cs = (o.l.getD k ck0).cs.set j u) :
    OutS B ob { o with l := o.l.set k x' } (some ⟨g, 0, none⟩) c (W.setCell ⟨g, k * 5 + j, none⟩ u) := by
  have hg := (h.own.lt g rfl).1
  have hl := h.lt
  refine ⟨?_, ?_, hl⟩
  · rw [Below.heap_setCell _ _ _ _ (by simp only []; omega)]
    show W.heap[ob]? = some (scrO { o with l := o.l.set k x' } (some ⟨g, 0, none⟩) c)
    unfold scrO scrA
    rw [List.length_set]
    exact h.box
  · show (W.setCell ⟨g, k * 5 + j, none⟩ u).ownsRow B 42 5 (.slice (some ⟨g, 0, none⟩) (o.l.set k x').length c) (o.l.set k x').length ((o.l.set k x').flatMap Ck.cs)
    rw [List.length_set, ← flat_set hk hj hx]
    exact own_put h.own u
theorem OutS.row {A : Option Addr} {k : Nat} (h : OutS B ob o A c W) (hk : k < o.l.length) : ∃ g, A = some ⟨g, 0, none⟩ ∧ B ≤ g ∧ ∀ j u, (o.l.getD k ck0).arr[j]? = some u → W.cell? ⟨g, k * 5 + j, none⟩ = some u := by
  obtain ⟨g, cur, hA, hb, hg, _, _, hc⟩ := own_cells h.own (by omega)
  refine ⟨g, hA, hb, fun j u hu => ?_⟩
  rw [Lib.cell_of_heap hg]
  rw [Ck.arr_cs, at_k hk] at hu
  have hj : j < 5 := by have := (List.getElem?_eq_some_iff.1 hu).1; rwa [Ck.cs_len] at this
  exact hc _ _ ((flatK_at Ck.cs 5 Ck.cs_len o.l k hk j hj).trans hu)
theorem OutS.frow (h : OutS B ob o (some ⟨g, 0, none⟩) c W) (i : Nat) : W.frozen? ⟨g, i, none⟩ = false := by
  rcases h.own.2 with ⟨e, _⟩ | ⟨g', cap, cur, e, _, hg, _⟩
  · cases e
  · injection e with e1; injection e1 with e1; injection e1 with e1; subst e1
    exact Lib.frozen_of_heap hg i
end
/-- A screening under way in the call's own box, the result's box R. -/
structure UnS (w : World) (B R : Nat) (o : Scr) (A : Option Addr) (c : Nat) (W : World) : Prop where
  bel : Below w.heap.size w W
  out : OutS B w.heap.size o A c W
  rs : W.heap[R]? = some (scrO scr0 none 0)
  hR : w.heap.size < R
  lR : R < B
section
variable {w W W' : World} {B R g c k : Nat} {o : Scr} {A : Option Addr}
theorem UnS.below (h : UnS w B R o A c W) (hb : Below W.heap.size W W') : UnS w B R o A c W' := ⟨onward h.bel hb, h.out.below hb, heap_below h.rs hb, h.hR, h.lR⟩
theorem UnS.next (h : UnS w B R o A c W) (n : Int) : UnS w B R { o with next := n } A c (W.setCell ⟨w.heap.size, 4, none⟩ (.int .i64 n)) :=
  ⟨h.bel.setCell (p := ⟨w.heap.size, 4, none⟩) (Nat.le_refl _) _, h.out.next n, by rw [Below.heap_setCell _ _ _ _ (by have := h.hR; simp only []; omega)]; exact h.rs, h.hR, h.lR⟩
theorem UnS.put (h : UnS w B R o (some ⟨g, 0, none⟩) c W) {j : Nat} {u : Value} (x' : Ck) (hk : k < o.l.length) (hj : j < 5) (hx : x'.cs = (o.l.getD k ck0).cs.set j u) :
    UnS w B R { o with l := o.l.set k x' } (some ⟨g, 0, none⟩) c (W.setCell ⟨g, k * 5 + j, none⟩ u) := by
  have hg := (h.out.own.lt g rfl).1
  have h1 := h.hR
  have h2 := h.lR
  exact ⟨h.bel.setCell (p := ⟨g, k * 5 + j, none⟩) (by simp only []; omega) _, h.out.put x' hk hj hx, by rw [Below.heap_setCell _ _ _ _ (by simp only []; omega)]; exact h.rs, h1, h2⟩
end
def failE (x : Ck) (n : Int) : Int := if x.lv = 4 then 0 else if 1048576 < n then 2 else 0
def failO (o : Scr) (k : Nat) (x : Ck) (now : Int) : Scr := if failE x o.next = 0 then { o with next := (failF x o.next now).2, l := o.l.set k (failF x o.next now).1 } else o
theorem getD_set {l : List Ck} {k : Nat} (hk : k < l.length) (x : Ck) : (l.set k x).getD k ck0 = x := by
  rw [at_k (by rw [List.length_set]; exact hk), List.getElem_set_self]
set_option maxHeartbeats 2000000 in
set_option maxRecDepth 100000 in
theorem pfail_any {w W : World} {B R c : Nat} {o : Scr} {A : Option Addr} (k : Nat) (x : Ck) (now : Int) (h : UnS w B R o A c W) (hk : k < o.l.length) (hx : o.l.getD k ck0 = x) (hv : 1 ≤ x.lv ∧ x.lv ≤ 4) (hn : 1 ≤ o.next ∧ o.next ≤ 1048617) :
    Calls Try.prog 38 #[.pointer (some ⟨w.heap.size, 0, none⟩), .int .i64 k, .int .i64 now] W fun e W' => e = .returned (.int .i64 (failE x o.next)) ∧ UnS w B R (failO o k x now) A c W' := by
  obtain ⟨g, rfl, hg, hc⟩ := h.out.row hk
  rw [hx] at hc
  have c1 := hc 1 _ rfl
  have c4 := hc 4 _ rfl
  have c2 := hc 2 _ rfl
  have c3 := hc 3 _ rfl
  have f1 := h.out.frow (k * 5 + 1)
  have f2 := h.out.frow (k * 5 + 2)
  have f3 := h.out.frow (k * 5 + 3)
  have f4 := h.out.frow (k * 5 + 4)
  have z4 : W.cell? ⟨w.heap.size, 4, none⟩ = some (.int .i64 o.next) := by rw [Lib.cell_of_heap h.out.box]; rfl
  have z5 : W.cell? ⟨w.heap.size, 5, none⟩ = some (.slice (some ⟨g, 0, none⟩) o.l.length c) := by rw [Lib.cell_of_heap h.out.box]; rfl
  have fn := Lib.frozen_of_heap h.out.box 4
  have kl : (k : Int) < (o.l.length : Int) := by omega
  have k0 : (0 : Int) ≤ (k : Int) := by omega
  have hlt := h.out.lt
  have gne : ¬ g = w.heap.size := by omega
  have HX := hide hx
  have H := hide h
  have HK := hide hk
  clear hx h hk hc
  by_cases h4 : x.lv = 4
  · have he : failE x o.next = 0 := by unfold failE; rw [if_pos h4]
    have HE := hide he
    have HF := hide (show failO o k x now = { o with l := o.l.set k { x with st := 3 } } by unfold failO; rw [if_pos he]; unfold failF; rw [if_pos h4])
    clear he
    have hge : (4 : Int) ≤ x.lv := by omega
    clear h4
    go_enter Try.func38, Try.ntmps38
    go_wp2
    go_ret
    rw [unhide HF]
    exact ⟨by rw [unhide HE]; rfl, (unhide H).put { x with st := 3 } (unhide HK) (by omega) (by rw [unhide HX]; rfl)⟩
  · have hge : ¬ (4 : Int) ≤ x.lv := by omega
    by_cases hl : 1048576 < o.next
    · have he : failE x o.next = 2 := by unfold failE; rw [if_neg h4, if_pos hl]
      have HE := hide he
      have HF := hide (show failO o k x now = o by unfold failO; rw [if_neg (by rw [he]; decide)])
      clear he
      clear h4
      go_enter Try.func38, Try.ntmps38
      go_wp2
      go_ret
      rw [unhide HF]
      exact ⟨by rw [unhide HE]; rfl, unhide H⟩
    · have HE := hide (show failE x o.next = 0 by unfold failE; rw [if_neg h4, if_neg hl])
      have HF := hide (show failO o k x now = { o with next := o.next + 1, l := o.l.set k ⟨x.bag, x.lv + 1, now, o.next, x.st⟩ } by unfold failO; rw [if_pos (unhide HE)]; unfold failF; rw [if_neg h4])
      clear h4
      go_enter Try.func38, Try.ntmps38
      have HU := hide (((((unhide H).put (j := 1) (u := .int .i64 (x.lv + 1)) ⟨x.bag, x.lv + 1, x.si, x.im, x.st⟩ (unhide HK) (by omega) (by rw [unhide HX]; rfl)).put (j := 2) (u := .int .i64 now) ⟨x.bag, x.lv + 1, now, x.im, x.st⟩ (by rw [List.length_set]; exact unhide HK) (by omega) (by rw [getD_set (unhide HK)]; rfl)).put (j := 3) (u := .int .i64 o.next) ⟨x.bag, x.lv + 1, now, o.next, x.st⟩ (by rw [List.length_set, List.length_set]; exact unhide HK) (by omega) (by rw [getD_set (by rw [List.length_set]; exact unhide HK)]; rfl)))
      have hlv : IntKind.i64.wrap (x.lv + 1) = x.lv + 1 := by rw [IntKind.wrap_i64]; omega
      go_upto_region 7 with fail
      go_region_with (fail)
      all_goals
        try rw [hlv]
        generalize ((W.setCell ⟨g, k * 5 + 1, none⟩ (.int .i64 (x.lv + 1))).setCell ⟨g, k * 5 + 2, none⟩ (.int .i64 now)).setCell ⟨g, k * 5 + 3, none⟩ (.int .i64 o.next) = W5 at *
        have HU2 := hide ((unhide HU).below (Below.refl _ W5).drew)
        clear HU c1 c2 c3 c4 f1 f2 f3 f4 z4 z5 fn
        generalize W5.drew = W6 at *
        have z4 : W6.cell? ⟨w.heap.size, 4, none⟩ = some (.int .i64 o.next) := by rw [Lib.cell_of_heap (unhide HU2).out.box]; rfl
        have fn := Lib.frozen_of_heap (unhide HU2).out.box 4
        have HU3 := hide ((unhide HU2).next (o.next + 1))
        go_wp2
        go_ret
        rw [unhide HF]
        refine ⟨by rw [unhide HE]; rfl, ?_⟩
        have h7 := unhide HU3
        simp only [List.set_set] at h7
        exact h7
end Go.Proofs.Ytdhkhkcijffbiaa
