/-
  Lanes (layer 17): the program's copy of a store; New.
-/
import Derived.Test.YtmmhchhekmcihaaLanBC
import Derived.Test.YtmmhchhekmcihaaDelK
namespace Go.Proofs.Ytmmhchhekmcihaa
open Go.RowKit

theorem info_sl : (Try.prog.info? 68).map (fun i => (i.zero, i.size, i.bytes)) = some (some (.slice none 0 0), 1, 24) := by kernel_rfl
theorem smakeL (n : Nat) (hn : n ≤ 1000000) (w : World) : (Instr.makeSlice 40 (.int .i64 (n : Int)) (.int .i64 (n : Int))).run Try.prog w = .ok (.slice (some ⟨w.heap.size, 0, none⟩) n n) (w.alloc (.cells (madeCells #[.slice none 0 0] n) 68)) :=
  run_make_row' 40 68 (.slice none 0 0) 24 Try.underlying40 info_sl rfl .i64 .i64 n (by omega) (by omega) w
/-- A lane's slice. -/
abbrev lnV (L : List (List Bg)) (rw : Nat → Option Addr × Nat) (i : Nat) : Value := .slice (rw i).1 (L.getD i []).length (rw i).2
/-- Lanes of a copy under way: the first k lanes stand in row R, each of its own. -/
structure ClI (R n k : Nat) (L : List (List Bg)) (rw : Nat → Option Addr × Nat) (W : World) : Prop where
  row : ∃ cur : Array Value, W.heap[R]? = some (.cells cur 68 (0, 0)) ∧ cur.size = n ∧ ∀ i, i < k → cur[i]? = some (lnV L rw i)
  own : ∀ i, i < k → W.ownsRow (R + 1) 39 2 (lnV L rw i) (L.getD i []).length ((L.getD i []).flatMap bgC)
  apart : ∀ i j, i < j → j < k → ∀ b, (lnV L rw i).ownBlock = some b → (lnV L rw j).ownBlock ≠ some b
section
variable {R n k : Nat} {L : List (List Bg)} {rw : Nat → Option Addr × Nat} {W W' : World}
theorem ClI.lt (h : ClI R n k L rw W) : R < W.heap.size := by
  obtain ⟨cur, h1, _⟩ := h.row
  exact (Array.getElem?_eq_some_iff.1 h1).1
theorem ClI.keep (h : ClI R n k L rw W) (hb : Below W.heap.size W W') : ClI R n k L rw W' := by
  obtain ⟨cur, h1, h2, h3⟩ := h.row
  exact ⟨⟨cur, heap_below h1 hb, h2, h3⟩, fun i hi => owns_later (h.own i hi) hb, h.apart⟩
theorem ClI.start (n : Nat) (L : List (List Bg)) (W : World) : ClI W.heap.size n 0 L (fun _ => (none, 0)) (W.alloc (.cells (madeCells #[.slice none 0 0] n) 68)) :=
  ⟨⟨_, heap_alloc_new W _, size_madeCells _ _, fun _ hi => absurd hi (Nat.not_lt_zero _)⟩, fun _ hi => absurd hi (Nat.not_lt_zero _), fun _ _ _ hj => absurd hj (Nat.not_lt_zero _)⟩
theorem ClI.there (h : ClI R n k L rw W) {j : Nat} (hj : j < n) : (∃ u, W.cell? ⟨R, j, none⟩ = some u) ∧ W.frozen? ⟨R, j, none⟩ = false := by
  obtain ⟨cur, h1, h2, h3⟩ := h.row
  exact ⟨⟨_, by rw [Lib.cell_of_heap h1, Array.getElem?_eq_getElem (by omega)]⟩, frozen_of_row _ _ _ _ _ h1⟩
theorem ClI.at (h : ClI R n k L rw W) {j : Nat} (hj : j < k) : W.cell? ⟨R, j, none⟩ = some (lnV L rw j) := by
  obtain ⟨cur, h1, h2, h3⟩ := h.row
  rw [Lib.cell_of_heap h1, h3 j hj]
def rwP (rw : Nat → Option Addr × Nat) (k : Nat) (A : Option Addr) (c : Nat) : Nat → Option Addr × Nat := fun i => if i = k then (A, c) else rw i
theorem ClI.step (h : ClI R n k L rw W) (hk : k < n) (hb : Below W.heap.size W W') {A : Option Addr} {c : Nat} (ho : W'.ownsRow W.heap.size 39 2 (.slice A (L.getD k []).length c) (L.getD k []).length ((L.getD k []).flatMap bgC)) :
    ClI R n (k + 1) L (rwP rw k A c) (W'.setCell ⟨R, k, none⟩ (.slice A (L.getD k []).length c)) := by
  have hR := h.lt
  have h' := h.keep hb
  have e0 : ∀ i, i < k → lnV L (rwP rw k A c) i = lnV L rw i := fun i hi => by unfold lnV rwP; rw [if_neg (by omega)]
  have e1 : lnV L (rwP rw k A c) k = .slice A (L.getD k []).length c := by unfold lnV rwP; rw [if_pos rfl]
  obtain ⟨cur, h1, h2, h3⟩ := h'.row
  have far : ∀ {v : Value} {m : Nat} {xs : List Value}, W'.ownsRow (R + 1) 39 2 v m xs → (W'.setCell ⟨R, k, none⟩ (.slice A (L.getD k []).length c)).ownsRow (R + 1) 39 2 v m xs := fun ho => owns_other ho (grown_set _ _ _ _) (fun g hg => by injection hg with hg; omega)
  refine ⟨⟨_, heap_set h1 _, by simpa using h2, fun i hi => ?_⟩, fun i hi => ?_, fun i j hij hj b hbi => ?_⟩
  · by_cases e : i = k
    · subst e; rw [Array.getElem?_setIfInBounds_self_of_lt (by omega), e1]
    · rw [Array.getElem?_setIfInBounds_ne (by omega), e0 i (by omega)]; exact h3 i (by omega)
  · by_cases e : i = k
    · subst e; rw [e1]; exact far (own_base ho (by omega))
    · rw [e0 i (by omega)]; exact far (h'.own i (by omega))
  · rw [e0 i (by omega)] at hbi
    by_cases e : j = k
    · subst e
      rw [e1]
      intro hbj
      have h5 := (h.own i hij).lt b hbi
      have h6 := ho.lt b hbj
      omega
    · rw [e0 j (by omega)]; exact h.apart i j hij (by omega) b hbi
theorem ClI.sto {S : Nat → Prop} (h : ClI R L.length L.length L rw W) (hs : ∀ b, S b → b < R) : StoI S W (some ⟨R, 0, none⟩) L L.length := by
  refine ⟨fun hn => ⟨R, 0, rfl, fun h => by have := hs _ h; omega, fun i hi => ⟨(rw i).1, (rw i).2, ?_, ?_, ?_⟩⟩, Nat.le_refl _⟩
  · rw [Nat.zero_add]; exact h.at hi
  · exact own_cap (h.own i hi)
  · exact bgs_own (h.own i hi) (fun b hb => by have := hs b hb; omega)
end
/-- What the copy of a store comes to. -/
def CloneTo (dp : Nat) (L : List (List Bg)) (w : World) (e : Ending) (w' : World) : Prop := ∃ R rw, w.heap.size ≤ R ∧ e = .returned (lnsV dp (some ⟨R, 0, none⟩) L.length L.length) ∧ ClI R L.length L.length L rw w' ∧ Below w.heap.size w w'
set_option maxHeartbeats 1000000 in
set_option maxRecDepth 100000 in
theorem clone_any (S : Nat → Prop) (dp : Nat) (L : List (List Bg)) (A : Option Addr) (c : Nat) (w : World) (hv : ValL dp L) (h : StoI S w A L c) :
    Calls Try.prog 44 #[lnsV dp A L.length c] w (CloneTo dp L w) := by
  obtain ⟨W, hW⟩ : ∃ W : World, (w.alloc (lnsO dp A L.length c)).alloc (lnsO 0 none 0 0) = W := ⟨_, rfl⟩
  have b1 : Below w.heap.size w W := by rw [← hW]; exact below_new (below_new (Below.refl w.heap.size w) _) _
  have hz : W.heap.size = w.heap.size + 2 := by rw [← hW, World.size_alloc, World.size_alloc]
  have hx : W.heap[w.heap.size]? = some (lnsO dp A L.length c) := by rw [← hW]; exact heap_later (heap_alloc_new w _) _
  have hy : W.heap[w.heap.size + 1]? = some (lnsO 0 none 0 0) := by
    have h := heap_alloc_new (w.alloc (lnsO dp A L.length c)) (lnsO 0 none 0 0)
    rw [World.size_alloc, hW] at h; exact h
  have HX := hide hx
  have HY := hide hy
  have HZ := hide hz
  have HS := hide (h.below b1)
  have HB := hide b1
  have HV := hide hv
  have hL : L.length ≤ 20 := hv.n.2
  have hmk := smakeL L.length (by omega)
  have z1 : W.cell? ⟨w.heap.size, 1, none⟩ = some (.slice A L.length c) := by rw [Lib.cell_of_heap hx]; rfl
  have z2 := kept (below_new (Below.refl W.heap.size W) (.cells (madeCells #[.slice none 0 0] L.length) 68)) z1
  have HI0 := hide (show ClI W.heap.size L.length 0 L (fun _ => (none, 0)) (W.alloc (.cells (madeCells #[.slice none 0 0] L.length) 68)) ∧ Below W.heap.size W (W.alloc (.cells (madeCells #[.slice none 0 0] L.length) 68)) from ⟨ClI.start _ _ _, below_new (Below.refl _ _) _⟩)
  clear b1 h hv hx hy hz
  go_enter Try.func44, Try.ntmps44
  go_wp2_with fail
  clear hmk z2 z1
  go_loopw [13] (fun s wr => ∃ (i : Nat) (rw : Nat → Option Addr × Nat), i ≤ L.length ∧ s = .int .i64 i ∧ Hid (ClI W.heap.size L.length i L rw wr ∧ Below W.heap.size W wr)) (fun s _ => L.length - (intOf s).toNat)
  case atStart => exact ⟨0, _, Nat.zero_le _, rfl, HI0⟩
  case round =>
    obtain ⟨i, rw, hi, rfl, HI⟩ := hrel
    obtain ⟨wo, rfl⟩ : ∃ wo : World, wo = wr := ⟨_, rfl⟩
    clear HI0
    by_cases hil : i < L.length
    · have il : (i : Int) < (L.length : Int) := by omega
      have i0 : (0 : Int) ≤ (i : Int) := by omega
      obtain ⟨g, off, rfl, _, hc⟩ := ((unhide HS).below (unhide HI).2).row (by omega)
      obtain ⟨A', c', c0, hcap, hb⟩ := hc i hil
      have hll : (L.getD i []).length ≤ 20 := Nat.le_trans ((unhide HV).len _ (mem_at hil)) (unhide HV).d.2
      have HC := hide (cloneS_any S A' c' (L.getD i []) wo hb (by omega))
      have HSt := hide (fun W' (hb : Below wo.heap.size wo W') A'' c'' => (unhide HI).1.step hil hb (A := A'') (c := c''))
      have HTh := hide (fun W' (hb : Below wo.heap.size wo W') => ((unhide HI).1.keep hb).there hil)
      clear hc hb
      generalize L.getD i [] = l at c0 hll HC HSt
      go_wp2_with fail
      refine (unhide HC).mono ?_
      rintro e w2 ⟨A2, c2, rfl, ho2, hb2⟩
      obtain ⟨⟨u0, d0⟩, d1⟩ := unhide HTh w2 hb2
      have HI2 := hide (show ClI W.heap.size L.length (i + 1) L (rwP rw i A2 c2) (w2.setCell ⟨W.heap.size, i, none⟩ (.slice A2 l.length c2)) ∧ Below W.heap.size W (w2.setCell ⟨W.heap.size, i, none⟩ (.slice A2 l.length c2)) from
        ⟨unhide HSt w2 hb2 A2 c2 ho2, below_put ((unhide HI).2.trans (hb2.mono (unhide HI).2.size)) (Nat.le_refl _) _ _⟩)
      clear ho2 hb2
      go_wp2
      go_roundw
      case rel => exact ⟨i + 1, _, by omega, by go_num, HI2⟩
      case measure => simp [intOf]; omega
    · have il : ¬ (i : Int) < (L.length : Int) := by omega
      obtain rfl : i = L.length := by omega
      have z0 : wo.cell? ⟨w.heap.size, 0, none⟩ = some (.int .i64 dp) := by rw [Lib.cell_of_heap (heap_below (unhide HX) (unhide HI).2)]; rfl
      have HY2 := hide (heap_below (unhide HY) (unhide HI).2)
      go_wp2_with (refine wpList_storeLn (unhide HY2) rfl _ _ rfl rfl rfl ?_)
      refine bodyPost_ret (v := lnsV dp (some ⟨W.heap.size, 0, none⟩) L.length L.length) (results_row1 rfl _ _ (w.heap.size + 1) _ _ _ _ rfl (setRow_heap _ _ _ _ _ _ (unhide HY2)) Try.underlying42 rfl infoLn) rfl ?_
      have hne : w.heap.size + 1 < W.heap.size := by rw [unhide HZ]; omega
      have hC := (unhide HI).1
      obtain ⟨cur, r1, r2, r3⟩ := hC.row
      refine ⟨W.heap.size, rw, by omega, rfl, ⟨⟨cur, by rw [setRow_other _ _ _ _ (by omega)]; exact r1, r2, r3⟩, fun j hj => owns_other (hC.own j hj) (grown_row _ _ _) (fun g hg => by injection hg with hg; omega), hC.apart⟩, below_row (onward (unhide HB) (unhide HI).2) (by omega) _⟩
set_option maxHeartbeats 1000000 in
set_option maxRecDepth 100000 in
theorem new_st (n d : Int) (w : World) : Calls Try.prog 23 #[.int .i64 n, .int .i64 d] w fun e w' => Below w.heap.size w w' ∧
    ((¬ (1 ≤ n ∧ n ≤ 20 ∧ 1 ≤ d ∧ d ≤ 20) ∧ e = .returned (.tuple #[lnsV 0 none 0 0, .int .i64 1])) ∨ ((1 ≤ n ∧ n ≤ 20 ∧ 1 ≤ d ∧ d ≤ 20) ∧ ∃ A c, e = .returned (.tuple #[lnsV d A n.toNat c, .int .i64 0]) ∧ ∀ S, Old S w → StoI S w' A (List.replicate n.toNat []) c)) := by
  obtain ⟨W, hW⟩ : ∃ W : World, w.alloc (lnsO 0 none 0 0) = W := ⟨_, rfl⟩
  have b1 : Below w.heap.size w W := by rw [← hW]; exact below_new (Below.refl w.heap.size w) _
  have hz : W.heap.size = w.heap.size + 1 := by rw [← hW, World.size_alloc]
  have hx : W.heap[w.heap.size]? = some (lnsO 0 none 0 0) := by rw [← hW]; exact heap_alloc_new w _
  have HX := hide hx
  have HB := hide b1
  have HZ := hide hz
  have HN := hide (fun W' => isSize_any n W')
  have HD := hide (fun W' => isSize_any d W')
  clear b1 hx hz
  by_cases hn : 1 ≤ n ∧ n ≤ 20
  · rw [decide_eq_true hn] at HN
    have HN := hide (unhide HN)
    by_cases hd : 1 ≤ d ∧ d ≤ 20
    · rw [decide_eq_true hd] at HD
      have HD := hide (unhide HD)
      obtain ⟨m, rfl⟩ : ∃ m : Nat, n = m := ⟨n.toNat, by omega⟩
      have hm : 1 ≤ m ∧ m ≤ 20 := by omega
      have HH := hide (show 1 ≤ (m : Int) ∧ (m : Int) ≤ 20 ∧ 1 ≤ d ∧ d ≤ 20 from ⟨hn.1, hn.2, hd.1, hd.2⟩)
      have hmk := smakeL m (by omega)
      obtain ⟨W2, hW2⟩ : ∃ W2 : World, W.alloc (.cells (madeCells #[.slice none 0 0] m) 68) = W2 := ⟨_, rfl⟩
      have b2 : Below W.heap.size W W2 := by rw [← hW2]; exact below_new (Below.refl _ _) _
      have HX2 := hide (heap_below (unhide HX) b2)
      have HR2 := hide (show W2.heap[W.heap.size]? = some (.cells (madeCells #[.slice none 0 0] m) 68) from by rw [← hW2]; exact heap_alloc_new W _)
      have HB2 := hide b2
      clear b2 hn hd
      go_enter Try.func23, Try.ntmps23
      go_wp2_with (first
        | (go_at_call 42; with_reducible refine (unhide HN _).mono ?_; rintro e wz ⟨rfl, rfl⟩)
        | (go_at_call 42; with_reducible refine (unhide HD _).mono ?_; rintro e wz ⟨rfl, rfl⟩)
        | (refine wpList_storeLn (unhide HX2) rfl _ _ rfl rfl rfl ?_))
      refine bodyPost_ret (v := .tuple #[lnsV d (some ⟨W.heap.size, 0, none⟩) m m, .int .i64 0]) (results_row2' rfl _ _ w.heap.size _ _ _ _ _ rfl rfl (setRow_heap _ _ _ _ _ _ (unhide HX2)) Try.underlying42 rfl infoLn) rfl ?_
      refine ⟨below_row (onward (unhide HB) (unhide HB2)) (Nat.le_refl _) _, .inr ⟨unhide HH, _, _, rfl, fun S hS => ?_⟩⟩
      have hzz := unhide HZ
      refine ⟨fun hn => ⟨W.heap.size, 0, rfl, fun h => by have := hS _ h; omega, fun i hi => ⟨none, 0, ?_, ?_, ?_⟩⟩, by rw [List.length_replicate]; omega⟩
      · rw [List.length_replicate] at hi
        have e : (List.replicate (m : Int).toNat ([] : List Bg)).getD i [] = [] := by rw [List.getD_eq_getElem?_getD, List.getElem?_replicate]; split <;> rfl
        rw [e, Nat.zero_add, Lib.cell_of_heap ((setRow_other _ _ _ _ (by omega)).trans (unhide HR2))]
        rw [← Array.getElem?_toList, toList_madeCells_one, List.getElem?_replicate, if_pos (by omega)]; rfl
      · rw [List.getD_eq_getElem?_getD, List.getElem?_replicate]; split <;> exact Nat.le_refl _
      · rw [List.getD_eq_getElem?_getD, List.getElem?_replicate]; split <;> exact fun h => absurd h (Nat.lt_irrefl _)
    · rw [decide_eq_false hd] at HD
      have HD := hide (unhide HD)
      have HH := hide (show ¬ (1 ≤ n ∧ n ≤ 20 ∧ 1 ≤ d ∧ d ≤ 20) from fun h => hd ⟨h.2.2.1, h.2.2.2⟩)
      clear hn hd
      go_enter Try.func23, Try.ntmps23
      go_wp2_with (first
        | (go_at_call 42; with_reducible refine (unhide HN _).mono ?_; rintro e wz ⟨rfl, rfl⟩)
        | (go_at_call 42; with_reducible refine (unhide HD _).mono ?_; rintro e wz ⟨rfl, rfl⟩)
        | (refine wpList_storeLn (unhide HX) rfl _ _ rfl rfl rfl ?_))
      refine bodyPost_ret (v := .tuple #[lnsV 0 none 0 0, .int .i64 1]) (results_row2' rfl _ _ w.heap.size _ _ _ _ _ rfl rfl (setRow_heap _ _ _ _ _ _ (unhide HX)) Try.underlying42 rfl infoLn) rfl ?_
      exact ⟨below_row (unhide HB) (Nat.le_refl _) _, .inl ⟨unhide HH, rfl⟩⟩
  · rw [decide_eq_false hn] at HN
    have HN := hide (unhide HN)
    have HH := hide (show ¬ (1 ≤ n ∧ n ≤ 20 ∧ 1 ≤ d ∧ d ≤ 20) from fun h => hn ⟨h.1, h.2.1⟩)
    clear hn
    go_enter Try.func23, Try.ntmps23
    go_wp2_with (first
      | (go_at_call 42; with_reducible refine (unhide HN _).mono ?_; rintro e wz ⟨rfl, rfl⟩)
      | (refine wpList_storeLn (unhide HX) rfl _ _ rfl rfl rfl ?_))
    refine bodyPost_ret (v := .tuple #[lnsV 0 none 0 0, .int .i64 1]) (results_row2' rfl _ _ w.heap.size _ _ _ _ _ rfl rfl (setRow_heap _ _ _ _ _ _ (unhide HX)) Try.underlying42 rfl infoLn) rfl ?_
    exact ⟨below_row (unhide HB) (Nat.le_refl _) _, .inl ⟨unhide HH, rfl⟩⟩
end Go.Proofs.Ytmmhchhekmcihaa
