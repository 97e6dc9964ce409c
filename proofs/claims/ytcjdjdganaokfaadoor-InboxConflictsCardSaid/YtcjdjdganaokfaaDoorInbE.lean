/-
  Contract of hold: a message is added to those that a sender holds.
-/
import Derived.Test.YtcjdjdganaokfaaDoorInbD
import Derived.OrdersHeld
import Derived.Test.YtcjdjdganaokfaaDoorMsgAF
namespace Go.Proofs.YtcjdjdganaokfaaDoor
open Go.RowKit

/-- A list with one thing more at a place. -/
def insL {α : Type} (l : List α) (i : Nat) (x : α) : List α := l.take i ++ [x] ++ l.drop i
theorem insL_len {α : Type} (l : List α) (i : Nat) (x : α) : (insL l i x).length = l.length + 1 := by
  unfold insL
  rw [List.length_append, List.length_append, List.length_take, List.length_drop, List.length_singleton]; omega
theorem flatK_take {α : Type} (f : α → List Value) (n : Nat) (hf : ∀ x, (f x).length = n) (l : List α) (i : Nat) : (l.flatMap f).take (i * n) = (l.take i).flatMap f := by
  induction l generalizing i with
  | nil => simp
  | cons x l ih =>
    cases i with
    | zero => simp
    | succ i =>
      rw [List.flatMap_cons, List.take_succ_cons, List.flatMap_cons, show (i + 1) * n = (f x).length + i * n by rw [hf, Nat.add_mul]; omega, List.take_length_add_append, ih]
theorem flatK_drop {α : Type} (f : α → List Value) (n : Nat) (hf : ∀ x, (f x).length = n) (l : List α) (i : Nat) : (l.flatMap f).drop (i * n) = (l.drop i).flatMap f := by
  induction l generalizing i with
  | nil => simp
  | cons x l ih =>
    cases i with
    | zero => simp
    | succ i =>
      rw [List.flatMap_cons, List.drop_succ_cons, show (i + 1) * n = (f x).length + i * n by rw [hf, Nat.add_mul]; omega, List.drop_length_add_append, ih]
theorem insL_flat {α : Type} (f : α → List Value) (n : Nat) (hf : ∀ x, (f x).length = n) (l : List α) (i : Nat) (x : α) : (l.flatMap f).take (i * n) ++ f x ++ (l.flatMap f).drop (i * n) = (insL l i x).flatMap f := by
  unfold insL
  rw [flatK_take f n hf, flatK_drop f n hf, List.flatMap_append, List.flatMap_append, List.flatMap_singleton]
theorem insL_mem {α : Type} {l : List α} {i : Nat} {x y : α} (h : y ∈ insL l i x) : y = x ∨ y ∈ l := by
  unfold insL at h
  rcases List.mem_append.1 h with h | h
  · rcases List.mem_append.1 h with h | h
    · exact .inr (List.mem_of_mem_take h)
    · exact .inl (List.mem_singleton.1 h)
  · exact .inr (List.mem_of_mem_drop h)
theorem insL_map {α β : Type} (f : α → β) (l : List α) (i : Nat) (x : α) : (insL l i x).map f = insL (l.map f) i (f x) := by
  unfold insL
  simp [List.map_take, List.map_drop]

section
variable {P : Program} {ops : Array Oper} {Q : Exit → Act → World → Prop} {md : Region.Mode} {S : World → Prop}
/-- A slice of one struct is built: the operation. -/
theorem wp_build1 {w : World} {o : Oper} {a : Act} {K : Act → World → Prop} (t e : TypeId) (x : Operand) (ho : o.op = .buildSlice t 1 #[(0, x)])
    (arr : Array Value) (i : TypeInfo) (z : Value) (size : Nat) (ht : P.underlying t = some (.slice e)) (hi : P.info? e = some i) (hz : i.zero = some z) (hsize : i.size = size) (hsz : 0 < size) (hsm : size ≤ 1000) (hzs : z.cells.size = size)
    (hx : a.eval x = .agg arr) (ha : arr.size = size) (h : K (a.put o.dst (.slice (some ⟨w.heap.size, 0, none⟩) 1 1)) (w.alloc (.cells arr e))) : o.wp P a w K Q := by
  subst hsize
  refine wp_buildSlice t e 1 _ ho arr i z ht hi hz (by omega) (by omega) ?_ h
  have := Great.fill_whole (s := i.size) hsz [.agg arr] ((Array.range (1 * i.size)).map (z.cells[· % z.cells.size]!)) (fun v hv => by rw [List.mem_singleton.1 hv]; exact ha) (by simp)
  simpa [hx, Value.cells] using this
/-- Two operations may come up. -/
theorem wpAnyH_two {i j : Nat} {oi oj : Oper} {fuel : Nat} {listed : Array Bool} {a : Act} {w : World} (hr : Region.ready md ops listed = [i, j]) (hoi : ops[i]? = some oi) (hoj : ops[j]? = some oj)
    (hi : ∀ K' : Act → World → Prop, (∀ a w, (S w ∧ wpAnyH P md ops Q S fuel (listed.setIfInBounds i true) a w) → K' a w) → if Region.wanted oi (yielded ops a.tmps) = true then Oper.wp P oi a w K' Q else K' (a.put oi.dst undef) w)
    (hj : ∀ K' : Act → World → Prop, (∀ a w, (S w ∧ wpAnyH P md ops Q S fuel (listed.setIfInBounds j true) a w) → K' a w) → if Region.wanted oj (yielded ops a.tmps) = true then Oper.wp P oj a w K' Q else K' (a.put oj.dst undef) w) :
    wpAnyH P md ops Q S (fuel + 1) listed a w := wpAnyH_all hr (by simp) (fun k hk => by
  rcases List.mem_cons.1 hk with rfl | hk
  · exact wpOp_step hoi hi
  · cases List.mem_singleton.1 hk
    exact wpOp_step hoj hj)
end

/-- What hold leaves behind: the sender's row of messages, the slice in the sender's third cell. -/
def Held (base : Nat) (w : World) (G o : Nat) (s : SnS) (x : MsS) (e : Ending) (w' : World) : Prop :=
  ∃ (A' : Option Addr) (c' : Nat) (y : MsS) (w1 : World), e = .returned (.tuple #[]) ∧ y.m = x.m ∧ MsgsOwn base w1 A' c' (insL s.held (lbF (numC x.m.num) s.held) y) ∧ w.grownBy w1 s.blk ∧ w' = w1.setCell ⟨G, o + 2, none⟩ (.slice A' (s.held.length + 1) c')

set_option maxHeartbeats 4000000 in
set_option maxRecDepth 100000 in
theorem hold_any (b base G o : Nat) (cur : Array Value) (s : SnS) (x : MsS) (w : World) (hG : w.heap[G]? = some (.cells cur 93 (0, 0))) (h0 : cur[o]? = some (.string s.port)) (h1 : cur[o + 1]? = some (.int .i64 s.next)) (h2 : cur[o + 2]? = some (.slice s.A s.held.length s.c))
    (hs : MsgsOwn base w s.A s.c s.held) (hb : b < base) (hbase : base ≤ w.heap.size) (hz : s.held.length ≤ 900) (hx : x.Lies b w) (hz1 : x.m.onw.length ≤ 1000) (hz2 : x.m.lst.length ≤ 1000) (hm : MonoF (numC x.m.num) s.held ms0) :
    Calls Tryd.prog 41 #[.pointer (some ⟨G, o, none⟩), x.v] w (Held base w G o s x) := by
  obtain ⟨i0, z0, hi0, hia, hib, hic, hid⟩ := info_size info_msg
  obtain ⟨W1, hW1⟩ : ∃ W1 : World, w.alloc (.cells x.arr 32) = W1 := ⟨_, rfl⟩
  have b1 : Below w.heap.size w W1 := by rw [← hW1]; exact (Below.refl _ _).alloc (Nat.le_refl _) _
  have hM1 : W1.heap[w.heap.size]? = some (.cells x.arr 32 (0, 0)) := by rw [← hW1]; exact heap_alloc_new w _
  have hG1 := (b1.block _ (Array.getElem?_eq_some_iff.1 hG).1).trans hG
  have hGW : G < W1.heap.size := (Array.getElem?_eq_some_iff.1 hG1).1
  have hMW : w.heap.size < W1.heap.size := (Array.getElem?_eq_some_iff.1 hM1).1
  have c0 : ∀ t : After W1, t.to.cell? ⟨G, o, none⟩ = some (.string s.port) := fun t => After.cell (by rw [Lib.cell_of_heap hG1]; exact h0) t
  have c1 : ∀ t : After W1, t.to.cell? ⟨G, o + 1, none⟩ = some (.int .i64 s.next) := fun t => After.cell (by rw [Lib.cell_of_heap hG1]; exact h1) t
  have c2 : ∀ t : After W1, t.to.cell? ⟨G, o + 2, none⟩ = some (.slice s.A s.held.length s.c) := fun t => After.cell (by rw [Lib.cell_of_heap hG1]; exact h2) t
  have c3 : ∀ t : After W1, t.to.cell? ⟨w.heap.size, 3, none⟩ = some (.int .i64 x.m.num) := fun t => After.cell (by rw [Lib.cell_of_heap hM1]; rfl) t
  have HC := hide (fun t : After W1 => findheld_any b s x.m.num t.to (((hs.below b1).ins hb).keep t.is) (by omega) hm)
  go_enter Tryd.func41, Tryd.ntmps41
  go_wp2_with fail
  refine wp_region_after (by kernel_rfl) (by kernel_rfl) ?_
  repeat (go_big_quiet_step ((first | (go_at_call 45; exact After.call (unhide HC _)))))
  refine wpQuiet_nil ?_
  rintro _ ⟨t, rfl⟩
  obtain ⟨W2, hb2⟩ := t
  have hM2 := (hb2.block _ hMW).trans hM1
  have hG2 := (hb2.block _ hGW).trans hG1
  have hs2 := (hs.below b1).below hb2
  have hx2 := (hx.keep b1).keep hb2
  have hbb := onward b1 hb2
  have c4 : W2.cell? ⟨G, o + 2, none⟩ = some (.slice s.A s.held.length s.c) := c2 ⟨W2, hb2⟩
  clear c0 c1 c2 c3 HC
  go_wp2_with fail
  refine wp_region_held (S := fun X => X.heap[w.heap.size]? = some (.cells x.arr 32 (0, 0))) (by kernel_rfl) ?_
  have HS := hide (show (W2.drew).heap[w.heap.size]? = some (.cells x.arr 32 (0, 0)) from hM2)
  refine wpAnyH_take (i := 0) (v := .pointer (some ⟨G, o, none⟩)) rfl (by kernel_rfl) (by kernel_rfl) (by kernel_rfl) (fun _ _ _ h => h) (Or.inl ⟨by rfl, by intro w _; go_simp⟩) (unhide HS) ?_
  refine wpAnyH_take (i := 1) (v := .pointer (some ⟨G, o, none⟩)) rfl (by kernel_rfl) (by kernel_rfl) (by kernel_rfl) (fun _ _ _ h => h) (Or.inl ⟨by rfl, by intro w _; go_simp⟩) (unhide HS) ?_
  refine wpAnyH_take (i := 2) (v := .pointer (some ⟨G, o, none⟩)) rfl (by kernel_rfl) (by kernel_rfl) (by kernel_rfl) (fun _ _ _ h => h) (Or.inl ⟨by rfl, by intro w _; go_simp⟩) (unhide HS) ?_
  refine wpAnyH_take (i := 3) (v := .pointer (some ⟨G, o + 2, none⟩)) rfl (by kernel_rfl) (by kernel_rfl) (by kernel_rfl) (fun _ _ _ h => h) (Or.inl ⟨by rfl, by intro w _; go_simp⟩) (unhide HS) ?_
  refine wpAnyH_take (i := 5) (v := .int .i64 (lbF (numC x.m.num) s.held : Nat)) rfl (by kernel_rfl) (by kernel_rfl) (by kernel_rfl) (fun _ _ _ h => h) (Or.inl ⟨by rfl, by intro w _; go_simp⟩) (unhide HS) ?_
  refine wpAnyH_take (i := 6) (v := x.v) rfl (by kernel_rfl) (by kernel_rfl) (by kernel_rfl) (fun _ _ _ h => h) (yields_loadM _ rfl rfl rfl (fun _ h => h)) (unhide HS) ?_
  refine wpAnyH_two (i := 4) (j := 7) (by kernel_rfl) rfl rfl (fun K hK => ?_) (fun K hK => ?_)
  case' refine_1 =>
    have c4' : (W2.drew).cell? ⟨G, o + 2, none⟩ = some (.slice s.A s.held.length s.c) := c4
    go_simp
    refine hK _ _ ⟨unhide HS, ?_⟩
    clear hK K
    clear c4'
    refine wpAnyH_one (i := 7) (by kernel_rfl) rfl (fun K hK => ?_)
    go_simp
    go_at_call 84
    refine (cm_any b x W2.drew (hx2.keep (Below.refl _ W2).drew) hz1 hz2).mono ?_
    rintro e w7 ⟨y, rfl, hym, hyo, hb7⟩
    try go_simp
    have hb27 : Below W2.heap.size W2 w7 := onward ((Below.refl _ W2).drew) hb7
    have c5 := kept hb27 c4
    have hS7 : w7.heap[w.heap.size]? = some (.cells x.arr 32 (0, 0)) := (hb27.block _ (Array.getElem?_eq_some_iff.1 hM2).1).trans hM2
    refine hK _ _ ⟨hS7, ?_⟩
    clear hK K
    refine wpAnyH_one (i := 8) (by kernel_rfl) rfl (fun K hK => ?_)
    rw [if_pos (by rfl)]
    refine wp_build1 52 32 _ rfl y.arr i0 z0 30 Tryd.underlying52 hi0 hia hib (by decide) (by decide) hid rfl rfl ?_
    have hS8 : (w7.alloc (.cells y.arr 32)).heap[w.heap.size]? = some (.cells x.arr 32 (0, 0)) := (Below.heap_alloc _ _ _ (Array.getElem?_eq_some_iff.1 hS7).1).trans hS7
    have c6 := alloc_cell c5 (.cells y.arr 32)
    refine hK _ _ ⟨hS8, ?_⟩
    clear hK K
  case' refine_2 =>
    go_simp
    go_at_call 84
    refine (cm_any b x W2.drew (hx2.keep (Below.refl _ W2).drew) hz1 hz2).mono ?_
    rintro e w7 ⟨y, rfl, hym, hyo, hb7⟩
    try go_simp
    have hb27 : Below W2.heap.size W2 w7 := onward ((Below.refl _ W2).drew) hb7
    have c5 := kept hb27 c4
    have hS7 : w7.heap[w.heap.size]? = some (.cells x.arr 32 (0, 0)) := (hb27.block _ (Array.getElem?_eq_some_iff.1 hM2).1).trans hM2
    refine hK _ _ ⟨hS7, ?_⟩
    clear hK K
    refine wpAnyH_two (i := 4) (j := 8) (by kernel_rfl) rfl rfl (fun K hK => ?_) (fun K hK => ?_)
    case' refine_1 =>
      go_simp
      refine hK _ _ ⟨hS7, ?_⟩
      clear hK K
      refine wpAnyH_one (i := 8) (by kernel_rfl) rfl (fun K hK => ?_)
      rw [if_pos (by rfl)]
      refine wp_build1 52 32 _ rfl y.arr i0 z0 30 Tryd.underlying52 hi0 hia hib (by decide) (by decide) hid rfl rfl ?_
      have hS8 : (w7.alloc (.cells y.arr 32)).heap[w.heap.size]? = some (.cells x.arr 32 (0, 0)) := (Below.heap_alloc _ _ _ (Array.getElem?_eq_some_iff.1 hS7).1).trans hS7
      have c6 := alloc_cell c5 (.cells y.arr 32)
      refine hK _ _ ⟨hS8, ?_⟩
      clear hK K
    case' refine_2 =>
      rw [if_pos (by rfl)]
      refine wp_build1 52 32 _ rfl y.arr i0 z0 30 Tryd.underlying52 hi0 hia hib (by decide) (by decide) hid rfl rfl ?_
      have hS8 : (w7.alloc (.cells y.arr 32)).heap[w.heap.size]? = some (.cells x.arr 32 (0, 0)) := (Below.heap_alloc _ _ _ (Array.getElem?_eq_some_iff.1 hS7).1).trans hS7
      have c6 := alloc_cell c5 (.cells y.arr 32)
      refine hK _ _ ⟨hS8, ?_⟩
      clear hK K
      refine wpAnyH_one (i := 4) (by kernel_rfl) rfl (fun K hK => ?_)
      go_simp
      refine hK _ _ ⟨hS8, ?_⟩
      clear hK K
  all_goals
    have hb28 : Below W2.heap.size W2 (w7.alloc (.cells y.arr 32)) := below_new hb27 _
    have hs8 := hs2.below hb28
    have hG8 := (hb28.block _ (Array.getElem?_eq_some_iff.1 hG2).1).trans hG2
    have hv8 : (w7.alloc (.cells y.arr 32)).heap[w7.heap.size]? = some (.cells y.cs.toArray 32 (0, 0)) := heap_alloc_new w7 _
    have hz8 : base ≤ W2.heap.size := by have := b1.size; have := hb2.size; omega
    have hz9 := hb28.size
    have hyo8 := (hyo.base (show base ≤ W2.drew.heap.size from hz8)).below ((Below.refl _ w7).alloc (Nat.le_refl _) (.cells y.arr 32))
    have hap : ∀ k, (Value.slice s.A s.held.length s.c).ownBlock = some k → w7.heap.size ≠ k := fun k hk e => by
      have h1 := (hs2.row.lt k hk).2
      have h2 := hb27.size
      omega
    refine wpAnyH_one (i := 9) (by kernel_rfl) rfl (fun K hK => ?_)
    go_simp
    go_at_call 83
    refine (insM_any base s.A s.held.length s.c (lbF (numC x.m.num) s.held) w7.heap.size (s.held.flatMap MsS.cs) y.cs (w7.alloc (.cells y.arr 32)) hs8.row (lbF_le _ _) (by omega) rfl hv8 hap cs_one (fun u hu => cs_one (xs := [y]) u (by simpa using hu)) (by omega)).mono ?_
    rintro e w9 ⟨A', c', rfl, hown, hgrow⟩
    try go_simp
    have hM8 := (hb28.block _ (Array.getElem?_eq_some_iff.1 hM2).1).trans hM2
    have hne : some w.heap.size ≠ (Value.slice s.A s.held.length s.c).ownBlock := fun e => by
      have h1 := (hs.row.lt _ e.symm).2
      omega
    have hS9 := (hgrow.block _ (Array.getElem?_eq_some_iff.1 hM8).1 hne).trans hM8
    have hG9 := (hgrow.block _ (Array.getElem?_eq_some_iff.1 hG8).1 (own_ne hs8.row hG8 (by decide))).trans hG8
    have hO9 : MsgsOwn base w9 A' c' (insL s.held (lbF (numC x.m.num) s.held) y) := by
      refine ⟨?_, fun u hu => ?_⟩
      · rw [insL_len, ← insL_flat MsS.cs 30 MsS.cs_len]; exact hown
      · have k1 : KeepTy 26 (w7.alloc (.cells y.arr 32)) w9 := KeepTy.grow hs8.row (by decide) hgrow
        have k2 : KeepTy 3 (w7.alloc (.cells y.arr 32)) w9 := KeepTy.grow hs8.row (by decide) hgrow
        rcases insL_mem hu with rfl | hu
        · exact hyo8.step k1 k2
        · exact (hs8.each u hu).step k1 k2
    have hR9 : w.grownBy w9 s.blk := Lib.grownBy_trans (gr_below (onward hbb hb28) _) hgrow
    refine hK _ _ ⟨hS9, ?_⟩
    clear hK K
    refine wpAnyH_take (i := 10) (v := .pointer (some ⟨G, o, none⟩)) rfl (by kernel_rfl) (by kernel_rfl) (by kernel_rfl) (fun _ _ _ h => h) (Or.inl ⟨by rfl, by intro w _; go_simp⟩) hS9 ?_
    refine wpAnyH_take (i := 11) (v := .pointer (some ⟨G, o + 2, none⟩)) rfl (by kernel_rfl) (by kernel_rfl) (by kernel_rfl) (fun _ _ _ h => h) (Or.inl ⟨by rfl, by intro w _; go_simp⟩) hS9 ?_
    have d2 : w9.cell? ⟨G, o + 2, none⟩ = some (.slice s.A s.held.length s.c) := by rw [Lib.cell_of_heap hG9]; exact h2
    have f2 := Lib.frozen_of_heap hG9 (o + 2)
    refine wpAnyH_one (i := 12) (by kernel_rfl) rfl (fun K hK => ?_)
    go_simp
    refine hK _ _ ⟨(Below.heap_setCell _ _ _ _ (by simp only []; intro e; rw [← e, hM2] at hG2; injection hG2 with h; injection h with _ h _; exact absurd h (by decide))).trans hS9, ?_⟩
    clear hK K
    refine wpAnyH_done (by kernel_rfl) ?_ _
    go_wp2
    go_end0
    exact ⟨A', c', y, w9, rfl, hym, hO9, hR9, rfl⟩
end Go.Proofs.YtcjdjdganaokfaaDoor
