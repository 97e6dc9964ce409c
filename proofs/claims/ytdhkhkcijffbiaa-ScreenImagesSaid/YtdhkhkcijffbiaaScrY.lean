/-
  Screening (layer 15): the program's Alarms: the comparison of two alarms.
-/
import Derived.Test.YtdhkhkcijffbiaaScrX
namespace Go.Proofs.Ytdhkhkcijffbiaa
open Go.RowKit Go.Sort

def orF (a b : Int) : Int := if a = 0 then b else a
set_option maxRecDepth 100000 in
theorem or2_any (a b : Int) (g : Nat) (w : World) (h0 : w.cell? ⟨g, 0, none⟩ = some (.int .i64 a)) (h1 : w.cell? ⟨g, 1, none⟩ = some (.int .i64 b)) :
    Calls Try.prog 45 #[.slice (some ⟨g, 0, none⟩) 2 2] w fun e w' => e = .returned (.int .i64 (orF a b)) ∧ w' = w := by
  by_cases ha : a = 0
  · subst ha
    by_cases hb : b = 0
    · subst hb
      go_enter Try.func45, Try.ntmps45
      go_wp2
      go_loop [8] (fun i => ∃ k : Nat, k ≤ 2 ∧ i = .int .i64 k) (fun i => 2 - (intOf i).toNat)
      case atStart => exact ⟨0, by omega, rfl⟩
      case round =>
        obtain ⟨k, hk, rfl⟩ := hrel
        have hc : k = 0 ∨ k = 1 ∨ k = 2 := by omega
        rcases hc with rfl | rfl | rfl
        · go_wp2
          go_round
          case rel => exact ⟨1, by omega, rfl⟩
          case measure => simp [intOf]
        · go_wp2
          go_round
          case rel => exact ⟨2, by omega, rfl⟩
          case measure => simp [intOf]
        · go_wp2
          go_ret
          exact ⟨rfl, rfl⟩
    · have tb : (b == 0) = false := by rw [beq_eq_false_iff_ne]; exact hb
      go_enter Try.func45, Try.ntmps45
      go_wp2
      go_loop [8] (fun i => ∃ k : Nat, k ≤ 1 ∧ i = .int .i64 k) (fun i => 2 - (intOf i).toNat)
      case atStart => exact ⟨0, by omega, rfl⟩
      case round =>
        obtain ⟨k, hk, rfl⟩ := hrel
        have hc : k = 0 ∨ k = 1 := by omega
        rcases hc with rfl | rfl
        · go_wp2
          go_round
          case rel => exact ⟨1, by omega, rfl⟩
          case measure => simp [intOf]
        · go_wp2
          go_ret
          exact ⟨rfl, rfl⟩
  · have ta : (a == 0) = false := by rw [beq_eq_false_iff_ne]; exact ha
    have HO := hide (show orF a b = a by unfold orF; rw [if_neg ha])
    go_enter Try.func45, Try.ntmps45
    go_wp2
    go_loop [8] (fun i => i = .int .i64 0) (fun _ => 0)
    case atStart => rfl
    case round =>
      subst hrel
      go_wp2
      go_ret
      exact ⟨by rw [unhide HO]; rfl, rfl⟩
def alC (x y : Al) : Int := orF (Lib.compareInt x.dl y.dl) (Lib.compareInt x.im y.im)
abbrev Al.arr (x : Al) : Array Value := #[.int .i64 x.im, .int .i64 x.bag, .int .i64 x.lv, .int .i64 x.dl]
abbrev Al.v (x : Al) : Value := .agg x.arr
set_option maxHeartbeats 1000000 in
set_option maxRecDepth 100000 in
theorem al1_any (x y : Al) (W : World) :
    Calls Try.prog 44 #[x.v, y.v] W fun e w' => e = .returned (.int .i64 (alC x y)) ∧ ∃ q os', w' = grow (W.drewN q) os' := by
  obtain ⟨W2, hW⟩ : ∃ W2 : World, (W.alloc (.cells x.arr 72)).alloc (.cells y.arr 72) = W2 := ⟨_, rfl⟩
  have hx : W2.heap[W.heap.size]? = some (.cells x.arr 72) := by rw [← hW]; exact heap_later (heap_alloc_new W _) _
  have hy : W2.heap[W.heap.size + 1]? = some (.cells y.arr 72) := by rw [← hW, ← World.size_alloc W (.cells x.arr 72)]; exact heap_alloc_new _ _
  have HS := hide (show W2.drew.heap[W.heap.size]? = some (.cells x.arr 72) ∧ W2.drew.heap[W.heap.size + 1]? = some (.cells y.arr 72) from ⟨hx, hy⟩)
  have HW := hide hW
  clear hx hy
  go_enter Try.func44, Try.ntmps44
  go_upto_region 1 with fail
  refine wp_region_held (S := fun Z => Z.heap[W.heap.size]? = some (.cells x.arr 72 (0, 0)) ∧ Z.heap[W.heap.size + 1]? = some (.cells y.arr 72 (0, 0))) (by kernel_rfl) ?_
  refine wpAnyH_take (i := 0) (v := .pointer (some ⟨W.heap.size, 3, none⟩)) rfl (by kernel_rfl) (by kernel_rfl) (by kernel_rfl) (fun _ _ _ h => h) (Or.inl ⟨by rfl, by intro Z _; go_simp⟩) (unhide HS) ?_
  refine wpAnyH_take (i := 1) (v := .int .i64 x.dl) rfl (by kernel_rfl) (by kernel_rfl) (by kernel_rfl) (fun _ _ _ h => h) (Or.inl ⟨by rfl, by intro Z hs; have h9 : Z.cell? ⟨W.heap.size, 3, none⟩ = some (.int .i64 x.dl) := (by rw [Lib.cell_of_heap hs.1]; rfl); go_simp⟩) (unhide HS) ?_
  refine wpAnyH_take (i := 2) (v := .pointer (some ⟨W.heap.size + 1, 3, none⟩)) rfl (by kernel_rfl) (by kernel_rfl) (by kernel_rfl) (fun _ _ _ h => h) (Or.inl ⟨by rfl, by intro Z _; go_simp⟩) (unhide HS) ?_
  refine wpAnyH_take (i := 3) (v := .int .i64 y.dl) rfl (by kernel_rfl) (by kernel_rfl) (by kernel_rfl) (fun _ _ _ h => h) (Or.inl ⟨by rfl, by intro Z hs; have h9 : Z.cell? ⟨W.heap.size + 1, 3, none⟩ = some (.int .i64 y.dl) := (by rw [Lib.cell_of_heap hs.2]; rfl); go_simp⟩) (unhide HS) ?_
  refine wpAnyH_take (i := 5) (v := .pointer (some ⟨W.heap.size, 0, none⟩)) rfl (by kernel_rfl) (by kernel_rfl) (by kernel_rfl) (fun _ _ _ h => h) (Or.inl ⟨by rfl, by intro Z _; go_simp⟩) (unhide HS) ?_
  refine wpAnyH_take (i := 6) (v := .int .i64 x.im) rfl (by kernel_rfl) (by kernel_rfl) (by kernel_rfl) (fun _ _ _ h => h) (Or.inl ⟨by rfl, by intro Z hs; have h9 : Z.cell? ⟨W.heap.size, 0, none⟩ = some (.int .i64 x.im) := (by rw [Lib.cell_of_heap hs.1]; rfl); go_simp⟩) (unhide HS) ?_
  refine wpAnyH_take (i := 7) (v := .pointer (some ⟨W.heap.size + 1, 0, none⟩)) rfl (by kernel_rfl) (by kernel_rfl) (by kernel_rfl) (fun _ _ _ h => h) (Or.inl ⟨by rfl, by intro Z _; go_simp⟩) (unhide HS) ?_
  refine wpAnyH_take (i := 8) (v := .int .i64 y.im) rfl (by kernel_rfl) (by kernel_rfl) (by kernel_rfl) (fun _ _ _ h => h) (Or.inl ⟨by rfl, by intro Z hs; have h9 : Z.cell? ⟨W.heap.size + 1, 0, none⟩ = some (.int .i64 y.im) := (by rw [Lib.cell_of_heap hs.2]; rfl); go_simp⟩) (unhide HS) ?_
  go_simp
  refine wpAnyH_one (i := 4) (by kernel_rfl) rfl (fun K hK => ?_)
  go_simp
  go_at_call 46
  refine (Try.cmp_Compare_int _ _ _).mono ?_
  rintro e w1 ⟨rfl, rfl⟩
  try go_simp
  refine hK _ _ ⟨unhide HS, ?_⟩
  clear hK K
  refine wpAnyH_one (i := 9) (by kernel_rfl) rfl (fun K hK => ?_)
  go_simp
  go_at_call 46
  refine (Try.cmp_Compare_int _ _ _).mono ?_
  rintro e w2 ⟨rfl, rfl⟩
  try go_simp
  refine hK _ _ ⟨unhide HS, ?_⟩
  clear hK K
  refine wpAnyH_one (i := 10) (by kernel_rfl) rfl (fun K hK => ?_)
  go_simp
  have HS3 := hide (show (W2.alloc (.cells #[.int .i64 (Lib.compareInt x.dl y.dl), .int .i64 (Lib.compareInt x.im y.im)] 3)).drew.heap[W.heap.size]? = some (.cells x.arr 72) ∧ (W2.alloc (.cells #[.int .i64 (Lib.compareInt x.dl y.dl), .int .i64 (Lib.compareInt x.im y.im)] 3)).drew.heap[W.heap.size + 1]? = some (.cells y.arr 72) from ⟨heap_later (unhide HS).1 _, heap_later (unhide HS).2 _⟩)
  have hn := heap_alloc_new W2 (.cells #[.int .i64 (Lib.compareInt x.dl y.dl), .int .i64 (Lib.compareInt x.im y.im)] 3)
  have n0 : (W2.alloc (.cells #[.int .i64 (Lib.compareInt x.dl y.dl), .int .i64 (Lib.compareInt x.im y.im)] 3)).drew.cell? ⟨W2.heap.size, 0, none⟩ = some (.int .i64 (Lib.compareInt x.dl y.dl)) := by
    show (W2.alloc (.cells #[.int .i64 (Lib.compareInt x.dl y.dl), .int .i64 (Lib.compareInt x.im y.im)] 3)).cell? ⟨W2.heap.size, 0, none⟩ = _
    rw [Lib.cell_of_heap hn]; rfl
  have n1 : (W2.alloc (.cells #[.int .i64 (Lib.compareInt x.dl y.dl), .int .i64 (Lib.compareInt x.im y.im)] 3)).drew.cell? ⟨W2.heap.size, 1, none⟩ = some (.int .i64 (Lib.compareInt x.im y.im)) := by
    show (W2.alloc (.cells #[.int .i64 (Lib.compareInt x.dl y.dl), .int .i64 (Lib.compareInt x.im y.im)] 3)).cell? ⟨W2.heap.size, 1, none⟩ = _
    rw [Lib.cell_of_heap hn]; rfl
  have HO := hide (or2_any _ _ _ _ n0 n1)
  clear n0 n1 hn
  refine hK _ _ ⟨unhide HS3, ?_⟩
  clear hK K
  refine wpAnyH_one (i := 11) (by kernel_rfl) rfl (fun K hK => ?_)
  go_simp
  go_at_call 45
  refine (unhide HO).mono ?_
  rintro e w3 ⟨rfl, rfl⟩
  try go_simp
  refine hK _ _ ⟨unhide HS3, ?_⟩
  clear hK K
  refine wpAnyH_take (i := 12) (v := .int .i64 (orF (Lib.compareInt x.dl y.dl) (Lib.compareInt x.im y.im))) rfl (by kernel_rfl) (by kernel_rfl) (by kernel_rfl) (fun _ _ _ h => h) (Or.inl ⟨by rfl, by intro Z _; go_simp⟩) (unhide HS3) ?_
  refine wpAnyH_done (by kernel_rfl) ?_ _
  go_simp
  clear HS HS3 HO
  go_wp2
  go_ret
  refine ⟨rfl, 1, #[.cells x.arr 72, .cells y.arr 72, .cells #[.int .i64 (Lib.compareInt x.dl y.dl), .int .i64 (Lib.compareInt x.im y.im)] 3], ?_⟩
  rw [← unhide HW, alloc_eq_grow, alloc_eq_grow, alloc_eq_grow, grow_grow, grow_grow]
  rfl
end Go.Proofs.Ytdhkhkcijffbiaa
