/-
  Contract of the document's own Run; Run's errors.
-/
import Derived.Test.YtaimmohfcjoclaaRun
namespace Go.Proofs.Ytaimmohfcjoclaa
open Go.RowKit

def runL (l a s : Int) (k : Nat) : List Value := (List.range (k * 3)).map fun j => .int .i64 (runC l a s j)
theorem runL_length (l a s : Int) (k : Nat) : (runL l a s k).length = k * 3 := by unfold runL; simp
theorem runL_at (l a s : Int) (k j : Nat) (h : j < k * 3) : (runL l a s k)[j]? = some (.int .i64 (runC l a s j)) := by unfold runL; simp [h]
theorem runL_succ (l a s : Int) (k : Nat) : runL l a s (k + 1) = runL l a s k ++ [.int .i64 l, .int .i64 a, .int .i64 ((s + (k : Int)) % 1000000)] := by
  have e : (k + 1) * 3 = k * 3 + 1 + 1 + 1 := by omega
  unfold runL
  rw [e, List.range_succ, List.range_succ, List.range_succ]
  simp only [List.map_append, List.map_cons, List.map_nil, List.append_assoc, List.cons_append, List.nil_append]
  rw [runC0, runC1, show k * 3 + 1 + 1 = k * 3 + 2 from rfl, runC2]

theorem three_new (w : World) (x y z : Value) (t : TypeId) : ∀ j u, [x, y, z][j]? = some u → (w.alloc (.cells #[x, y, z] t)).cell? ((⟨w.heap.size, 0, none⟩ : Addr).add j) = some u := by
  intro j u hj
  match j with
  | 0 => simp at hj; subst hj; simp [go_sem, Addr.add]
  | 1 => simp at hj; subst hj; simp [go_sem, Addr.add]
  | 2 => simp at hj; subst hj; simp [go_sem, Addr.add]
  | _ + 3 => simp at hj

theorem owns_run {w w0 : World} {B : Nat} {v : Value} {l a s : Int} {n : Nat} (h1 : 1 ≤ n) (hB : w0.heap.size ≤ B) (hown : w.ownsRow B 23 3 v n (runL l a s n)) (hb : Below w0.heap.size w0 w) :
    RunOk l a s n w0 (.returned (.tuple #[v, .int .i64 0])) w := by
  rcases hown with ⟨hl, ⟨rfl, h0⟩ | ⟨g, cap, cur, rfl, hg, hh, hn, hcap, hsz, htake⟩⟩
  · omega
  · refine ⟨g, cap, rfl, hb, by omega, hn, fun j hj => ?_⟩
    have := World.ownsRow.cellAt (w := w) (base := B) (e := 23) (size := 3) (g := g) (cap := cap) (n := n) (xs := runL l a s n) ⟨hl, .inr ⟨g, cap, cur, rfl, hg, hh, hn, hcap, hsz, htake⟩⟩ j hj
    rw [this, runL_at l a s n j hj]

set_option maxHeartbeats 1000000 in
theorem rrun_ok (l a s : Int) (n : Nat) (w : World) (hv : vld l a s = true) (h1 : 1 ≤ n) (h2 : n ≤ 99) :
    Calls Try.prog 29 #[.agg #[.int .i64 l, .int .i64 a, .int .i64 s], .int .i64 n] w (RunOk l a s n w) := by
  obtain ⟨v1, v2, v3, v4, v5, v6⟩ := vld_iff.1 hv
  obtain ⟨i0, hi, hz0, hz1, hz2⟩ := info_parts info_plate
  have Hi := Lib.hid hi
  have Hz0 := Lib.hid hz0
  have Hz1 := Lib.hid hz1
  have Hz2 := Lib.hid hz2
  clear hi hz0 hz1 hz2
  have g1 : decide ((n : Int) < 1) = false := by simp; omega
  have g2 : decide ((99 : Int) < (n : Int)) = false := by simp; omega
  go_enter Try.func29, Try.ntmps29
  go_wp2_with (go_at_call 20; refine (rvalid_any l a s _).mono ?_; rintro e w1 ⟨rfl, hb1⟩; obtain ⟨c0, c1, c2⟩ := box_cells hb1)
  have HB := Lib.hid (boxed hb1)
  clear hb1
  go_loopw [6, 7] (fun v i wr => ∃ k : Nat, k ≤ n ∧ i = .int .i64 k ∧ wr.ownsRow w1.heap.size 23 3 v k (runL l a s k) ∧ Below w1.heap.size w1 wr) (fun _ i _ => n - (intOf i).toNat)
  case atStart => exact ⟨0, Nat.zero_le _, rfl, ⟨rfl, .inl ⟨rfl, rfl⟩⟩, Below.refl _ _⟩
  case round =>
    obtain ⟨k, hk, rfl, hown, hb⟩ := hrel
    by_cases hlt : k < n
    · have d0 := kept hb c0
      have d1 := kept hb c1
      have d2 := kept hb c2
      have HO := Lib.hid hown
      have HBB := Lib.hid hb
      have hsz := hb.size
      clear hown hb c0 c1 c2
      go_wp2_with (at_builtin; refine wpList_append_own _ rfl _ _ 37 rfl w1.heap.size 23 i0 (.agg #[.int .i64 0, .int .i64 0, .int .i64 0]) 3 24 Try.underlying37 Hi.out Hz0.out Hz1.out Hz2.out rfl (by decide) _ _ _ rfl (HO.out.alloc _) ⟨wr.heap.size, 0, none⟩ 1 1 [.int .i64 l, .int .i64 a, .int .i64 ((s + (k : Int)) % 1000000)] rfl rfl ?c1 ?c2 ?c3 ?c4 ?c5 ?_)
      case c1 => exact three_new wr _ _ _ _
      case c2 =>
        intro u hu
        simp at hu
        rcases hu with rfl | rfl | rfl <;> rfl
      case c3 => unfold maxLen; omega
      case c4 => omega
      case c5 => rw [World.size_alloc]; omega
      intro v' w2 hown2 hgrow _
      have HO2 := Lib.hid hown2
      have HB2 : Hid (Below w1.heap.size w1 w2) := Lib.hid (((HBB.out.alloc hsz _).grown hgrow (by rw [World.size_alloc]; omega)) (fun g hg => (HO.out.lt g hg).1))
      clear hown2 hgrow
      go_wp2
      go_roundw
      case rel => exact ⟨k + 1, by omega, by go_num, by rw [runL_succ]; exact HO2.out, HB2.out⟩
      case measure => simp [intOf]; omega
    · obtain rfl : k = n := by omega
      have HO := Lib.hid hown
      have HBB := Lib.hid hb
      clear hown hb c0 c1 c2
      go_wp2
      go_ret2
      exact owns_run h1 HB.out.size HO.out (onward HB.out HBB.out)

theorem run_bad (l a s n : Int) (w : World) (h : vld l a s = false ∨ n < 1 ∨ 99 < n) :
    Calls Try.prog 28 #[.agg #[.int .i64 l, .int .i64 a, .int .i64 s], .int .i64 n] w fun e w' => e = .returned (.tuple #[.slice none 0 0, .int .i64 1]) ∧ Below w.heap.size w w' := by
  cases hv : vld l a s with
  | false =>
    go_enter Try.func28, Try.ntmps28
    go_wp2_with (go_at_call 19; refine (valid_any l a s _).mono ?_; rintro e w1 ⟨rfl, hb1⟩)
    go_ret2
    exact ⟨rfl, boxed hb1⟩
  | true =>
    have h' : n < 1 ∨ 99 < n := by rcases h with h | h; (rw [hv] at h; cases h); exact h
    clear h
    by_cases g : n < 1
    all_goals
      go_enter Try.func28, Try.ntmps28
      go_wp2_with (go_at_call 19; refine (valid_any l a s _).mono ?_; rintro e w1 ⟨rfl, hb1⟩)
      go_ret2
      exact ⟨rfl, boxed hb1⟩
theorem rrun_bad (l a s n : Int) (w : World) (h : vld l a s = false ∨ n < 1 ∨ 99 < n) :
    Calls Try.prog 29 #[.agg #[.int .i64 l, .int .i64 a, .int .i64 s], .int .i64 n] w fun e w' => e = .returned (.tuple #[.slice none 0 0, .int .i64 1]) ∧ Below w.heap.size w w' := by
  cases hv : vld l a s with
  | false =>
    go_enter Try.func29, Try.ntmps29
    go_wp2_with (go_at_call 20; refine (rvalid_any l a s _).mono ?_; rintro e w1 ⟨rfl, hb1⟩)
    go_ret2
    exact ⟨rfl, boxed hb1⟩
  | true =>
    have h' : n < 1 ∨ 99 < n := by rcases h with h | h; (rw [hv] at h; cases h); exact h
    clear h
    by_cases g : n < 1
    all_goals
      go_enter Try.func29, Try.ntmps29
      go_wp2_with (go_at_call 20; refine (rvalid_any l a s _).mono ?_; rintro e w1 ⟨rfl, hb1⟩)
      go_ret2
      exact ⟨rfl, boxed hb1⟩
end Go.Proofs.Ytaimmohfcjoclaa
