/-
  Contracts of Run (both): consecutive plates.
-/
import Derived.Test.YtaimmohfcjoclaaAwake
import Derived.Deep.OwnRows
namespace Go.Proofs.Ytaimmohfcjoclaa
open Go.RowKit

/-- The cell j of a run of plates: Lead, Airline, Serial in turn. -/
def runC (l a s : Int) (j : Nat) : Int := if j % 3 = 0 then l else if j % 3 = 1 then a else (s + ((j / 3 : Nat) : Int)) % 1000000
theorem runC0 (l a s : Int) (i : Nat) : runC l a s (i * 3) = l := by unfold runC; rw [if_pos (by omega)]
theorem runC1 (l a s : Int) (i : Nat) : runC l a s (i * 3 + 1) = a := by unfold runC; rw [if_neg (by omega), if_pos (by omega)]
theorem runC2 (l a s : Int) (i : Nat) : runC l a s (i * 3 + 2) = (s + (i : Int)) % 1000000 := by unfold runC; rw [if_neg (by omega), if_neg (by omega), show (i * 3 + 2) / 3 = i by omega]
/-- A row of which the first k plates are written. -/
def runF (l a s : Int) (k : Nat) : Nat → Value := fun j => .int .i64 (if j < k * 3 then runC l a s j else 0)

theorem made_zero (n : Nat) (w : World) (t : TypeId) : (w.alloc (.cells (madeCells #[.int .i64 0, .int .i64 0, .int .i64 0] n) t)).rowIs w.heap.size t n (fun _ => .int .i64 0) := by
  refine ⟨_, Deep.blk_alloc_new _ _, size_madeCells _ _, fun i hi => ?_⟩
  have h3 : i % 3 < 3 := Nat.mod_lt _ (by omega)
  simp only [madeCells, Array.getElem?_map, Array.getElem?_range, hi, ↓reduceIte, Option.map_some]
  congr 1
  have : i % 3 = 0 ∨ i % 3 = 1 ∨ i % 3 = 2 := by omega
  show #[Value.int .i64 0, .int .i64 0, .int .i64 0][i % 3]! = _
  rcases this with e | e | e <;> rw [e] <;> rfl

theorem run_step {w : World} {b N k : Nat} {t : TypeId} {l a s : Int} (h : w.rowIs b t (N * 3) (runF l a s k)) :
    (((w.setCell ⟨b, k * 3, none⟩ (.int .i64 l)).setCell ⟨b, k * 3 + 1, none⟩ (.int .i64 a)).setCell ⟨b, k * 3 + 2, none⟩ (.int .i64 ((s + (k : Int)) % 1000000))).rowIs b t (N * 3) (runF l a s (k + 1)) :=
  (((h.set _ _).set _ _).set _ _).congr fun j _ => by
    unfold runF
    by_cases e2 : j = k * 3 + 2
    · rw [if_pos e2, if_pos (by omega), e2, runC2]
    · rw [if_neg e2]
      by_cases e1 : j = k * 3 + 1
      · rw [if_pos e1, if_pos (by omega), e1, runC1]
      · rw [if_neg e1]
        by_cases e0 : j = k * 3
        · rw [if_pos e0, if_pos (by omega), e0, runC0]
        · rw [if_neg e0]
          by_cases h : j < k * 3
          · rw [if_pos h, if_pos (by omega)]
          · rw [if_neg h, if_neg (by omega)]

theorem info_plate : (Try.prog.info? 23).map (fun i => (i.zero, i.size, i.bytes)) = some (some (.agg #[.int .i64 0, .int .i64 0, .int .i64 0]), 3, 24) := by kernel_rfl
theorem make_plates (n : Nat) (hn : n ≤ 1000) (w : World) :
    (Instr.makeSlice 37 (.int .i64 (n : Int)) (.int .i64 (n : Int))).run Try.prog w = .ok (.slice (some ⟨w.heap.size, 0, none⟩) n n) (w.alloc (.cells (madeCells #[.int .i64 0, .int .i64 0, .int .i64 0] (n * 3)) 23)) := by
  obtain ⟨i, hi, hz, hs, hb⟩ := info_parts info_plate
  have h := run_make (P := Try.prog) w 37 23 i _ Try.underlying37 hi hz .i64 .i64 n n (by omega) (by omega) (by rw [hb]; omega) (by omega)
  rw [hs] at h
  exact h

/-- A slice of n plates of the call's own, which are a run. -/
def RunOk (l a s : Int) (n : Nat) (w : World) (e : Ending) (w' : World) : Prop :=
  ∃ b c, e = .returned (.tuple #[.slice (some ⟨b, 0, none⟩) n c, .int .i64 0]) ∧ Below w.heap.size w w' ∧ w.heap.size ≤ b ∧ n ≤ c ∧ ∀ j, j < n * 3 → w'.cell? ⟨b, j, none⟩ = some (.int .i64 (runC l a s j))

set_option maxHeartbeats 1000000 in
theorem run_ok (l a s : Int) (n : Nat) (w : World) (hv : vld l a s = true) (h1 : 1 ≤ n) (h2 : n ≤ 99) :
    Calls Try.prog 28 #[.agg #[.int .i64 l, .int .i64 a, .int .i64 s], .int .i64 n] w (RunOk l a s n w) := by
  obtain ⟨v1, v2, v3, v4, v5, v6⟩ := vld_iff.1 hv
  have hmk := make_plates n (by omega)
  have g1 : decide ((n : Int) < 1) = false := by simp; omega
  have g2 : decide ((99 : Int) < (n : Int)) = false := by simp; omega
  go_enter Try.func28, Try.ntmps28
  go_wp2_with (go_at_call 19; refine (valid_any l a s _).mono ?_; rintro e w1 ⟨rfl, hb1⟩; obtain ⟨c0, c1, c2⟩ := box_cells hb1)
  clear hmk
  have HB := Lib.hid (boxed hb1)
  have hz : w.heap.size < w1.heap.size := by have := hb1.size; rw [World.size_alloc] at this; omega
  clear hb1
  go_loopw [22] (fun i wr => ∃ k : Nat, k ≤ n ∧ i = .int .i64 k ∧ wr.rowIs w1.heap.size 23 (n * 3) (runF l a s k) ∧ Below w1.heap.size w1 wr) (fun i _ => n - (intOf i).toNat)
  case atStart => exact ⟨0, Nat.zero_le _, rfl, (made_zero _ w1 _).congr fun j _ => by unfold runF; rw [if_neg (by omega)], (Below.refl _ _).alloc (Nat.le_refl _) _⟩
  case round =>
    obtain ⟨k, hk, rfl, hr, hb⟩ := hrel
    by_cases hlt : k < n
    · have d0 := kept hb c0
      have d1 := kept hb c1
      have d2 := kept hb c2
      have r0 := hr.cell (i := k * 3) (by omega)
      have r1 := hr.cell (i := k * 3 + 1) (by omega)
      have r2 := hr.cell (i := k * 3 + 2) (by omega)
      have f0 := hr.frozen (k * 3)
      have f1 := hr.frozen (k * 3 + 1)
      have f2 := hr.frozen (k * 3 + 2)
      have HR := Lib.hid (run_step hr)
      have HBB := Lib.hid hb
      clear hr hb c0 c1 c2
      go_wp2
      go_roundw
      case rel => exact ⟨k + 1, by omega, by go_num, HR.out, ((HBB.out.setCell (Nat.le_refl _) _).setCell (Nat.le_refl _) _).setCell (Nat.le_refl _) _⟩
      case measure => simp [intOf]; omega
    · obtain rfl : k = n := by omega
      have HR := Lib.hid hr
      have HBB := Lib.hid hb
      clear hr hb c0 c1 c2
      go_wp2
      go_ret2
      refine ⟨w1.heap.size, k, rfl, onward HB.out HBB.out, HB.out.size, Nat.le_refl _, fun j hj => ?_⟩
      rw [HR.out.cell hj]
      unfold runF
      rw [if_pos hj]
end Go.Proofs.Ytaimmohfcjoclaa
