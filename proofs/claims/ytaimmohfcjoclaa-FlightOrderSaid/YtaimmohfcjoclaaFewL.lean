/-
  Contract of Leg: one of a few legs.
-/
import Derived.Test.YtaimmohfcjoclaaFew
namespace Go.Proofs.Ytaimmohfcjoclaa
open Go.RowKit

def FewP (p k : ByteArray) : Prop := (p = ⟨#[67, 80, 72]⟩ ∨ p = ⟨#[65, 82, 78]⟩ ∨ p = ⟨#[79, 83, 76]⟩) ∧ (k = ⟨#[89]⟩ ∨ k = ⟨#[67]⟩ ∨ k = ⟨#[70]⟩)
def fewP (i : Nat) : ByteArray := if i = 0 then ⟨#[67, 80, 72]⟩ else if i = 1 then ⟨#[65, 82, 78]⟩ else ⟨#[79, 83, 76]⟩
def fewK (i : Nat) : ByteArray := if i = 0 then ⟨#[89]⟩ else if i = 1 then ⟨#[67]⟩ else ⟨#[70]⟩
theorem fewp_of (i j : Nat) : FewP (fewP i) (fewK j) := by
  unfold FewP fewP fewK
  refine ⟨?_, ?_⟩
  · by_cases h : i = 0 <;> by_cases h' : i = 1 <;> simp [*]
  · by_cases h : j = 0 <;> by_cases h' : j = 1 <;> simp [*]

/-- The cells of a new block of six, in a world that has grown. -/
theorem six_new {w w1 : World} {c s p k : ByteArray} {n d : Int} {t : TypeId} {b : Nat} (hg : (w.alloc (.cells #[.string c, .int .i64 n, .string s, .int .i64 d, .string p, .string k] t)).grownBy w1 (some b)) (hne : some w.heap.size ≠ some b) :
    (w1.cell? ⟨w.heap.size, 0, none⟩ = some (.string c) ∧ w1.cell? ⟨w.heap.size, 1, none⟩ = some (.int .i64 n) ∧ w1.cell? ⟨w.heap.size, 2, none⟩ = some (.string s) ∧ w1.cell? ⟨w.heap.size, 3, none⟩ = some (.int .i64 d) ∧ w1.cell? ⟨w.heap.size, 4, none⟩ = some (.string p) ∧ w1.cell? ⟨w.heap.size, 5, none⟩ = some (.string k)) ∧
    ∀ i, w1.frozen? ⟨w.heap.size, i, none⟩ = false := by
  refine ⟨⟨?_, ?_, ?_, ?_, ?_, ?_⟩, fun i => ?_⟩
  any_goals exact hg.cell (by simp [go_sem]) hne
  rw [World.frozen?_of_block (hg.block w.heap.size (by simp) hne)]; simp [go_sem]

set_option maxHeartbeats 1000000 in
theorem legs_any (B b : Nat) (w : World) (hS : Src B b w) :
    Calls Try.prog 53 #[.pointer (some ⟨b, 0, none⟩)] w fun e w' => ∃ c n s d p k, e = .returned (.agg #[.string c, .int .i64 n, .string s, .int .i64 d, .string p, .string k]) ∧ Few c n s d ∧ FewP p k ∧ Src B b w' ∧ w.grownBy w' (some b) := by
  have R := Rd.start (hS.keep ((Below.refl _ _).alloc (Nat.le_refl _) (.cells #[.string ⟨#[]⟩, .int .i64 0, .string ⟨#[]⟩, .int .i64 0, .string ⟨#[]⟩, .string ⟨#[]⟩] 66)))
  go_enter Try.func53, Try.ntmps53
  go_wp2_with fail
  refine (anyflight_any B b _ R.src).mono ?_
  rintro e w1 ⟨c, n, s, d, rfl, hF, hs1, hg1⟩
  have R1 := R.step hs1 hg1
  clear R hs1 hg1
  go_wp2_with fail
  have q := three_strs (w := w1) (f := fewP) (t := 9) (x := ⟨#[67, 80, 72]⟩) (y := ⟨#[65, 82, 78]⟩) (z := ⟨#[79, 83, 76]⟩) rfl rfl rfl
  have R2 := R1.alloc (.cells #[.string ⟨#[67, 80, 72]⟩, .string ⟨#[65, 82, 78]⟩, .string ⟨#[79, 83, 76]⟩] 9)
  refine (text_any B b _ 3 fewP _ R2.src (by omega) (by omega) R1.ne q).mono ?_
  rintro e w2 ⟨i, _, rfl, hs1, hg1⟩
  have R3 := R2.step hs1 hg1
  clear q R1 R2 hs1 hg1
  go_wp2_with fail
  have q := three_strs (w := w2) (f := fewK) (t := 9) (x := ⟨#[89]⟩) (y := ⟨#[67]⟩) (z := ⟨#[70]⟩) rfl rfl rfl
  have R4 := R3.alloc (.cells #[.string ⟨#[89]⟩, .string ⟨#[67]⟩, .string ⟨#[70]⟩] 9)
  refine (text_any B b _ 3 fewK _ R4.src (by omega) (by omega) R3.ne q).mono ?_
  rintro e w4 ⟨j, _, rfl, hs1, hg1⟩
  have R7 := R4.step hs1 hg1
  clear q R3 R4 hs1 hg1
  have hne : some w.heap.size ≠ some b := by have := hS.lt; simp; omega
  obtain ⟨⟨c0, c1, c2, c3, c4, c5⟩, hf⟩ := six_new R7.gr hne
  have f0 := hf 0
  have f1 := hf 1
  have f2 := hf 2
  have f3 := hf 3
  have f4 := hf 4
  have f5 := hf 5
  clear hf
  go_wp2
  refine bodyPost_ret (v := .agg #[.string c, .int .i64 n, .string s, .int .i64 d, .string (fewP i), .string (fewK j)]) (by simp [results, go_sem, c0, c1, c2, c3, c4, c5]) rfl ?_
  have hg := Lib.grownBy_trans (World.grownBy_alloc w (.cells #[.string ⟨#[]⟩, .int .i64 0, .string ⟨#[]⟩, .int .i64 0, .string ⟨#[]⟩, .string ⟨#[]⟩] 66) (some b)) R7.gr
  refine ⟨_, _, _, _, _, _, rfl, hF, fewp_of i j, R7.src.grown (row := some w.heap.size) (Lib.grownBy_setB (Lib.grownBy_setB (Lib.grownBy_setB (Lib.grownBy_setB (Lib.grownBy_setB (Lib.grownBy_setB (World.grownBy.refl _ _) _ _) _ _) _ _) _ _) _ _) _ _) (fun k hk => by have := hS.lt; injection hk with hk; omega), ?_⟩
  exact ((((hg.setNew (Nat.le_refl _) 0 _).setNew (Nat.le_refl _) 1 _).setNew (Nat.le_refl _) 2 _).setNew (Nat.le_refl _) 3 _).setNew (Nat.le_refl _) 4 _ |>.setNew (Nat.le_refl _) 5 _
end Go.Proofs.Ytaimmohfcjoclaa
