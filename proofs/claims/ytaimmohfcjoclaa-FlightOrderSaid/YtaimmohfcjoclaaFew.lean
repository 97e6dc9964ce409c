/-
  Contracts of the readers that choose: Text, Pick, AnyFlight, Leg.
-/
import Derived.Test.YtaimmohfcjoclaaSrc
import Derived.Test.YtaimmohfcjoclaaDesig
import Derived.Test.YtaimmohfcjoclaaLeg
import Derived.Lib.BufferOwn
namespace Go.Proofs.Ytaimmohfcjoclaa
open Go.RowKit

set_option maxHeartbeats 400000 in
theorem text_any (B b g m : Nat) (f : Nat → ByteArray) (w : World) (hS : Src B b w) (h1 : 1 ≤ m) (h2 : m ≤ 1000) (hne : some g ≠ some b) (hc : ∀ i, i < m → w.cell? ⟨g, i, none⟩ = some (.string (f i))) :
    Calls Try.prog 72 #[.pointer (some ⟨b, 0, none⟩), .slice (some ⟨g, 0, none⟩) m m] w fun e w' => ∃ i, i < m ∧ e = .returned (.string (f i)) ∧ Src B b w' ∧ w.grownBy w' (some b) := by
  have HC := hide hc
  clear hc
  go_enter Try.func72, Try.ntmps72
  go_wp2_with fail
  refine (n_any B b (m : Int) _ hS (by omega) (by omega)).mono ?_
  rintro e w1 ⟨x, rfl, hx1, hx2, hs1, hg1⟩
  obtain ⟨i, rfl⟩ := Int.eq_ofNat_of_zero_le hx1
  have q := hg1.cell (unhide HC i (by omega)) hne
  have i0 : (i : Int) < (m : Int) := by omega
  have HS1 := Lib.hid hs1
  have HG1 := Lib.hid hg1
  clear hs1 hg1
  go_wp2
  go_ret
  exact ⟨i, by omega, rfl, HS1.out, HG1.out⟩

set_option maxHeartbeats 400000 in
theorem pick_any (B b g m : Nat) (f : Nat → Int) (w : World) (hS : Src B b w) (h1 : 1 ≤ m) (h2 : m ≤ 1000) (hne : some g ≠ some b) (hc : ∀ i, i < m → w.cell? ⟨g, i, none⟩ = some (.int .i64 (f i))) :
    Calls Try.prog 73 #[.pointer (some ⟨b, 0, none⟩), .slice (some ⟨g, 0, none⟩) m m] w fun e w' => ∃ i, i < m ∧ e = .returned (.int .i64 (f i)) ∧ Src B b w' ∧ w.grownBy w' (some b) := by
  have HC := hide hc
  clear hc
  go_enter Try.func73, Try.ntmps73
  go_wp2_with fail
  refine (n_any B b (m : Int) _ hS (by omega) (by omega)).mono ?_
  rintro e w1 ⟨x, rfl, hx1, hx2, hs1, hg1⟩
  obtain ⟨i, rfl⟩ := Int.eq_ofNat_of_zero_le hx1
  have q := hg1.cell (unhide HC i (by omega)) hne
  have i0 : (i : Int) < (m : Int) := by omega
  have HS1 := Lib.hid hs1
  have HG1 := Lib.hid hg1
  clear hs1 hg1
  go_wp2
  go_ret
  exact ⟨i, by omega, rfl, HS1.out, HG1.out⟩

/-- The reader at work: its block, and what else is new since w0. -/
structure Rd (w0 : World) (B b : Nat) (w : World) : Prop where
  src : Src B b w
  gr : w0.grownBy w (some b)
theorem Rd.start {B b : Nat} {w : World} (h : Src B b w) : Rd w B b w := ⟨h, World.grownBy.refl _ _⟩
theorem Rd.alloc {w0 : World} {B b : Nat} {w : World} (h : Rd w0 B b w) (o : Obj) : Rd w0 B b (w.alloc o) := ⟨h.src.keep ((Below.refl _ _).alloc (Nat.le_refl _) o), Lib.grownBy_allocR h.gr o⟩
theorem Rd.step {w0 : World} {B b : Nat} {w w' : World} (h : Rd w0 B b w) (hs : Src B b w') (hg : w.grownBy w' (some b)) : Rd w0 B b w' := ⟨hs, Lib.grownBy_trans h.gr hg⟩
theorem Rd.ne {w0 : World} {B b : Nat} {w : World} (h : Rd w0 B b w) : some w.heap.size ≠ some b := by have := h.src.lt; simp; omega

/-- A store into a block that is new. -/
theorem _root_.Go.World.grownBy.setNew {a w : World} {row : Option Nat} (h : a.grownBy w row) {g : Nat} (hg : a.heap.size ≤ g) (i : Nat) (v : Value) : a.grownBy (w.setCell ⟨g, i, none⟩ v) row :=
  ⟨h.os, h.tape, h.output, by simpa [World.setCell] using h.size, fun k hk hr => by rw [Below.heap_setCell _ _ _ _ (fun e => by have e' : k = g := e; omega)]; exact h.block k hk hr⟩

/-- One of the few flights. -/
def Few (c : ByteArray) (n : Int) (s : ByteArray) (d : Int) : Prop :=
  (c = ⟨#[83, 75]⟩ ∨ c = ⟨#[65, 89]⟩ ∨ c = ⟨#[52, 85]⟩) ∧ (n = 1 ∨ n = 123 ∨ n = 9999) ∧ (s = ByteArray.empty ∨ s = ⟨#[65]⟩) ∧ (d = 7 ∨ d = 8 ∨ d = 0 ∨ d = 99)
def fewC (i : Nat) : ByteArray := if i = 0 then ⟨#[83, 75]⟩ else if i = 1 then ⟨#[65, 89]⟩ else ⟨#[52, 85]⟩
def fewN (i : Nat) : Int := if i = 0 then 1 else if i = 1 then 123 else 9999
def fewS (i : Nat) : ByteArray := if i = 0 then ByteArray.empty else if i = 1 then ByteArray.empty else ⟨#[65]⟩
def fewD (i : Nat) : Int := if i = 0 then 7 else if i = 1 then 8 else if i = 2 then 0 else 99
theorem few_of (i j k l : Nat) : Few (fewC i) (fewN j) (fewS k) (fewD l) := by
  unfold Few fewC fewN fewS fewD
  refine ⟨?_, ?_, ?_, ?_⟩
  · by_cases h : i = 0 <;> by_cases h' : i = 1 <;> simp [*]
  · by_cases h : j = 0 <;> by_cases h' : j = 1 <;> simp [*]
  · by_cases h : k = 0 <;> by_cases h' : k = 1 <;> simp [*]
  · by_cases h : l = 0 <;> by_cases h' : l = 1 <;> by_cases h'' : l = 2 <;> simp [*]

/-- A few strings, or numbers, in a new block. -/
theorem three_strs {w : World} {x y z : ByteArray} {f : Nat → ByteArray} {t : TypeId} (h0 : f 0 = x) (h1 : f 1 = y) (h2 : f 2 = z) : ∀ i, i < 3 → (w.alloc (.cells #[.string x, .string y, .string z] t)).cell? ⟨w.heap.size, i, none⟩ = some (.string (f i)) := fun i hi => by
  subst h0 h1 h2
  match i, hi with
  | 0, _ | 1, _ | 2, _ => simp [go_sem]
theorem three_ints {w : World} {x y z : Int} {f : Nat → Int} {t : TypeId} (h0 : f 0 = x) (h1 : f 1 = y) (h2 : f 2 = z) : ∀ i, i < 3 → (w.alloc (.cells #[.int .i64 x, .int .i64 y, .int .i64 z] t)).cell? ⟨w.heap.size, i, none⟩ = some (.int .i64 (f i)) := fun i hi => by
  subst h0 h1 h2
  match i, hi with
  | 0, _ | 1, _ | 2, _ => simp [go_sem]
theorem four_ints {w : World} {x y z q : Int} {f : Nat → Int} {t : TypeId} (h0 : f 0 = x) (h1 : f 1 = y) (h2 : f 2 = z) (h3 : f 3 = q) : ∀ i, i < 4 → (w.alloc (.cells #[.int .i64 x, .int .i64 y, .int .i64 z, .int .i64 q] t)).cell? ⟨w.heap.size, i, none⟩ = some (.int .i64 (f i)) := fun i hi => by
  subst h0 h1 h2 h3
  match i, hi with
  | 0, _ | 1, _ | 2, _ | 3, _ => simp [go_sem]

set_option maxHeartbeats 1000000 in
theorem anyflight_any (B b : Nat) (w : World) (hS : Src B b w) :
    Calls Try.prog 50 #[.pointer (some ⟨b, 0, none⟩)] w fun e w' => ∃ c n s d, e = .returned (.agg #[.string c, .int .i64 n, .string s, .int .i64 d]) ∧ Few c n s d ∧ Src B b w' ∧ w.grownBy w' (some b) := by
  have R := (Rd.start (hS.keep ((Below.refl _ _).alloc (Nat.le_refl _) (.cells #[.string ⟨#[]⟩, .int .i64 0, .string ⟨#[]⟩, .int .i64 0] 53)))).alloc (.cells #[.string ⟨#[83, 75]⟩, .string ⟨#[65, 89]⟩, .string ⟨#[52, 85]⟩] 9)
  go_enter Try.func50, Try.ntmps50
  go_wp2_with fail
  have q := three_strs (w := w.alloc (.cells #[.string ⟨#[]⟩, .int .i64 0, .string ⟨#[]⟩, .int .i64 0] 53)) (f := fewC) (t := 9) rfl rfl rfl
  have hne : some (w.heap.size + 1) ≠ some b := by have := hS.lt; simp; omega
  rw [World.size_alloc] at q
  refine (text_any B b _ 3 fewC _ R.src (by omega) (by omega) hne q).mono ?_
  rintro e w1 ⟨i, _, rfl, hs1, hg1⟩
  have R1 := R.step hs1 hg1
  clear q R hs1 hg1 hne
  go_wp2_with fail
  have q := three_ints (w := w1) (f := fewN) (t := 3) (x := 1) (y := 123) (z := 9999) rfl rfl rfl
  have R2 := R1.alloc (.cells #[.int .i64 1, .int .i64 123, .int .i64 9999] 3)
  refine (pick_any B b _ 3 fewN _ R2.src (by omega) (by omega) R1.ne q).mono ?_
  rintro e w2 ⟨j, _, rfl, hs1, hg1⟩
  have R3 := R2.step hs1 hg1
  clear q R1 R2 hs1 hg1
  go_wp2_with fail
  have q := three_strs (w := w2) (f := fewS) (t := 9) (x := ⟨#[]⟩) (y := ⟨#[]⟩) (z := ⟨#[65]⟩) rfl rfl rfl
  have R4 := R3.alloc (.cells #[.string ⟨#[]⟩, .string ⟨#[]⟩, .string ⟨#[65]⟩] 9)
  refine (text_any B b _ 3 fewS _ R4.src (by omega) (by omega) R3.ne q).mono ?_
  rintro e w3 ⟨k, _, rfl, hs1, hg1⟩
  have R5 := R4.step hs1 hg1
  clear q R3 R4 hs1 hg1
  go_wp2_with fail
  have q := four_ints (w := w3) (f := fewD) (t := 3) (x := 7) (y := 8) (z := 0) (q := 99) rfl rfl rfl rfl
  have R6 := R5.alloc (.cells #[.int .i64 7, .int .i64 8, .int .i64 0, .int .i64 99] 3)
  refine (pick_any B b _ 4 fewD _ R6.src (by omega) (by omega) R5.ne q).mono ?_
  rintro e w4 ⟨l, _, rfl, hs1, hg1⟩
  have R7 := R6.step hs1 hg1
  clear q R5 R6 hs1 hg1
  have hne : some w.heap.size ≠ some b := by have := hS.lt; simp; omega
  have F := (Four.new w ⟨#[]⟩ 0 ⟨#[]⟩ 0 53).grown R7.gr hne
  have f0 : w4.frozen? ⟨w.heap.size, 0, none⟩ = false := by
    rw [World.frozen?_of_block (R7.gr.block w.heap.size (by simp) hne)]; simp [go_sem]
  have f1 : w4.frozen? ⟨w.heap.size, 1, none⟩ = false := by
    rw [World.frozen?_of_block (R7.gr.block w.heap.size (by simp) hne)]; simp [go_sem]
  have f2 : w4.frozen? ⟨w.heap.size, 2, none⟩ = false := by
    rw [World.frozen?_of_block (R7.gr.block w.heap.size (by simp) hne)]; simp [go_sem]
  have f3 : w4.frozen? ⟨w.heap.size, 3, none⟩ = false := by
    rw [World.frozen?_of_block (R7.gr.block w.heap.size (by simp) hne)]; simp [go_sem]
  obtain ⟨c0, c1, c2, c3⟩ := F
  go_wp2
  refine bodyPost_ret (v := .agg #[.string (fewC i), .int .i64 (fewN j), .string (fewS k), .int .i64 (fewD l)]) (by simp [results, go_sem, c0, c1, c2, c3]) rfl ?_
  have hg := Lib.grownBy_trans (World.grownBy_alloc w (.cells #[.string ⟨#[]⟩, .int .i64 0, .string ⟨#[]⟩, .int .i64 0] 53) (some b)) R7.gr
  refine ⟨_, _, _, _, rfl, few_of i j k l, R7.src.grown (row := some w.heap.size) (Lib.grownBy_setB (Lib.grownBy_setB (Lib.grownBy_setB (Lib.grownBy_setB (World.grownBy.refl _ _) _ _) _ _) _ _) _ _) (fun k hk => by have := hS.lt; injection hk with hk; omega), ?_⟩
  exact ((hg.setNew (Nat.le_refl _) 0 _).setNew (Nat.le_refl _) 1 _).setNew (Nat.le_refl _) 2 _ |>.setNew (Nat.le_refl _) 3 _
end Go.Proofs.Ytaimmohfcjoclaa
