/-
  Contracts of the reader of numbers (keep.New, Raw, N, Range): what is read is some number; nothing but the reader's own block changes.
-/
import Derived.Test.YtaimmohfcjoclaaLeaf
import Derived.Test.YtaimmohfcjoclaaAfter
import Derived.BigQuiet
namespace Go.Proofs.Ytaimmohfcjoclaa
open Go.RowKit

/-- A slice of n integers below block B. -/
def IntsIn (B : Nat) (w : World) (A : Option Addr) (n : Nat) : Prop :=
  0 < n → ∃ g off, A = some ⟨g, off, none⟩ ∧ g < B ∧ ∀ i, i < n → ∃ x : Int, w.cell? ⟨g, off + i, none⟩ = some (.int .i64 x)
theorem IntsIn.keep {B : Nat} {w w' : World} {A : Option Addr} {n : Nat} (h : IntsIn B w A n) (hB : B ≤ w.heap.size) (hb : ∀ k, k < B → w'.heap[k]? = w.heap[k]?) : IntsIn B w' A n := fun hn => by
  have _ := hB
  obtain ⟨g, off, hA, hg, hc⟩ := h hn
  refine ⟨g, off, hA, hg, fun i hi => ?_⟩
  obtain ⟨x, hx⟩ := hc i hi
  exact ⟨x, by rw [World.cell?_of_block (hb g hg)]; exact hx⟩

/-- The reader in block b, over integers below block B. -/
structure Src (B b : Nat) (w : World) : Prop where
  base : B ≤ b
  has : ∃ (A : Option Addr) (n c k : Nat), w.cell? ⟨b, 0, none⟩ = some (.slice A n c) ∧ w.cell? ⟨b, 1, none⟩ = some (.int .i64 k) ∧ k ≤ n ∧ n ≤ 2000 ∧ IntsIn B w A n
  free : w.frozen? ⟨b, 1, none⟩ = false
  lt : b < w.heap.size
theorem Src.keep {B b : Nat} {w w' : World} (h : Src B b w) (hb : Below w.heap.size w w') : Src B b w' := by
  obtain ⟨h1, ⟨A, n, c, k, e1, e2, e3, e4, e5⟩, h3, h4⟩ := h
  exact ⟨h1, ⟨A, n, c, k, kept hb e1, kept hb e2, e3, e4, e5.keep (by omega) fun i hi => hb.block i (by omega)⟩, frz hb h4 h3, Nat.lt_of_lt_of_le h4 hb.size⟩

theorem Src.grown {B b : Nat} {w w' : World} (h : Src B b w) {row : Option Nat} (hg : w.grownBy w' row) (hr : ∀ k, row = some k → b + 1 ≤ k) : Src B b w' := by
  have hl := h.lt
  have hb : Below (b + 1) w w' := (Below.refl (b + 1) w).grown hg (by omega) hr
  obtain ⟨h1, ⟨A, n, c, k, e1, e2, e3, e4, e5⟩, h3, h4⟩ := h
  refine ⟨h1, ⟨A, n, c, k, ?_, ?_, e3, e4, e5.keep (by omega) fun i hi => hb.block i (by omega)⟩, ?_, Nat.lt_of_lt_of_le h4 hb.size⟩
  · rw [hb.cell (show b < b + 1 by omega)]; exact e1
  · rw [hb.cell (show b < b + 1 by omega)]; exact e2
  · rw [hb.frozen (show b < b + 1 by omega)]; exact h3

/-- A number comes back, in the range from lo to hi; nothing but block b changes, and what is new. -/
def Reads (B b : Nat) (lo hi : Int) (w : World) (e : Ending) (w' : World) : Prop :=
  ∃ x : Int, e = .returned (.int .i64 x) ∧ lo ≤ x ∧ x ≤ hi ∧ Src B b w' ∧ w.grownBy w' (some b)
def ReadsAny (B b : Nat) (w : World) (e : Ending) (w' : World) : Prop :=
  ∃ x : Int, e = .returned (.int .i64 x) ∧ Src B b w' ∧ w.grownBy w' (some b)

theorem grown_draws {a w : World} {row : Option Nat} (h : a.grownBy w row) (n : Nat) : a.grownBy (w.drewN n) row := ⟨h.os, h.tape, h.output, h.size, h.block⟩
theorem Src.draws {B b : Nat} {w : World} (h : Src B b w) (n : Nat) : Src B b (w.drewN n) := h.keep (Go.Proofs.Ytaimmohfcjoclaa.draws (Below.refl _ _) n)

set_option maxHeartbeats 1000000 in
theorem raw_any (B b : Nat) (w : World) (h : Src B b w) : Calls Try.prog 66 #[.pointer (some ⟨b, 0, none⟩)] w (ReadsAny B b w) := by
  have hS := Lib.hid h
  obtain ⟨hbase, ⟨A, n, c, k, e1, e2, e3, e4, e5⟩, hfree, hlt⟩ := h
  have HI := Lib.hid e5
  clear e5
  by_cases hk : k < n
  · obtain ⟨g, off, rfl, hg, hc⟩ := HI.out (by omega)
    obtain ⟨x, hx⟩ := hc k hk
    clear hc
    have hgb : g ≠ b := by omega
    have k1 : ¬ (n : Int) ≤ (k : Int) := by omega
    have k2 : decide ((n : Int) ≤ (k : Int)) = false := by simp; omega
    have kn : (k : Int) < (n : Int) := by omega
    have k0 : (0 : Int) ≤ (k : Int) := by omega
    go_enter Try.func66, Try.ntmps66
    go_wp2_with fail
    go_quiet (fail)
    go_wp2_with fail
    have v0 : ((w.drewN nq).setCell ⟨b, 1, none⟩ (.int .i64 ((k : Int) + 1))).cell? ⟨b, 0, none⟩ = some (.slice (some ⟨g, off, none⟩) n c) := by
      rw [World.cell?_setCell_other _ _ _ _ (fun e => by have := congrArg Addr.off e; simp at this)]
      simpa using e1
    have v1 : ((w.drewN nq).setCell ⟨b, 1, none⟩ (.int .i64 ((k : Int) + 1))).cell? ⟨b, 1, none⟩ = some (.int .i64 ((k : Int) + 1)) := World.cell?_setCell_same _ _ _ (u := .int .i64 (k : Int)) (by simpa using e2)
    have vx : ((w.drewN nq).setCell ⟨b, 1, none⟩ (.int .i64 ((k : Int) + 1))).cell? ⟨g, off + k, none⟩ = some (.int .i64 x) := by
      rw [World.cell?_setCell_other _ _ _ _ (fun e => by have := congrArg Addr.block e; simp at this; omega)]
      simpa using hx
    have hgrow : w.grownBy ((w.drewN nq).setCell ⟨b, 1, none⟩ (.int .i64 ((k : Int) + 1))) (some b) :=
      ⟨rfl, rfl, rfl, by simp [World.setCell], fun i hi hne => by rw [Below.heap_setCell _ _ _ _ (fun e => hne (by rw [e]))]; rfl⟩
    have hfree2 : ((w.drewN nq).setCell ⟨b, 1, none⟩ (.int .i64 ((k : Int) + 1))).frozen? ⟨b, 1, none⟩ = false := by simpa [go_sem] using hfree
    have hlt2 : b < ((w.drewN nq).setCell ⟨b, 1, none⟩ (.int .i64 ((k : Int) + 1))).heap.size := by simpa [World.setCell] using hlt
    have HG := Lib.hid hgrow
    clear hgrow e1 e2 hx hfree hlt
    generalize (w.drewN nq).setCell ⟨b, 1, none⟩ (.int .i64 ((k : Int) + 1)) = V at *
    go_quiet (fail)
    go_wp2
    go_ret
    refine ⟨x, rfl, Src.draws ⟨hbase, ⟨_, n, c, k + 1, v0, by rw [v1]; rfl, by omega, e4, ?_⟩, hfree2, hlt2⟩ _, grown_draws HG.out _⟩
    have hl := hS.out.lt
    exact HI.out.keep (by omega) fun i hi => HG.out.block i (by omega) (by simp; omega)
  · have k2 : (n : Int) ≤ (k : Int) := by omega
    go_enter Try.func66, Try.ntmps66
    go_wp2_with fail
    go_quiet (fail)
    go_wp2
    go_ret
    exact ⟨0, rfl, hS.out.draws _, grown_draws (World.grownBy.refl _ _) _⟩

theorem n_any (B b : Nat) (m : Int) (w : World) (h : Src B b w) (h1 : 1 ≤ m) (h2 : m ≤ 1000000000) :
    Calls Try.prog 39 #[.pointer (some ⟨b, 0, none⟩), .int .i64 m] w (Reads B b 0 (m - 1) w) := by
  go_enter Try.func39, Try.ntmps39
  go_wp2_with (first
    | (go_at_call 66; refine (raw_any B b _ h).mono ?_; rintro e w1 ⟨x, rfl, hs1, hg1⟩; have HS1 := Lib.hid hs1; have HG1 := Lib.hid hg1; clear hs1 hg1)
    | (go_at_call 27; refine (mod_any x m _ h1 h2).mono ?_; rintro e w2 ⟨rfl, rfl⟩))
  go_ret
  have hr := modN_range x m h1
  exact ⟨_, rfl, hr.1, by omega, HS1.out, HG1.out⟩

theorem range_any (B b : Nat) (lo hi : Int) (w : World) (h : Src B b w) (h0 : 0 ≤ lo) (h1 : lo ≤ hi) (h2 : hi ≤ 100000000) :
    Calls Try.prog 38 #[.pointer (some ⟨b, 0, none⟩), .int .i64 lo, .int .i64 hi] w (Reads B b lo hi w) := by
  go_enter Try.func38, Try.ntmps38
  go_wp2_with (first
    | (go_at_call 39; refine (n_any B b _ _ h (by omega) (by omega)).mono ?_; rintro e w1 ⟨x, rfl, hx1, hx2, hs1, hg1⟩; have HS1 := Lib.hid hs1; have HG1 := Lib.hid hg1; clear hs1 hg1))
  go_ret
  exact ⟨_, rfl, by omega, by omega, HS1.out, HG1.out⟩

theorem src_new (A : Option Addr) (n c : Nat) (w : World) (t : TypeId) (hn : n ≤ 2000) (h : IntsIn w.heap.size w A n) : Src w.heap.size w.heap.size (w.alloc (.cells #[.slice A n c, .int .i64 0] t)) := by
  refine ⟨Nat.le_refl _, ⟨A, n, c, 0, by simp [go_sem], by simp [go_sem], Nat.zero_le _, hn, h.keep (Nat.le_refl _) fun i hi => Below.heap_alloc _ _ _ hi⟩, by simp [go_sem], by rw [World.size_alloc]; omega⟩

/-- A slice of integers that came in. -/
theorem new_any (A : Option Addr) (n c : Nat) (w : World) (hc : n ≤ c) (h : IntsIn w.heap.size w A n) :
    Calls Try.prog 37 #[.slice A n c] w fun e w' => e = .returned (.pointer (some ⟨w.heap.size, 0, none⟩)) ∧ Src w.heap.size w.heap.size w' ∧ Below w.heap.size w w' := by
  have HI := Lib.hid h
  clear h
  by_cases hn : (2000 : Int) < (n : Int)
  · obtain ⟨g, off, rfl, hg, hx⟩ := HI.out (by omega)
    have HX := Lib.hid hx
    clear hx
    have hc2 : (2000 : Int) ≤ (c : Int) := by omega
    go_enter Try.func37, Try.ntmps37
    go_wp2
    go_ret
    exact ⟨rfl, src_new _ _ _ _ _ (by omega) fun _ => ⟨g, off, rfl, hg, fun i hi => HX.out i (by omega)⟩, (Below.refl _ _).alloc (Nat.le_refl _) _⟩
  · go_enter Try.func37, Try.ntmps37
    go_wp2
    go_ret
    exact ⟨rfl, src_new _ _ _ _ _ (by omega) HI.out, (Below.refl _ _).alloc (Nat.le_refl _) _⟩
end Go.Proofs.Ytaimmohfcjoclaa
