/-
  TelegramLimits: what the telegrams in memory are; the contracts at them.
-/
import Derived.Test.YtmdjdhfchigekaaDoorLimM
import Derived.Test.YtmdjdhfchigekaaDoorTelO
import Derived.Test.YtmdjdhfchigekaaDoorTelK
namespace Go.Proofs.YtmdjdhfchigekaaDoor
open Go.RowKit

theorem bodyX_length (k : Nat) : (bodyX k).length = 5 * k := by
  induction k with
  | zero => rfl
  | succ k ih => rw [bodyX_step, List.length_append, ih]; simp; omega
theorem telS_pos {t : Tel} (h : telE t = 0) : (telS t).toList.isEmpty = false := by
  rw [telS_0 h, ByteArray.toList_eq]
  show (telX t).toArray.toList.isEmpty = false
  unfold telX endX
  simp
theorem fmt_lim {k : Int} {n : Nat} {t : Tel} (hk : t.kind = ⟨#[66, 83, 77]⟩) (hc : t.change = ⟨#[]⟩) (hn : t.els.length = n) (hS : SmallT t) (he : telE t = limE k) (b : Nat) (A : Option Addr) (c : Nat) (w : World) (h : ElsIn b w A t.els) :
    Calls Tryd.prog 14 #[.agg #[.string ⟨#[66, 83, 77]⟩, .string ⟨#[]⟩, .slice A n c]] w fun e w' => ∃ S : ByteArray, e = .returned (.tuple #[.string S, .int .i64 (limE k)]) ∧ S.toList.isEmpty = decide (0 < k) ∧ Below w.heap.size w w' := by
  have := format_tel b t A c w hS h
  rw [hk, hc, hn, he] at this
  refine this.mono ?_
  rintro e w' ⟨he', hb⟩
  refine ⟨telS t, he', ?_, hb⟩
  by_cases h0 : k ≤ 0
  · have : telE t = 0 := by rw [he]; unfold limE; rw [if_pos h0]
    rw [telS_pos this, decide_eq_false (by omega)]
  · have : telE t ≠ 0 := by rw [he]; unfold limE; rw [if_neg h0]; decide
    rw [telS_no this, decide_eq_true (by omega), ByteArray.toList_eq]
    rfl
theorem parse_lim {k : Int} (h : k = -1 ∨ k = 0 ∨ k = 1) {S : ByteArray} (hS : S.data.toList = bodyX (24 + k).toNat) (b : Nat) (w : World) (hb : b < w.heap.size) :
    Calls Tryd.prog 18 #[.string (⟨#[66, 83, 77, 10]⟩ ++ S ++ ⟨#[69, 78, 68, 66, 83, 77, 10]⟩)] w fun e w' => ∃ (t : Tel) (A : Option Addr) (c : Nat) (l : Int), e = .returned (.tuple #[.agg #[.string t.kind, .string t.change, .slice A t.els.length c], .int .i64 l, .int .i64 (limE k)]) ∧ (0 < k → l = 26) ∧ Below w.heap.size w w' := by
  have e1 : (⟨#[66, 83, 77, 10]⟩ ++ S ++ ⟨#[69, 78, 68, 66, 83, 77, 10]⟩ : ByteArray) = wholeX (24 + k).toNat := by
    apply ba_ext
    simp only [ByteArray.data_append, Array.toList_append, hS]
    rfl
  rw [e1]
  refine (parse_any b _ w hb).mono ?_
  rintro e w' ⟨A, c, he, _, hbel⟩
  obtain ⟨p1, p2⟩ := lim_P h
  rw [p1] at he
  exact ⟨_, A, c, _, he, p2, hbel⟩

/-- The world where the three telegrams of the limits are laid out. -/
def limV (w : World) (A : Option Addr) (n c M : Nat) (D : ByteArray) : World :=
  ((((((w.alloc (.cells (madeCells #[.string ByteArray.empty] M) 9)).alloc (.cells #[.string ⟨#[65]⟩, .slice (some ⟨w.heap.size, 0, none⟩) M M] 34)).alloc (.cells #[.string ⟨#[66, 83, 77]⟩, .string ⟨#[]⟩, .slice (some ⟨w.heap.size + 1, 0, none⟩) 1 1] 24)).alloc (.cells #[.string D] 9)).alloc (.cells #[.string ⟨#[65]⟩, .slice (some ⟨w.heap.size + 1 + 1 + 1, 0, none⟩) 1 1] 34)).alloc (.cells #[.string ⟨#[66, 83, 77]⟩, .string ⟨#[]⟩, .slice (some ⟨w.heap.size + 1 + 1 + 1 + 1, 0, none⟩) 1 1] 24)).alloc
    (.cells #[.string ⟨#[66, 83, 77]⟩, .string ⟨#[]⟩, .slice A n c, .string ⟨#[66, 83, 77]⟩, .string ⟨#[]⟩, .slice (some ⟨w.heap.size + 1, 0, none⟩) 1 1, .string ⟨#[66, 83, 77]⟩, .string ⟨#[]⟩, .slice (some ⟨w.heap.size + 1 + 1 + 1 + 1, 0, none⟩) 1 1] 24)
/-- The world ahead of the last step. -/
def limU (w : World) (M : Nat) (D : ByteArray) : World :=
  (((((w.alloc (.cells (madeCells #[.string ByteArray.empty] M) 9)).alloc (.cells #[.string ⟨#[65]⟩, .slice (some ⟨w.heap.size, 0, none⟩) M M] 34)).alloc (.cells #[.string ⟨#[66, 83, 77]⟩, .string ⟨#[]⟩, .slice (some ⟨w.heap.size + 1, 0, none⟩) 1 1] 24)).alloc (.cells #[.string D] 9)).alloc (.cells #[.string ⟨#[65]⟩, .slice (some ⟨w.heap.size + 1 + 1 + 1, 0, none⟩) 1 1] 34)).alloc (.cells #[.string ⟨#[66, 83, 77]⟩, .string ⟨#[]⟩, .slice (some ⟨w.heap.size + 1 + 1 + 1 + 1, 0, none⟩) 1 1] 24)
theorem limU_below (w : World) (M : Nat) (D : ByteArray) : Below w.heap.size w (limU w M D) := by
  unfold limU
  repeat (refine Below.alloc ?_ (by (try simp only [World.size_alloc]); omega) _)
  exact Below.refl _ _
theorem limV_below (w : World) (A : Option Addr) (n c M : Nat) (D : ByteArray) : Below w.heap.size w (limV w A n c M D) := by
  unfold limV
  repeat (refine Below.alloc ?_ (by (try simp only [World.size_alloc]); omega) _)
  exact Below.refl _ _
theorem limV_els (w : World) (A : Option Addr) (n c M : Nat) (D : ByteArray) (b : Nat) (hb : b < w.heap.size) :
    ElsIn b (limV w A n c M D) (some ⟨w.heap.size + 1, 0, none⟩) [(⟨#[65]⟩, List.replicate M ByteArray.empty)] ∧
    ElsIn b (limV w A n c M D) (some ⟨w.heap.size + 1 + 1 + 1 + 1, 0, none⟩) [(⟨#[65]⟩, [D])] := by
  have q0 : ∀ i, i < M → (limV w A n c M D).cell? ⟨w.heap.size, i, none⟩ = some (.string ByteArray.empty) := fun i hi => by
    have h0 := (World.rowIs_made w (.string ByteArray.empty) M 9).cell (i := i) hi
    unfold limV
    iterate 6 (refine kept ((Below.refl _ _).alloc (Nat.le_refl _) _) ?_)
    exact h0
  constructor
  · intro _
    refine ⟨_, _, rfl, by omega, fun i hi => ?_⟩
    obtain rfl : i = 0 := by have : ([(⟨#[65]⟩, List.replicate M ByteArray.empty)] : List El).length = 1 := rfl; omega
    refine ⟨by simp [limV, go_sem], some ⟨w.heap.size, 0, none⟩, M, by simp [limV, go_sem], fun _ => ⟨_, _, rfl, by omega, fun j hj => ?_⟩⟩
    have hj' : j < M := by simpa using hj
    rw [Nat.zero_add, q0 j hj']
    simp [List.getD_eq_getElem?_getD, hj']
  · intro _
    refine ⟨_, _, rfl, by omega, fun i hi => ?_⟩
    obtain rfl : i = 0 := by have : ([(⟨#[65]⟩, [D])] : List El).length = 1 := rfl; omega
    refine ⟨by simp [limV, go_sem], some ⟨w.heap.size + 1 + 1 + 1, 0, none⟩, 1, by simp [limV, go_sem], fun _ => ⟨_, _, rfl, by omega, fun j hj => ?_⟩⟩
    have hj' : j < 1 := hj
    obtain rfl : j = 0 := by omega
    simp [limV, go_sem]
theorem limV_cells (w : World) (A : Option Addr) (n c M : Nat) (D : ByteArray) :
    (limV w A n c M D).heap[w.heap.size + 1 + 1 + 1 + 1 + 1 + 1]? = some (.cells #[.string ⟨#[66, 83, 77]⟩, .string ⟨#[]⟩, .slice A n c, .string ⟨#[66, 83, 77]⟩, .string ⟨#[]⟩, .slice (some ⟨w.heap.size + 1, 0, none⟩) 1 1, .string ⟨#[66, 83, 77]⟩, .string ⟨#[]⟩, .slice (some ⟨w.heap.size + 1 + 1 + 1 + 1, 0, none⟩) 1 1] 24 (0, 0)) := by
  have e : ∀ (w' : World) (o : Obj) (i : Nat), w'.heap.size = i → (w'.alloc o).heap[i]? = some o := fun w' o i h => by subst h; exact heap_alloc_new w' o
  unfold limV
  exact e _ _ _ (by simp only [World.size_alloc])
end Go.Proofs.YtmdjdhfchigekaaDoor
