/-
  Openers: numbers, strings; the reader's parts of a telegram.
-/
import Derived.Test.YtglgobmmmghdoaaGreatDoorRows
import Derived.WalkKit
import Derived.ProofKit
import Derived.OpenShut
import Derived.ShutString
import Derived.Lib.SmallJoins
import Derived.Test.YtglgobmmmghdoaaGreatDoorLibB
import Derived.Deep.Strs

/- LibOB: Opening the arguments of the laws: an integer, a string, a byte, a slice of integers. -/
/- OpenB -/
namespace Go.Proofs.YtglgobmmmghdoaaGreatDoor
open Go.ChangeShapes Go.WideShapes Go.ChangeAt Go.RowKit Go.Joins
open Go.ChangeMaps (open_string shut_string)

section
variable {H : Type} {enc : TypeId × Value → H} {W : World} {base : Nat} {v : Value} {d : DataW H} {p : List MemPlace}
theorem lawOwn : ownKnob Tryz.prog.godebug = none := by kernel_rfl
theorem lawLaidOut : laidOutB Tryz.prog = true := by kernel_rfl
set_option maxRecDepth 100000 in
theorem law_int (hv : Value.okWide Tryz.prog W .any base 3 v) (h : DataW.Trod enc Tryz.prog W 0 (fun _ => true) true 3 v d p) : ∃ x : Int, (Lit.int .i64 x).wf = true ∧ v = .int .i64 x := by
  obtain ⟨x, rfl, rfl, rfl, wx⟩ := open_int Tryz.underlying3 hv h
  exact ⟨x, wx, rfl⟩
set_option maxRecDepth 100000 in
theorem law_str (hv : Value.okWide Tryz.prog W .any base 9 v) (h : DataW.Trod enc Tryz.prog W 0 (fun _ => true) true 9 v d p) : ∃ x : ByteArray, x.size ≤ maxLen ∧ v = .string x := by
  obtain ⟨x, rfl, rfl, rfl, wx⟩ := open_string Tryz.underlying9 hv h
  exact ⟨x, wx, rfl⟩
end
end Go.Proofs.YtglgobmmmghdoaaGreatDoor

/- OpenI: Opening an argument that is a slice of integers. -/
namespace Go.Proofs.YtglgobmmmghdoaaGreatDoor
open Go.ChangeShapes Go.WideShapes Go.ChangeAt Go.RowKit Go.Joins

set_option maxRecDepth 100000 in
theorem law_ints {H : Type} {enc : TypeId × Value → H} {W : World} {base : Nat} {v : Value} {d : DataW H} {p : List MemPlace} (hv : Value.okWide Tryz.prog W .any base 22 v) (h : DataW.Trod enc Tryz.prog W 0 (fun _ => true) true 22 v d p) :
    ∃ (A : Option Addr) (len cap : Nat), len ≤ cap ∧ IntsIn W.heap.size W A len ∧ v = .slice A len cap := by
  obtain ⟨a0, len, cap, rfl⟩ := okWide_slice Tryz.underlying22 hv
  obtain ⟨fuel, hf⟩ := h
  rcases open_ints Tryz.underlying22 Tryz.underlying3 (by kernel_rfl) hf with ⟨hcs, _⟩ | ⟨a, l, c, zs, hcs, _, hl, _, hz, _, hcell, _⟩
  · simp [Value.cells] at hcs
    obtain ⟨rfl, rfl, rfl⟩ := hcs
    exact ⟨none, 0, 0, Nat.le_refl _, fun h => absurd h (by omega), rfl⟩
  · simp [Value.cells] at hcs
    obtain ⟨rfl, rfl, rfl⟩ := hcs
    have hz' : zs.length = cap := by simpa using hz
    refine ⟨some a, len, cap, hl, fun hpos => ?_, rfl⟩
    obtain ⟨b, off, spot⟩ := a
    have h0 := hcell 0 (by omega)
    have hs : spot = none := by simpa [Addr.add] using World.cell?_spot h0
    subst hs
    have ad : ∀ (o j : Nat), (⟨b, o, none⟩ : Addr).add j = ⟨b, o + j, none⟩ := fun o j => by unfold Addr.add; split <;> simp_all
    refine ⟨b, off, rfl, ?_, fun i hi => ⟨_, by rw [← ad]; exact hcell i (by omega)⟩⟩
    rw [ad] at h0
    exact World.block_lt_of_cell? W _ h0
end Go.Proofs.YtglgobmmmghdoaaGreatDoor

/- TelL: Contract of the reader's Letters: some capital letters. -/
namespace Go.Proofs.YtglgobmmmghdoaaGreatDoor
open Go.RowKit

theorem info_u8b : (Tryz.prog.info? 5).map (fun i => (i.zero, i.size, i.bytes)) = some (some (.int .u8 0), 1, 1) := by kernel_rfl
def lettersOf (g : Nat → Int) (K : Nat) : ByteArray := strOfNums ((List.range K).map g)
theorem lettersOf_size (g : Nat → Int) (K : Nat) : (lettersOf g K).size = K := by unfold lettersOf; rw [strOfNums_size]; simp
theorem lettersOf_let {g : Nat → Int} {K : Nat} (h : ∀ j, j < K → 65 ≤ g j ∧ g j ≤ 90) : allLet (lettersOf g K).data.toList = true := by
  unfold lettersOf
  rw [strOfNums_data]
  unfold allLet
  rw [List.all_map, List.all_map, List.all_eq_true]
  intro j hj
  have := h j (List.mem_range.1 hj)
  simp [isLet, isLe]
  omega
theorem conv_letters {wr : World} {b K cap : Nat} {t : TypeId} {g : Nat → Int} (hr : wr.rowIs b t K (fun j => .int .u8 (g j))) :
    (convert 86 9 (.slice (some ⟨b, 0, none⟩) K cap)).run Tryz.prog wr = .ok (.string (lettersOf g K)) wr := by
  refine run_convert_bytes_arg (P := Tryz.prog) wr 86 5 Tryz.underlying86 Tryz.underlying5 b 0 K cap ((List.range K).map g) (by simp) (fun i hi => ?_) 9 Tryz.underlying9
  rw [Nat.zero_add, hr.cell hi]
  simp [hi]
theorem row_reads {w w' : World} {bb b : Nat} {t : TypeId} {n : Nat} {f : Nat → Value} (h : w.rowIs bb t n f) (hg : w.grownBy w' (some b)) (hne : bb ≠ b) : w'.rowIs bb t n f :=
  h.of_block (hg.block bb h.lt (by simpa using hne))

set_option maxHeartbeats 1000000 in
theorem rletters_any (B b : Nat) (lo hi : Int) (w : World) (hS : Src B b w) (h0 : 0 ≤ lo) (h1 : lo ≤ hi) (h2 : hi ≤ 1000) :
    Calls Tryz.prog 18 #[.pointer (some ⟨b, 0, none⟩), .int .i64 lo, .int .i64 hi] w fun e w' => ∃ S : ByteArray, e = .returned (.string S) ∧ lo ≤ (S.size : Int) ∧ (S.size : Int) ≤ hi ∧ allLet S.data.toList = true ∧ Src B b w' ∧ w.grownBy w' (some b) := by
  go_enter Tryz.func18, Tryz.ntmps18
  go_wp2_with fail
  refine (range_any B b lo hi _ hS h0 h1 (by omega)).mono ?_
  rintro e w1 ⟨x, rfl, hx1, hx2, hs1, hg1⟩
  obtain ⟨K, rfl⟩ := Int.eq_ofNat_of_zero_le (show 0 ≤ x by omega)
  have hbl : b < w1.heap.size := hs1.lt
  have hmk := run_make_row' (P := Tryz.prog) 86 5 (.int .u8 0) 1 Tryz.underlying86 info_u8b rfl .i64 .i64 K (by omega) (by omega)
  have HS1 := hide (hs1.keep ((Below.refl w1.heap.size w1).alloc (Nat.le_refl _) (.cells (madeCells #[.int .u8 0] K) 5)))
  have HG1 := Lib.hid hg1
  have HR1 := hide (World.rowIs_made w1 (.int .u8 0) K 5)
  have HA1 := hide (World.grownBy_alloc w1 (.cells (madeCells #[.int .u8 0] K) 5) (some b))
  clear hs1 hg1
  go_wp2
  clear hmk
  generalize w1.alloc (.cells (madeCells #[.int .u8 0] K) 5) = W1 at *
  go_loopw [8] (fun i wr => ∃ (k : Nat) (g : Nat → Int), k ≤ K ∧ i = .int .i64 k ∧ (∀ j, j < k → 65 ≤ g j ∧ g j ≤ 90) ∧ wr.rowIs w1.heap.size 5 K (fun j => .int .u8 (g j)) ∧ Src B b wr ∧ w1.grownBy wr (some b)) (fun i _ => K - (intOf i).toNat)
  case atStart => exact ⟨0, fun _ => 0, Nat.zero_le _, rfl, fun j hj => absurd hj (by omega), unhide HR1, unhide HS1, unhide HA1⟩
  case round =>
    obtain ⟨k, g, hk, rfl, hgl, hr, hs, hg⟩ := hrel
    obtain ⟨wo, rfl⟩ : ∃ wo : World, wo = wr := ⟨_, rfl⟩
    have HGL := hide hgl
    clear hgl
    by_cases hlt : k < K
    · have kl : (k : Int) < (K : Int) := by omega
      have k0 : (0 : Int) ≤ (k : Int) := by omega
      have HR := hide hr
      have HS := hide hs
      have HG := Lib.hid hg
      clear hr hs hg
      go_wp2_with fail
      refine (n_any B b 26 _ (unhide HS) (by omega) (by omega)).mono ?_
      rintro e w2 ⟨y, rfl, hy1, hy2, hs2, hg2⟩
      have hr2 := row_reads (unhide HR) hg2 (by omega)
      have hc := hr2.cell (i := k) hlt
      have hf := hr2.frozen k
      have HR2 := hide (hr2.set k (.int .u8 (65 + y)))
      have hg3 := Lib.grownBy_trans HG.out hg2
      have HG2 := Lib.hid (hg3.setNew (Nat.le_refl _) k (.int .u8 (65 + y)))
      have HS2 := hide (hs2.grown (row := some w1.heap.size) (Lib.grownBy_setB (World.grownBy.refl w2 _) k (.int .u8 (65 + y))) (fun j hj => by cases hj; omega))
      clear hr2 hg3 hs2 hg2 HR HS HG
      go_wp2
      go_roundw
      case rel =>
        refine ⟨k + 1, fun j => if j = k then 65 + y else g j, by omega, by go_num, ?_, ?_, unhide HS2, HG2.out⟩
        · intro j hj
          by_cases e : j = k
          · simp only [e, if_true]; omega
          · simp only [e, if_false]; exact unhide HGL j (by omega)
        · refine (unhide HR2).congr fun j _ => ?_
          by_cases e : j = k <;> simp [e]
      case measure => simp [intOf]; omega
    · obtain rfl : k = K := by omega
      have hcv := conv_letters (cap := k) hr
      have HS := hide hs
      have HG := Lib.hid (Lib.grownBy_trans HG1.out hg)
      clear hr hs hg
      go_wp2
      go_ret
      exact ⟨lettersOf g k, rfl, by rw [lettersOf_size]; omega, by rw [lettersOf_size]; omega, lettersOf_let (unhide HGL), unhide HS, HG.out⟩
end Go.Proofs.YtglgobmmmghdoaaGreatDoor
