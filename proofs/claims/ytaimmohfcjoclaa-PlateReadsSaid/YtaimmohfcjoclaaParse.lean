/-
  Contracts of Parse (both): the plate with a text, and the error.
-/
import Derived.Test.YtaimmohfcjoclaaStr
import Derived.Test.YtaimmohfcjoclaaAscii
import Derived.Test.YtaimmohfcjoclaaMathB
import Derived.Test.YtaimmohfcjoclaaAfter
namespace Go.Proofs.Ytaimmohfcjoclaa
open Go.RowKit

/-- What a call of Parse has come to. -/
def Parsed (s : ByteArray) (w : World) (e : Ending) (w' : World) : Prop :=
  e = .returned (.tuple #[.agg #[.int .i64 (pL s), .int .i64 (pA s), .int .i64 (pS s)], .int .i64 (pE s)]) ∧ Below w.heap.size w w'
theorem Parsed.mk {s : ByteArray} {w w' : World} {l a c e : Int} (h : pL s = l ∧ pA s = a ∧ pS s = c ∧ pE s = e) (hb : Below w.heap.size w w') :
    Parsed s w (.returned (.tuple #[.agg #[.int .i64 l, .int .i64 a, .int .i64 c], .int .i64 e])) w' := by
  obtain ⟨rfl, rfl, rfl, rfl⟩ := h
  exact ⟨rfl, hb⟩

theorem num_ext (s : ByteArray) (a b : Nat) (h : a < b) (hb : b ≤ s.size) (h9 : b ≤ a + 9) : numB (s.extract a b) = allDig (s.extract a b).data.toList :=
  numB_of (by rw [size_ext]; omega)
theorem pForm_num {s : ByteArray} (hz : s.size = 10) : pForm s = (numB (s.extract 0 1) && (numB (s.extract 1 4) && numB (s.extract 4 s.size))) := by
  rw [num_ext s 0 1 (by omega) (by omega) (by omega), num_ext s 1 4 (by omega) (by omega) (by omega), num_ext s 4 s.size (by omega) (by omega) (by omega)]
  have x : ∀ a b, (s.extract a b).data.toList = (s.data.toList.drop a).take (b - a) := fun a b => by rw [ByteArray.data_extract, Array.toList_extract]
  have hl : s.data.toList.length = 10 := by rw [← hz]; simp
  have e : s.data.toList = (s.extract 0 1).data.toList ++ ((s.extract 1 4).data.toList ++ (s.extract 4 s.size).data.toList) := by
    rw [x, x, x, hz]
    match s.data.toList, hl with
    | [_, _, _, _, _, _, _, _, _, _], _ => rfl
  unfold pForm
  rw [e]
  unfold allDig
  rw [List.all_append, List.all_append]
  simp [hz]

/-- The cells of two boxes, one behind the other, in a later world. -/
theorem two_cells {w w1 : World} {x0 x1 x2 y0 y1 y2 : Int} {t u : TypeId}
    (hb : Below (((w.alloc (.cells #[.int .i64 x0, .int .i64 x1, .int .i64 x2] t)).alloc (.cells #[.int .i64 y0, .int .i64 y1, .int .i64 y2] u)).drew).heap.size (((w.alloc (.cells #[.int .i64 x0, .int .i64 x1, .int .i64 x2] t)).alloc (.cells #[.int .i64 y0, .int .i64 y1, .int .i64 y2] u)).drew) w1) :
    w1.cell? ⟨w.heap.size, 0, none⟩ = some (.int .i64 x0) ∧ w1.cell? ⟨w.heap.size, 1, none⟩ = some (.int .i64 x1) ∧ w1.cell? ⟨w.heap.size, 2, none⟩ = some (.int .i64 x2) ∧
    w1.cell? ⟨w.heap.size + 1, 0, none⟩ = some (.int .i64 y0) ∧ w1.cell? ⟨w.heap.size + 1, 1, none⟩ = some (.int .i64 y1) ∧ w1.cell? ⟨w.heap.size + 1, 2, none⟩ = some (.int .i64 y2) ∧
    w1.frozen? ⟨w.heap.size, 0, none⟩ = false ∧ w1.frozen? ⟨w.heap.size, 1, none⟩ = false ∧ w1.frozen? ⟨w.heap.size, 2, none⟩ = false ∧
    Below w.heap.size w w1 ∧ w.heap.size + 1 < w1.heap.size := by
  have hs := hb.size
  refine ⟨?_, ?_, ?_, ?_, ?_, ?_, ?_, ?_, ?_, ?_, ?_⟩
  any_goals exact kept hb (by simp [go_sem])
  any_goals exact frz hb (by simp only [World.size_alloc, World.size_drew]; omega) (by simp [go_sem])
  · exact ((((Below.refl _ _).alloc (Nat.le_refl _) _).alloc (by simp) _).drew).trans (hb.mono (by simp; omega))
  · simp at hs; omega
theorem two_cells' {w w1 : World} {x0 x1 x2 y0 y1 y2 : Int} {t u : TypeId}
    (hb : Below ((w.alloc (.cells #[.int .i64 x0, .int .i64 x1, .int .i64 x2] t)).alloc (.cells #[.int .i64 y0, .int .i64 y1, .int .i64 y2] u)).heap.size ((w.alloc (.cells #[.int .i64 x0, .int .i64 x1, .int .i64 x2] t)).alloc (.cells #[.int .i64 y0, .int .i64 y1, .int .i64 y2] u)) w1) :
    w1.cell? ⟨w.heap.size, 0, none⟩ = some (.int .i64 x0) ∧ w1.cell? ⟨w.heap.size, 1, none⟩ = some (.int .i64 x1) ∧ w1.cell? ⟨w.heap.size, 2, none⟩ = some (.int .i64 x2) ∧
    w1.cell? ⟨w.heap.size + 1, 0, none⟩ = some (.int .i64 y0) ∧ w1.cell? ⟨w.heap.size + 1, 1, none⟩ = some (.int .i64 y1) ∧ w1.cell? ⟨w.heap.size + 1, 2, none⟩ = some (.int .i64 y2) ∧
    w1.frozen? ⟨w.heap.size, 0, none⟩ = false ∧ w1.frozen? ⟨w.heap.size, 1, none⟩ = false ∧ w1.frozen? ⟨w.heap.size, 2, none⟩ = false ∧
    Below w.heap.size w w1 ∧ w.heap.size + 1 < w1.heap.size := by
  have hs := hb.size
  refine ⟨?_, ?_, ?_, ?_, ?_, ?_, ?_, ?_, ?_, ?_, ?_⟩
  any_goals exact kept hb (by simp [go_sem])
  any_goals exact frz hb (by simp only [World.size_alloc]; omega) (by simp [go_sem])
  · exact (((Below.refl _ _).alloc (Nat.le_refl _) _).alloc (by simp) _).trans (hb.mono (by simp; omega))
  · simp at hs; omega
theorem ext_facts {s : ByteArray} (h : pForm s = true) : s.size = 10 ∧ allDig s.data.toList = true := by
  unfold pForm at h
  simpa using h

set_option maxHeartbeats 1000000 in
theorem parse_syntax (s : ByteArray) (w : World) (h : pForm s = false) :
    Calls Try.prog 17 #[.string s] w (Parsed s w) := by
  have H := Lib.hid (p_no h)
  by_cases hz : s.size = 10
  · rw [pForm_num hz] at h
    have h1 : ((s.size : Int) != 10) = false := by rw [bne_eq_false_iff_eq]; omega
    have i1 : (1 : Int) ≤ (s.size : Int) := by omega
    have i4 : (4 : Int) ≤ (s.size : Int) := by omega
    clear hz
    cases b1 : numB (s.extract 0 1) <;> cases b2 : numB (s.extract 1 4) <;> cases b3 : numB (s.extract 4 s.size)
    all_goals first
      | (rw [b1, b2, b3] at h; exact absurd h (by decide))
      | (clear h
         go_enter Try.func17, Try.ntmps17
         go_wp2_with (go_at_call 58; refine (value_any _ _).mono ?_; rintro e w1 ⟨rfl, rfl⟩)
         go_returns
         exact Parsed.mk H.out ((Below.refl _ _).alloc (Nat.le_refl _) _))
  · have h1 : ((s.size : Int) != 10) = true := by rw [bne_iff_ne]; omega
    clear h hz
    go_enter Try.func17, Try.ntmps17
    go_wp2
    go_returns
    exact Parsed.mk H.out ((Below.refl _ _).alloc (Nat.le_refl _) _)

set_option maxHeartbeats 1000000 in
theorem parse_form (s : ByteArray) (w : World) (h : pForm s = true) :
    Calls Try.prog 17 #[.string s] w (Parsed s w) := by
  obtain ⟨hz, hd⟩ := ext_facts h
  have h1 : ((s.size : Int) != 10) = false := by rw [bne_eq_false_iff_eq]; omega
  have i1 : (1 : Int) ≤ (s.size : Int) := by omega
  have i4 : (4 : Int) ≤ (s.size : Int) := by omega
  have b1 : numB (s.extract 0 1) = true := by rw [num_ext s 0 1 (by omega) (by omega) (by omega)]; exact allDig_ext s 0 1 hd
  have b2 : numB (s.extract 1 4) = true := by rw [num_ext s 1 4 (by omega) (by omega) (by omega)]; exact allDig_ext s 1 4 hd
  have b3 : numB (s.extract 4 s.size) = true := by rw [num_ext s 4 s.size (by omega) (by omega) (by omega)]; exact allDig_ext s 4 s.size hd
  have n1 : numV (s.extract 0 1) = pL0 s := numV_yes b1
  have n2 : numV (s.extract 1 4) = pA0 s := numV_yes b2
  have n3 : numV (s.extract 4 s.size) = pS0 s := numV_yes b3
  cases hv : vld (pL0 s) (pA0 s) (pS0 s) with
  | false =>
    have H := Lib.hid (p_range h hv)
    have HZ := Lib.hid hz
    clear h hz
    go_enter Try.func17, Try.ntmps17
    go_wp2_with (first
      | (go_at_call 58; refine (value_any _ _).mono ?_; rintro e w1 ⟨rfl, rfl⟩)
      | (go_at_call 19; refine (valid_any _ _ _ _).mono ?_; rintro e w1 ⟨rfl, hb1⟩; obtain ⟨c0, c1, c2, d0, d1, d2, f0, f1, f2, hb, hz⟩ := two_cells' hb1; have HB1 := Lib.hid hb; clear hb hb1))
    refine bodyPost_ret (v := .tuple #[.agg #[.int .i64 0, .int .i64 0, .int .i64 0], .int .i64 1]) (by simp [results, go_sem, c0, c1, c2]) rfl ?_
    exact Parsed.mk H.out (((HB1.out.setCell (Nat.le_refl _) _).setCell (Nat.le_refl _) _).setCell (Nat.le_refl _) _)
  | true =>
    have H := Lib.hid (p_yes h hv)
    have HZ := Lib.hid hz
    clear h hz
    go_enter Try.func17, Try.ntmps17
    go_wp2_with (first
      | (go_at_call 58; refine (value_any _ _).mono ?_; rintro e w1 ⟨rfl, rfl⟩)
      | (go_at_call 19; refine (valid_any _ _ _ _).mono ?_; rintro e w1 ⟨rfl, hb1⟩; obtain ⟨c0, c1, c2, d0, d1, d2, f0, f1, f2, hb, hz⟩ := two_cells' hb1; have HB1 := Lib.hid hb; clear hb hb1))
    refine bodyPost_ret (v := .tuple #[.agg #[.int .i64 (pL0 s), .int .i64 (pA0 s), .int .i64 (pS0 s)], .int .i64 0]) (by simp [results, go_sem, c0, c1, c2]) rfl ?_
    exact Parsed.mk H.out (((HB1.out.setCell (Nat.le_refl _) _).setCell (Nat.le_refl _) _).setCell (Nat.le_refl _) _)

theorem parse_any (s : ByteArray) (w : World) (hs : s.size ≤ maxLen) : Calls Try.prog 17 #[.string s] w (Parsed s w) := by
  have _ := hs
  cases h : pForm s with
  | false => exact parse_syntax s w h
  | true => exact parse_form s w h
end Go.Proofs.Ytaimmohfcjoclaa
