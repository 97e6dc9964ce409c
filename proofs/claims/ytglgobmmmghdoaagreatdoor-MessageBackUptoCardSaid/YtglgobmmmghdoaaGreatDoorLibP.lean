/-
  Contracts of Parse of a plate (both), of Run (both); texts and valid plates correspond.
-/
import Derived.Test.YtglgobmmmghdoaaGreatDoorLibA
import Derived.Deep.OwnRows

/- LibP: Contracts of Parse of a plate (both); texts and valid plates correspond. -/
/- Parse: Contracts of Parse (both): the plate with a text, and the error. -/
namespace Go.Proofs.YtglgobmmmghdoaaGreatDoor
open Go.RowKit

/-- What a call of Parse has come to. -/
def Parsed (s : ByteArray) (w : World) (e : Ending) (w' : World) : Prop :=
  e = .returned (.tuple #[.agg #[.int .i64 (pL s), .int .i64 (pA s), .int .i64 (pS s)], .int .i64 (pE s)]) ∧ Below w.heap.size w w'
theorem Parsed.mk {s : ByteArray} {w w' : World} {l a c e : Int} (h : pL s = l ∧ pA s = a ∧ pS s = c ∧ pE s = e) (hb : Below w.heap.size w w') :
    Parsed s w (.returned (.tuple #[.agg #[.int .i64 l, .int .i64 a, .int .i64 c], .int .i64 e])) w' := by
  obtain ⟨rfl, rfl, rfl, rfl⟩ := h
  exact ⟨rfl, hb⟩

theorem num_ext (s : ByteArray) (a b : Nat) (h : a < b) (hb : b ≤ s.size) (h9 : b ≤ a + 9) : numB (s.extract a b) = allDig (s.extract a b).data.toList :=
  numB_of (by rw [size_ext]; omega)
theorem pForm_num {s : ByteArray} (hz : s.size = 10) : pForm s = (numB (s.extract 0 1) && (numB (s.extract 1 4) && numB (s.extract 4 s.size))) := by
  rw [num_ext s 0 1 (by omega) (by omega) (by omega), num_ext s 1 4 (by omega) (by omega) (by omega), num_ext s 4 s.size (by omega) (by omega) (by omega)]
  have x : ∀ a b, (s.extract a b).data.toList = (s.data.toList.drop a).take (b - a) := fun a b => by rw [ByteArray.data_extract, Array.toList_extract]
  have hl : s.data.toList.length = 10 := by rw [← hz]; simp
  have e : s.data.toList = (s.extract 0 1).data.toList ++ ((s.extract 1 4).data.toList ++ (s.extract 4 s.size).data.toList) := by
    rw [x, x, x, hz]
    match s.data.toList, hl with
    | [_, _, _, _, _, _, _, _, _, _], _ => rfl
  unfold pForm
  rw [e]
  unfold allDig
  rw [List.all_append, List.all_append]
  simp [hz]

/-- The cells of two boxes, one behind the other, in a later world. -/
theorem two_cells {w w1 : World} {x0 x1 x2 y0 y1 y2 : Int} {t u : TypeId}
    (hb : Below (((w.alloc (.cells #[.int .i64 x0, .int .i64 x1, .int .i64 x2] t)).alloc (.cells #[.int .i64 y0, .int .i64 y1, .int .i64 y2] u)).drew).heap.size (((w.alloc (.cells #[.int .i64 x0, .int .i64 x1, .int .i64 x2] t)).alloc (.cells #[.int .i64 y0, .int .i64 y1, .int .i64 y2] u)).drew) w1) :
    w1.cell? ⟨w.heap.size, 0, none⟩ = some (.int .i64 x0) ∧ w1.cell? ⟨w.heap.size, 1, none⟩ = some (.int .i64 x1) ∧ w1.cell? ⟨w.heap.size, 2, none⟩ = some (.int .i64 x2) ∧
    w1.cell? ⟨w.heap.size + 1, 0, none⟩ = some (.int .i64 y0) ∧ w1.cell? ⟨w.heap.size + 1, 1, none⟩ = some (.int .i64 y1) ∧ w1.cell? ⟨w.heap.size + 1, 2, none⟩ = some (.int .i64 y2) ∧
    w1.frozen? ⟨w.heap.size, 0, none⟩ = false ∧ w1.frozen? ⟨w.heap.size, 1, none⟩ = false ∧ w1.frozen? ⟨w.heap.size, 2, none⟩ = false ∧
    Below w.heap.size w w1 ∧ w.heap.size + 1 < w1.heap.size := by
  have hs := hb.size
  refine ⟨?_, ?_, ?_, ?_, ?_, ?_, ?_, ?_, ?_, ?_, ?_⟩
  any_goals exact kept hb (by simp [go_sem])
  any_goals exact frz hb (by simp only [World.size_alloc, World.size_drew]; omega) (by simp [go_sem])
  · exact ((((Below.refl _ _).alloc (Nat.le_refl _) _).alloc (by simp) _).drew).trans (hb.mono (by simp; omega))
  · simp at hs; omega
theorem two_cells' {w w1 : World} {x0 x1 x2 y0 y1 y2 : Int} {t u : TypeId}
    (hb : Below ((w.alloc (.cells #[.int .i64 x0, .int .i64 x1, .int .i64 x2] t)).alloc (.cells #[.int .i64 y0, .int .i64 y1, .int .i64 y2] u)).heap.size ((w.alloc (.cells #[.int .i64 x0, .int .i64 x1, .int .i64 x2] t)).alloc (.cells #[.int .i64 y0, .int .i64 y1, .int .i64 y2] u)) w1) :
    w1.cell? ⟨w.heap.size, 0, none⟩ = some (.int .i64 x0) ∧ w1.cell? ⟨w.heap.size, 1, none⟩ = some (.int .i64 x1) ∧ w1.cell? ⟨w.heap.size, 2, none⟩ = some (.int .i64 x2) ∧
    w1.cell? ⟨w.heap.size + 1, 0, none⟩ = some (.int .i64 y0) ∧ w1.cell? ⟨w.heap.size + 1, 1, none⟩ = some (.int .i64 y1) ∧ w1.cell? ⟨w.heap.size + 1, 2, none⟩ = some (.int .i64 y2) ∧
    w1.frozen? ⟨w.heap.size, 0, none⟩ = false ∧ w1.frozen? ⟨w.heap.size, 1, none⟩ = false ∧ w1.frozen? ⟨w.heap.size, 2, none⟩ = false ∧
    Below w.heap.size w w1 ∧ w.heap.size + 1 < w1.heap.size := by
  have hs := hb.size
  refine ⟨?_, ?_, ?_, ?_, ?_, ?_, ?_, ?_, ?_, ?_, ?_⟩
  any_goals exact kept hb (by simp [go_sem])
  any_goals exact frz hb (by simp only [World.size_alloc]; omega) (by simp [go_sem])
  · exact (((Below.refl _ _).alloc (Nat.le_refl _) _).alloc (by simp) _).trans (hb.mono (by simp; omega))
  · simp at hs; omega
theorem ext_facts {s : ByteArray} (h : pForm s = true) : s.size = 10 ∧ allDig s.data.toList = true := by
  unfold pForm at h
  simpa using h

set_option maxHeartbeats 1000000 in
theorem parse_syntax (s : ByteArray) (w : World) (h : pForm s = false) :
    Calls Tryz.prog 53 #[.string s] w (Parsed s w) := by
  have H := Lib.hid (p_no h)
  by_cases hz : s.size = 10
  · rw [pForm_num hz] at h
    have h1 : ((s.size : Int) != 10) = false := by rw [bne_eq_false_iff_eq]; omega
    have i1 : (1 : Int) ≤ (s.size : Int) := by omega
    have i4 : (4 : Int) ≤ (s.size : Int) := by omega
    clear hz
    cases b1 : numB (s.extract 0 1) <;> cases b2 : numB (s.extract 1 4) <;> cases b3 : numB (s.extract 4 s.size)
    all_goals first
      | (rw [b1, b2, b3] at h; exact absurd h (by decide))
      | (clear h
         go_enter Tryz.func53, Tryz.ntmps53
         go_wp2_with (go_at_call 78; refine (value_any _ _).mono ?_; rintro e w1 ⟨rfl, rfl⟩)
         go_returns
         exact Parsed.mk H.out ((Below.refl _ _).alloc (Nat.le_refl _) _))
  · have h1 : ((s.size : Int) != 10) = true := by rw [bne_iff_ne]; omega
    clear h hz
    go_enter Tryz.func53, Tryz.ntmps53
    go_wp2
    go_returns
    exact Parsed.mk H.out ((Below.refl _ _).alloc (Nat.le_refl _) _)

set_option maxHeartbeats 1000000 in
theorem parse_form (s : ByteArray) (w : World) (h : pForm s = true) :
    Calls Tryz.prog 53 #[.string s] w (Parsed s w) := by
  obtain ⟨hz, hd⟩ := ext_facts h
  have h1 : ((s.size : Int) != 10) = false := by rw [bne_eq_false_iff_eq]; omega
  have i1 : (1 : Int) ≤ (s.size : Int) := by omega
  have i4 : (4 : Int) ≤ (s.size : Int) := by omega
  have b1 : numB (s.extract 0 1) = true := by rw [num_ext s 0 1 (by omega) (by omega) (by omega)]; exact allDig_ext s 0 1 hd
  have b2 : numB (s.extract 1 4) = true := by rw [num_ext s 1 4 (by omega) (by omega) (by omega)]; exact allDig_ext s 1 4 hd
  have b3 : numB (s.extract 4 s.size) = true := by rw [num_ext s 4 s.size (by omega) (by omega) (by omega)]; exact allDig_ext s 4 s.size hd
  have n1 : numV (s.extract 0 1) = pL0 s := numV_yes b1
  have n2 : numV (s.extract 1 4) = pA0 s := numV_yes b2
  have n3 : numV (s.extract 4 s.size) = pS0 s := numV_yes b3
  cases hv : vld (pL0 s) (pA0 s) (pS0 s) with
  | false =>
    have H := Lib.hid (p_range h hv)
    have HZ := Lib.hid hz
    clear h hz
    go_enter Tryz.func53, Tryz.ntmps53
    go_wp2_with (first
      | (go_at_call 78; refine (value_any _ _).mono ?_; rintro e w1 ⟨rfl, rfl⟩)
      | (go_at_call 71; refine (valid_any _ _ _ _).mono ?_; rintro e w1 ⟨rfl, hb1⟩; obtain ⟨c0, c1, c2, d0, d1, d2, f0, f1, f2, hb, hz⟩ := two_cells' hb1; have HB1 := Lib.hid hb; clear hb hb1))
    refine bodyPost_ret (v := .tuple #[.agg #[.int .i64 0, .int .i64 0, .int .i64 0], .int .i64 1]) (by simp [results, go_sem, c0, c1, c2]) rfl ?_
    exact Parsed.mk H.out (((HB1.out.setCell (Nat.le_refl _) _).setCell (Nat.le_refl _) _).setCell (Nat.le_refl _) _)
  | true =>
    have H := Lib.hid (p_yes h hv)
    have HZ := Lib.hid hz
    clear h hz
    go_enter Tryz.func53, Tryz.ntmps53
    go_wp2_with (first
      | (go_at_call 78; refine (value_any _ _).mono ?_; rintro e w1 ⟨rfl, rfl⟩)
      | (go_at_call 71; refine (valid_any _ _ _ _).mono ?_; rintro e w1 ⟨rfl, hb1⟩; obtain ⟨c0, c1, c2, d0, d1, d2, f0, f1, f2, hb, hz⟩ := two_cells' hb1; have HB1 := Lib.hid hb; clear hb hb1))
    refine bodyPost_ret (v := .tuple #[.agg #[.int .i64 (pL0 s), .int .i64 (pA0 s), .int .i64 (pS0 s)], .int .i64 0]) (by simp [results, go_sem, c0, c1, c2]) rfl ?_
    exact Parsed.mk H.out (((HB1.out.setCell (Nat.le_refl _) _).setCell (Nat.le_refl _) _).setCell (Nat.le_refl _) _)

theorem parse_any (s : ByteArray) (w : World) (hs : s.size ≤ maxLen) : Calls Tryz.prog 53 #[.string s] w (Parsed s w) := by
  have _ := hs
  cases h : pForm s with
  | false => exact parse_syntax s w h
  | true => exact parse_form s w h
end Go.Proofs.YtglgobmmmghdoaaGreatDoor

/- ParseR: Contract of the document's own Parse. -/
namespace Go.Proofs.YtglgobmmmghdoaaGreatDoor
open Go.RowKit

end Go.Proofs.YtglgobmmmghdoaaGreatDoor

/- MathP: Plain mathematics: a valid plate is read back from its text, and a text that is accepted is the text of the result. -/
namespace Go.Proofs.YtglgobmmmghdoaaGreatDoor

theorem valN_append (x y : List UInt8) : valN (x ++ y) = valN x * ((10 ^ y.length : Nat) : Int) + valN y := by
  have h : ∀ (y : List UInt8) (z : Int), y.foldl (fun n c => n * 10 + ((c.toNat : Int) - 48)) z = z * ((10 ^ y.length : Nat) : Int) + y.foldl (fun n c => n * 10 + ((c.toNat : Int) - 48)) 0 := by
    intro y
    induction y with
    | nil => intro z; simp
    | cons c y ih =>
      intro z
      rw [List.foldl_cons, List.foldl_cons, ih (z * 10 + ((c.toNat : Int) - 48)), ih (0 * 10 + ((c.toNat : Int) - 48)), List.length_cons, Nat.pow_succ]
      simp only [Int.natCast_mul, Int.add_mul, Int.mul_assoc]
      rw [show ((10 ^ y.length : Nat) : Int) * ((10 : Nat) : Int) = 10 * ((10 ^ y.length : Nat) : Int) from Int.mul_comm _ _]
      omega
  unfold valN
  rw [List.foldl_append]
  exact h y _
theorem valN_list (l : List UInt8) (h : allDig l = true) : 0 ≤ valN l ∧ valN l < ((10 ^ l.length : Nat) : Int) := by
  have := valN_bd ⟨l.toArray⟩ (by simpa using h) l.length (by simp [ByteArray.size])
  simp only [List.take_length] at this
  omega
theorem ext_list (s : ByteArray) (a b : Nat) : (s.extract a b).data.toList = (s.data.toList.drop a).take (b - a) := by
  rw [ByteArray.data_extract, Array.toList_extract]
theorem size_list (s : ByteArray) : s.data.toList.length = s.size := by simp

/-- The number of a text of ten digits is made of the numbers of its parts. -/
theorem parts_val {s : ByteArray} (h : pForm s = true) : valN s.data.toList = num (pL0 s) (pA0 s) (pS0 s) ∧
    (0 ≤ pL0 s ∧ pL0 s ≤ 9) ∧ (0 ≤ pA0 s ∧ pA0 s ≤ 999) ∧ (0 ≤ pS0 s ∧ pS0 s ≤ 999999) := by
  have hz : s.size = 10 := by unfold pForm at h; simp at h; exact h.1
  have hd : allDig s.data.toList = true := by unfold pForm at h; simp at h; exact h.2
  have d1 := allDig_ext s 0 1 hd
  have d2 := allDig_ext s 1 4 hd
  have d3 := allDig_ext s 4 s.size hd
  have b1 := valN_list _ d1
  have b2 := valN_list _ d2
  have b3 := valN_list _ d3
  rw [size_list, size_ext] at b1 b2 b3
  have m1 : min 1 s.size - 0 = 1 := by omega
  have m2 : min 4 s.size - 1 = 3 := by omega
  have m3 : min s.size s.size - 4 = 6 := by omega
  rw [m1] at b1
  rw [m2] at b2
  rw [m3] at b3
  have e : s.data.toList = (s.extract 0 1).data.toList ++ ((s.extract 1 4).data.toList ++ (s.extract 4 s.size).data.toList) := by
    rw [ext_list, ext_list, ext_list, hz]
    have h1 : (s.data.toList.drop 4).take (10 - 4) = s.data.toList.drop 4 := List.take_of_length_le (by rw [List.length_drop, size_list, hz]; omega)
    have h2 : s.data.toList.drop 4 = (s.data.toList.drop 1).drop 3 := by rw [List.drop_drop]
    rw [h1, h2, show 4 - 1 = 3 from rfl, List.take_append_drop, List.drop_zero, show 1 - 0 = 1 from rfl, List.take_append_drop]
  have v : valN s.data.toList = valN (s.extract 0 1).data.toList * ((10 ^ 9 : Nat) : Int) + (valN (s.extract 1 4).data.toList * ((10 ^ 6 : Nat) : Int) + valN (s.extract 4 s.size).data.toList) := by
    conv => lhs; rw [e]
    rw [valN_append, valN_append]
    have l2 : ((s.extract 1 4).data.toList ++ (s.extract 4 s.size).data.toList).length = 9 := by rw [List.length_append, size_list, size_list, size_ext, size_ext, m2, m3]
    have l3 : (s.extract 4 s.size).data.toList.length = 6 := by rw [size_list, size_ext, m3]
    rw [l2, l3]
  unfold pL0 pA0 pS0 num
  rw [v]
  refine ⟨by omega, by omega, by omega, by omega⟩

theorem parse_txt {l a s : Int} (h : vld l a s = true) : pForm (txt l a s) = true ∧ pL0 (txt l a s) = l ∧ pA0 (txt l a s) = a ∧ pS0 (txt l a s) = s := by
  have hf : pForm (txt l a s) = true := pForm_yes (txt_size h) (txt_dig h)
  obtain ⟨h1, h2, h3, h4, h5, h6⟩ := vld_iff.1 h
  obtain ⟨v, ⟨b1, b2⟩, ⟨b3, b4⟩, b5, b6⟩ := parts_val hf
  rw [txt_val h] at v
  unfold num at v
  exact ⟨hf, by omega, by omega, by omega⟩
/-- Every valid plate is read back from its text. -/
theorem parse_back {l a s : Int} (h : vld l a s = true) : pL (txt l a s) = l ∧ pA (txt l a s) = a ∧ pS (txt l a s) = s ∧ pE (txt l a s) = 0 := by
  obtain ⟨hf, h1, h2, h3⟩ := parse_txt h
  have hv : vld (pL0 (txt l a s)) (pA0 (txt l a s)) (pS0 (txt l a s)) = true := by rw [h1, h2, h3]; exact h
  obtain ⟨k1, k2, k3, k4⟩ := p_yes hf hv
  exact ⟨by rw [k1, h1], by rw [k2, h2], by rw [k3, h3], k4⟩

theorem dgs_val (s : ByteArray) (h : allDig s.data.toList = true) (k : Nat) : k ≤ s.size → dgs (valN (s.data.toList.take k)) k = (s.data.toList.take k).map fun c => (c.toNat : Int) := by
  induction k with
  | zero => intro _; simp [dgs]
  | succ k ih =>
    intro hk
    have hd := allDig_at h (show k < s.size by omega)
    rw [valN_step s k (by omega), take_snoc s k (by omega), dgs, List.map_append]
    have e1 : (valN (s.data.toList.take k) * 10 + ((s[k].toNat : Int) - 48)) / 10 = valN (s.data.toList.take k) := by omega
    have e2 : (valN (s.data.toList.take k) * 10 + ((s[k].toNat : Int) - 48)) % 10 = (s[k].toNat : Int) - 48 := by omega
    rw [e1, e2, ih (by omega)]
    simp
    omega
/-- A text that is accepted is the text of the result. -/
theorem txt_back {s : ByteArray} (h : pE s = 0) : txt (pL s) (pA s) (pS s) = s := by
  have hf : pForm s = true := by
    cases e : pForm s with
    | true => rfl
    | false => have := (p_no e).2.2.2; omega
  have hv : vld (pL0 s) (pA0 s) (pS0 s) = true := by
    cases e : vld (pL0 s) (pA0 s) (pS0 s) with
    | true => rfl
    | false => have := (p_range hf e).2.2.2; omega
  obtain ⟨k1, k2, k3, _⟩ := p_yes hf hv
  have hz : s.size = 10 := by unfold pForm at hf; simp at hf; exact hf.1
  have hd : allDig s.data.toList = true := by unfold pForm at hf; simp at hf; exact hf.2
  rw [k1, k2, k3, txt_yes hv, ← (parts_val hf).1]
  have e := dgs_val s hd 10 (by omega)
  rw [List.take_of_length_le (by rw [size_list]; omega)] at e
  rw [e]
  apply ByteArray.ext
  apply Array.toList_inj.1
  rw [strOfNums_data, List.map_map]
  conv => rhs; rw [← List.map_id s.data.toList]
  apply List.map_congr_left
  intro x _
  simp
end Go.Proofs.YtglgobmmmghdoaaGreatDoor

/- Run: Contracts of Run (both): consecutive plates. -/
namespace Go.Proofs.YtglgobmmmghdoaaGreatDoor
open Go.RowKit

/-- The cell j of a run of plates: Lead, Airline, Serial in turn. -/
def runC (l a s : Int) (j : Nat) : Int := if j % 3 = 0 then l else if j % 3 = 1 then a else (s + ((j / 3 : Nat) : Int)) % 1000000
theorem runC0 (l a s : Int) (i : Nat) : runC l a s (i * 3) = l := by unfold runC; rw [if_pos (by omega)]
theorem runC1 (l a s : Int) (i : Nat) : runC l a s (i * 3 + 1) = a := by unfold runC; rw [if_neg (by omega), if_pos (by omega)]
theorem runC2 (l a s : Int) (i : Nat) : runC l a s (i * 3 + 2) = (s + (i : Int)) % 1000000 := by unfold runC; rw [if_neg (by omega), if_neg (by omega), show (i * 3 + 2) / 3 = i by omega]
/-- A row of which the first k plates are written. -/
def runF (l a s : Int) (k : Nat) : Nat → Value := fun j => .int .i64 (if j < k * 3 then runC l a s j else 0)

theorem made_zero (n : Nat) (w : World) (t : TypeId) : (w.alloc (.cells (madeCells #[.int .i64 0, .int .i64 0, .int .i64 0] n) t)).rowIs w.heap.size t n (fun _ => .int .i64 0) := by
  refine ⟨_, Deep.blk_alloc_new _ _, size_madeCells _ _, fun i hi => ?_⟩
  have h3 : i % 3 < 3 := Nat.mod_lt _ (by omega)
  simp only [madeCells, Array.getElem?_map, Array.getElem?_range, hi, ↓reduceIte, Option.map_some]
  congr 1
  have : i % 3 = 0 ∨ i % 3 = 1 ∨ i % 3 = 2 := by omega
  show #[Value.int .i64 0, .int .i64 0, .int .i64 0][i % 3]! = _
  rcases this with e | e | e <;> rw [e] <;> rfl

theorem run_step {w : World} {b N k : Nat} {t : TypeId} {l a s : Int} (h : w.rowIs b t (N * 3) (runF l a s k)) :
    (((w.setCell ⟨b, k * 3, none⟩ (.int .i64 l)).setCell ⟨b, k * 3 + 1, none⟩ (.int .i64 a)).setCell ⟨b, k * 3 + 2, none⟩ (.int .i64 ((s + (k : Int)) % 1000000))).rowIs b t (N * 3) (runF l a s (k + 1)) :=
  (((h.set _ _).set _ _).set _ _).congr fun j _ => by
    unfold runF
    by_cases e2 : j = k * 3 + 2
    · rw [if_pos e2, if_pos (by omega), e2, runC2]
    · rw [if_neg e2]
      by_cases e1 : j = k * 3 + 1
      · rw [if_pos e1, if_pos (by omega), e1, runC1]
      · rw [if_neg e1]
        by_cases e0 : j = k * 3
        · rw [if_pos e0, if_pos (by omega), e0, runC0]
        · rw [if_neg e0]
          by_cases h : j < k * 3
          · rw [if_pos h, if_pos (by omega)]
          · rw [if_neg h, if_neg (by omega)]

theorem info_plate : (Tryz.prog.info? 33).map (fun i => (i.zero, i.size, i.bytes)) = some (some (.agg #[.int .i64 0, .int .i64 0, .int .i64 0]), 3, 24) := by kernel_rfl
/-- A slice of n plates of the call's own, which are a run. -/
def RunOk (l a s : Int) (n : Nat) (w : World) (e : Ending) (w' : World) : Prop :=
  ∃ b c, e = .returned (.tuple #[.slice (some ⟨b, 0, none⟩) n c, .int .i64 0]) ∧ Below w.heap.size w w' ∧ w.heap.size ≤ b ∧ n ≤ c ∧ ∀ j, j < n * 3 → w'.cell? ⟨b, j, none⟩ = some (.int .i64 (runC l a s j))

end Go.Proofs.YtglgobmmmghdoaaGreatDoor

/- RunR: Contract of the document's own Run; Run's errors. -/
namespace Go.Proofs.YtglgobmmmghdoaaGreatDoor
open Go.RowKit

def runL (l a s : Int) (k : Nat) : List Value := (List.range (k * 3)).map fun j => .int .i64 (runC l a s j)
theorem runL_length (l a s : Int) (k : Nat) : (runL l a s k).length = k * 3 := by unfold runL; simp
theorem runL_at (l a s : Int) (k j : Nat) (h : j < k * 3) : (runL l a s k)[j]? = some (.int .i64 (runC l a s j)) := by unfold runL; simp [h]
theorem runL_succ (l a s : Int) (k : Nat) : runL l a s (k + 1) = runL l a s k ++ [.int .i64 l, .int .i64 a, .int .i64 ((s + (k : Int)) % 1000000)] := by
  have e : (k + 1) * 3 = k * 3 + 1 + 1 + 1 := by omega
  unfold runL
  rw [e, List.range_succ, List.range_succ, List.range_succ]
  simp only [List.map_append, List.map_cons, List.map_nil, List.append_assoc, List.cons_append, List.nil_append]
  rw [runC0, runC1, show k * 3 + 1 + 1 = k * 3 + 2 from rfl, runC2]

theorem three_new (w : World) (x y z : Value) (t : TypeId) : ∀ j u, [x, y, z][j]? = some u → (w.alloc (.cells #[x, y, z] t)).cell? ((⟨w.heap.size, 0, none⟩ : Addr).add j) = some u := by
  intro j u hj
  match j with
  | 0 => simp at hj; subst hj; simp [go_sem, Addr.add]
  | 1 => simp at hj; subst hj; simp [go_sem, Addr.add]
  | 2 => simp at hj; subst hj; simp [go_sem, Addr.add]
  | _ + 3 => simp at hj

theorem owns_run {w w0 : World} {B : Nat} {v : Value} {l a s : Int} {n : Nat} (h1 : 1 ≤ n) (hB : w0.heap.size ≤ B) (hown : w.ownsRow B 33 3 v n (runL l a s n)) (hb : Below w0.heap.size w0 w) :
    RunOk l a s n w0 (.returned (.tuple #[v, .int .i64 0])) w := by
  rcases hown with ⟨hl, ⟨rfl, h0⟩ | ⟨g, cap, cur, rfl, hg, hh, hn, hcap, hsz, htake⟩⟩
  · omega
  · refine ⟨g, cap, rfl, hb, by omega, hn, fun j hj => ?_⟩
    have := World.ownsRow.cellAt (w := w) (base := B) (e := 33) (size := 3) (g := g) (cap := cap) (n := n) (xs := runL l a s n) ⟨hl, .inr ⟨g, cap, cur, rfl, hg, hh, hn, hcap, hsz, htake⟩⟩ j hj
    rw [this, runL_at l a s n j hj]

end Go.Proofs.YtglgobmmmghdoaaGreatDoor
