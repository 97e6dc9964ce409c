/-
  Contract of awake of chapter 7: the first example of the chapter holds.
-/
import Derived.Test.YtfddpdognelhmaaGreatDoorLayPa
import Derived.Test.YtfddpdognelhmaaGreatDoorLayP
namespace Go.Proofs.YtfddpdognelhmaaGreatDoor
open Go.RowKit

/-- The first example, and its text. -/
def exLay : Lay := ⟨[⟨⟨#[65]⟩, 1, 2, 0, [1]⟩, ⟨⟨#[71]⟩, 6, 1, 0, [3, 2]⟩, ⟨⟨#[67]⟩, 8, 0, 1, []⟩, ⟨⟨#[77]⟩, 9, 0, 0, []⟩], [⟨2, 1, 0⟩]⟩
def exLs : ByteArray := ⟨([101, 110, 116, 114, 121, 32, 65, 32, 50, 32, 48, 32, 62, 32, 71, 10, 103, 97, 116, 101, 32, 71, 32, 49, 32, 48, 32, 62, 32, 77, 32, 67, 10].append [99, 104, 117, 116, 101, 32, 67, 32, 49, 10, 109, 97, 110, 117, 97, 108, 32, 77, 32, 48, 10, 115, 99, 97, 110, 110, 101, 114, 32, 71, 32, 48, 10]).toArray⟩
theorem exl_err : layE exLay = 0 := by decide +kernel
theorem exl_txt : fmtS exLay = exLs := by
  apply ByteArray.ext
  decide +kernel
theorem exl_parse : parX exLs = (exLay, 0, 0) := by kernel_rfl
theorem exl_list : exLs.toList = [101, 110, 116, 114, 121, 32, 65, 32, 50, 32, 48, 32, 62, 32, 71, 10, 103, 97, 116, 101, 32, 71, 32, 49, 32, 48, 32, 62, 32, 77, 32, 67, 10, 99, 104, 117, 116, 101, 32, 67, 32, 49, 10, 109, 97, 110, 117, 97, 108, 32, 77, 32, 48, 10, 115, 99, 97, 110, 110, 101, 114, 32, 71, 32, 48, 10] := by decide +kernel
theorem exl_ord : ordX exLay = [0, 1, 2, 3] := by decide +kernel
theorem exl_win : winsF exLay = 3 := by decide +kernel
theorem exl_find : findI exLay.nodes ⟨#[77]⟩ = 3 := by decide +kernel
set_option maxHeartbeats 2000000 in
set_option maxRecDepth 100000 in
theorem lawake_any (w : World) (hT : LTab w) : Calls Tryz.prog 5 #[] w fun e w' => e = .returned (.bool true) ∧ Below w.heap.size w w' := by
  have hbw : 0 < w.heap.size := Nat.lt_of_le_of_lt (Nat.zero_le _) hT.lt
  have HP := hide (lparse_any 0 exLs w hT hbw)
  rw [exl_parse] at HP
  have HT := hide hT
  clear hT
  go_enter Tryz.func5, Tryz.ntmps5
  go_wp2_with fail
  refine (unhide HP).mono ?_
  rintro e w1 ⟨A, c, B, d, rfl, hI1, hb1⟩
  have hI1 : LayIn 0 w1 exLay A B := hI1
  have bC := (Below.refl w1.heap.size w1).alloc (Nat.le_refl _) (lO exLay A c B d)
  have HI2 := hide (hI1.keep bC)
  have HB2 := hide (onward hb1 bC)
  have HBx2 := hide (heap_alloc_new w1 (lO exLay A c B d))
  have HF := hide (lformat_any 0 exLay A B c d _ ((unhide HT).keep (unhide HB2)) (Nat.lt_of_lt_of_le hbw (unhide HB2).size) (unhide HI2))
  rw [exl_err, exl_txt] at HF
  have l0 : (w1.alloc (lO exLay A c B d)).cell? ⟨w1.heap.size, 0, none⟩ = some (.slice A 4 c) := by rw [Lib.cell_of_heap (unhide HBx2)]; rfl
  have l1 : (w1.alloc (lO exLay A c B d)).cell? ⟨w1.heap.size, 1, none⟩ = some (.slice B 1 d) := by rw [Lib.cell_of_heap (unhide HBx2)]; rfl
  clear hb1 hI1 bC HP
  go_wp2_with fail
  refine (unhide HF).mono ?_
  rintro e w3 ⟨rfl, hb3⟩
  have HI3 := hide ((unhide HI2).keep hb3)
  have HB3 := hide (onward (unhide HB2) hb3)
  have HBx3 := hide (heap_below (unhide HBx2) hb3)
  have HO := hide (lord_any 0 exLay A B c d _ (unhide HI3))
  rw [exl_ord] at HO
  have k0 : w3.cell? ⟨w1.heap.size, 0, none⟩ = some (.slice A 4 c) := by rw [Lib.cell_of_heap (unhide HBx3)]; rfl
  have k1 : w3.cell? ⟨w1.heap.size, 1, none⟩ = some (.slice B 1 d) := by rw [Lib.cell_of_heap (unhide HBx3)]; rfl
  clear hb3 l0 l1
  have hxl := exl_list
  go_wp2_with fail
  refine (unhide HO).mono ?_
  rintro e w4 ⟨v, rfl, hown4, hb4⟩
  obtain ⟨ao, cp, rfl⟩ := own_form hown4
  have hw3 : 0 < w3.heap.size := Nat.lt_of_lt_of_le hbw (unhide HB3).size
  have hir4 : IntRow 0 w4 ao [0, 1, 2, 3] := IntRow.own (cap := cp) hown4 hw3
  have bD := (Below.refl w4.heap.size w4).alloc (Nat.le_refl _) (.cells #[.int .i64 0, .int .i64 1, .int .i64 2, .int .i64 3] 3)
  have HN4 := hide ((hir4.step (KeepTy.below bD)).nums)
  have HI5 := hide (((unhide HI3).keep hb4).keep bD)
  have HB5 := hide (onward (onward (unhide HB3) hb4) bD)
  have HBx5 := hide (heap_below (heap_below (unhide HBx3) hb4) bD)
  have hw4 : 0 < w4.heap.size := Nat.lt_of_lt_of_le hw3 hb4.size
  have HN5 := hide (show NumsIn 0 (w4.alloc (.cells #[.int .i64 0, .int .i64 1, .int .i64 2, .int .i64 3] 3)) (some ⟨w4.heap.size, 0, none⟩) [0, 1, 2, 3] from fun _ => ⟨w4.heap.size, 0, rfl, by omega, fun i hi => by
    rw [Nat.zero_add, Lib.cell_of_heap (heap_alloc_new w4 _)]
    have : i = 0 ∨ i = 1 ∨ i = 2 ∨ i = 3 := by have : i < 4 := hi
                                               omega
    rcases this with rfl | rfl | rfl | rfl <;> rfl⟩)
  have HK := hide (kints_any 0 [0, 1, 2, 3] [0, 1, 2, 3] ao (some ⟨w4.heap.size, 0, none⟩) cp 4 _ (by decide) (unhide HN4) (unhide HN5))
  rw [decide_eq_true rfl] at HK
  clear hown4 hb4 hir4 bD k0 k1
  go_wp2_with fail
  refine (unhide HK).mono ?_
  rintro e w5 ⟨rfl, hb5⟩
  have HI6 := hide ((unhide HI5).keep hb5)
  have HB6 := hide (onward (unhide HB5) hb5)
  have HBx6 := hide (heap_below (unhide HBx5) hb5)
  have HW6 := hide (lwins_any 0 exLay A B c d _ (unhide HI6))
  rw [exl_win] at HW6
  have k0 : w5.cell? ⟨w1.heap.size, 0, none⟩ = some (.slice A 4 c) := by rw [Lib.cell_of_heap (unhide HBx6)]; rfl
  have k1 : w5.cell? ⟨w1.heap.size, 1, none⟩ = some (.slice B 1 d) := by rw [Lib.cell_of_heap (unhide HBx6)]; rfl
  clear hb5
  go_wp2_with fail
  refine (unhide HW6).mono ?_
  rintro e w6 ⟨rfl, hb6⟩
  have HI7 := hide ((unhide HI6).keep hb6)
  have HB7 := hide (onward (unhide HB6) hb6)
  have HBx7 := hide (heap_below (unhide HBx6) hb6)
  have HF7 := hide (lFind_any 0 exLay ⟨#[77]⟩ A B c d _ (unhide HI7))
  rw [exl_find] at HF7
  clear k0 k1
  have k0 : w6.cell? ⟨w1.heap.size, 0, none⟩ = some (.slice A 4 c) := by rw [Lib.cell_of_heap (unhide HBx7)]; rfl
  have k1 : w6.cell? ⟨w1.heap.size, 1, none⟩ = some (.slice B 1 d) := by rw [Lib.cell_of_heap (unhide HBx7)]; rfl
  clear hb6
  go_wp2_with fail
  refine (unhide HF7).mono ?_
  rintro e w7 ⟨rfl, hb7⟩
  have HB8 := hide (onward (unhide HB7) hb7)
  clear hb7 k0 k1
  go_wp2
  go_ret
  exact ⟨rfl, unhide HB8⟩
end Go.Proofs.YtfddpdognelhmaaGreatDoor
