/-
  Contracts of read at the key S and at any key.
-/
import Derived.Test.YtglgobmmmghdoaaGreatDoorMsgX
import Derived.Deep.RegionLaw
import Derived.Deep.AppendLies

/- MsgY: Contract of read at the key S. -/
namespace Go.Proofs.YtglgobmmmghdoaaGreatDoor
open Go.RowKit

set_option maxHeartbeats 4000000 in
set_option maxRecDepth 100000 in
theorem rd_83 (w0 : World) (row : Option Nat) (b base M : Nat) (m : Msg) (A L P : Option Addr) (c d pc : Nat) (ps : List ByteArray) (w : World) (hR : Rdg w0 row b base M m A c L d w) (β : Nat) (hP : StrsIn β w P ps) (hW : Words w) :
    Calls Tryz.prog 24 #[.pointer (some ⟨M, 0, none⟩), .agg #[.string ⟨#[83]⟩, .slice P ps.length pc]] w fun e w' => e = .returned (.tuple #[]) ∧ Rdg w0 row b base M (readE m (one 83, ps)) A c L d w' := by
  have b1 := (Below.refl w.heap.size w).alloc (Nat.le_refl _) (.cells #[.string ⟨#[83]⟩, .slice P ps.length pc] 55)
  have b2 := below_new b1 (.cells #[.string ⟨#[]⟩, .string ⟨#[]⟩, .string ⟨#[]⟩, .string ⟨#[]⟩] 95)
  have hE2 := (heap_alloc_old (w.alloc (.cells #[.string ⟨#[83]⟩, .slice P ps.length pc] 55)) (.cells #[.string ⟨#[]⟩, .string ⟨#[]⟩, .string ⟨#[]⟩, .string ⟨#[]⟩] 95) (by rw [World.size_alloc]; exact Nat.lt_succ_self _)).trans (heap_alloc_new w _)
  have hQ2 := heap_alloc_new (w.alloc (.cells #[.string ⟨#[83]⟩, .slice P ps.length pc] 55)) (.cells #[.string ⟨#[]⟩, .string ⟨#[]⟩, .string ⟨#[]⟩, .string ⟨#[]⟩] 95)
  rw [World.size_alloc] at hQ2
  have e1 : ((w.alloc (.cells #[.string ⟨#[83]⟩, .slice P ps.length pc] 55)).alloc (.cells #[.string ⟨#[]⟩, .string ⟨#[]⟩, .string ⟨#[]⟩, .string ⟨#[]⟩] 95)).cell? ⟨w.heap.size, 1, none⟩ = some (.slice P ps.length pc) := by rw [Lib.cell_of_heap hE2]; rfl
  have HPos := hide (strs_pos (hP.keep b2))
  have HOne := hide (strs_one ps)
  have HLen := hide (show ((ps.take 4).map Value.string).length = Nat.min ps.length 4 by rw [List.length_map, List.length_take]; exact Nat.min_comm _ _)
  have HFit := hide (show 0 + ((ps.take 4).map Value.string).length ≤ 4 by rw [List.length_map, List.length_take]; omega)
  have HQ2 := hide hQ2
  have HB2 := hide b2
  have HE2 := hide hE2
  have HR := hide hR
  have HSp := hide (splice4 ⟨#[83]⟩ ps)
  generalize (ps.take 4).map Value.string = cs at *
  clear b1 b2 hE2 hQ2 hP hR
  go_enter Tryz.func24, Tryz.ntmps24
  go_wp2_with fail
  go_region_law (refine step_copy_splice rfl (.tmp 7) (.tmp 9) 53 53 rfl 9 Tryz.underlying53 info_str1 (some ⟨w.heap.size + 1, 0, none⟩) P 4 4 ps.length pc (by rfl) (by rfl) (w.heap.size + 1) 0 [.string ⟨#[]⟩, .string ⟨#[]⟩, .string ⟨#[]⟩, .string ⟨#[]⟩] 95 (unhide HQ2) cs (unhide HLen) (fun hp => ⟨rfl, unhide HPos hp⟩) (unhide HFit) (unhide HOne) (w.heap.size + 1) _ (Below.refl _ _) (Nat.le_refl _) ?_; intro w3 HQ3 hb3)
  have hbb := ((Below.refl (w.heap.size + 1) ((w.alloc (.cells #[.string ⟨#[83]⟩, .slice P ps.length pc] 55)).alloc (.cells #[.string ⟨#[]⟩, .string ⟨#[]⟩, .string ⟨#[]⟩, .string ⟨#[]⟩] 95))).drew).trans hb3
  have hq3 : w3.heap[w.heap.size + 1]? = some (.cells #[.string (pt (⟨#[83]⟩, ps) 0), .string (pt (⟨#[83]⟩, ps) 1), .string (pt (⟨#[83]⟩, ps) 2), .string (pt (⟨#[83]⟩, ps) 3)] 95 (0, 0)) := by
    have := HQ3.out
    rw [unhide HSp] at this
    exact this
  have hb3' : Below w.heap.size w w3 := (unhide HB2).trans (hbb.mono (Nat.le_succ _))
  have hE3 : w3.heap[w.heap.size]? = some (.cells #[.string ⟨#[83]⟩, .slice P ps.length pc] 55 (0, 0)) := by
    rw [hbb.block _ (Nat.lt_succ_self _)]
    exact unhide HE2
  have e0 : w3.cell? ⟨w.heap.size, 0, none⟩ = some (.string ⟨#[83]⟩) := by rw [Lib.cell_of_heap hE3]; rfl
  have q0 : w3.cell? ⟨w.heap.size + 1, 0, none⟩ = some (.string (pt (⟨#[83]⟩, ps) 0)) := by rw [Lib.cell_of_heap hq3]; rfl
  have q1 : w3.cell? ⟨w.heap.size + 1, 1, none⟩ = some (.string (pt (⟨#[83]⟩, ps) 1)) := by rw [Lib.cell_of_heap hq3]; rfl
  have q2 : w3.cell? ⟨w.heap.size + 1, 2, none⟩ = some (.string (pt (⟨#[83]⟩, ps) 2)) := by rw [Lib.cell_of_heap hq3]; rfl
  have HR3 := hide ((unhide HR).below hb3')
  have HQ4 := hide hq3
  have HB3 := hide hb3'
  have HE3 := hide hE3
  clear HQ3 hb3 hbb hq3 hb3' hE3 e1 HB2 HQ2 HE2 HPos HOne HLen HFit HSp
  have HWd := hide (hW.keep (unhide HB3))
  clear hW
  have m21 := (unhide HR3).cell 21
  have f21 := (unhide HR3).frz 21
  have m22 := (unhide HR3).cell 22
  have f22 := (unhide HR3).frz 22
  have m23 := (unhide HR3).cell 23
  have f23 := (unhide HR3).frz 23
  have HWd2 := hide (show Words w3.drew from unhide HWd)
  have hY := hide (show ((pt (⟨#[83]⟩, ps) 0).toList == [89]) = decide (pt (one 83, ps) 0 = ⟨#[89]⟩) by
    have h1 := toList_eq (a := pt (⟨#[83]⟩, ps) 0) (b := ⟨#[89]⟩)
    have h2 : ((⟨#[89]⟩ : ByteArray).toList) = [89] := by decide +kernel
    rw [h2] at h1
    exact h1)
  have HWd2 := hide (show Words w3.drew from unhide HWd)
  go_wp2_with fail
  go_region_law (first
    | (go_simp; go_at_call 23; refine (find_2 (pt (⟨#[83]⟩, ps) 1) w3.drew (unhide HWd2)).mono ?_; rintro e wt ⟨rfl, rfl⟩)
    | (go_simp; go_at_call 51; refine (mnumber_any _ _).mono ?_; rintro e wt ⟨rfl, rfl⟩))
  all_goals
    go_wp2
    go_end0
    rw [rdE_83, ← unhide hY]
    exact ⟨rfl, ((((unhide HR3).set (m' := { m with load := ((pt (⟨#[83]⟩, ps) 0).toList == [89]) }) 21 _ rfl rfl rfl).set (m' := { m with load := ((pt (⟨#[83]⟩, ps) 0).toList == [89]), sta := findW wSta (-1) (pt (⟨#[83]⟩, ps) 1) }) 22 _ rfl rfl rfl).set (m' := { m with load := ((pt (⟨#[83]⟩, ps) 0).toList == [89]), sta := findW wSta (-1) (pt (⟨#[83]⟩, ps) 1), sq := numV (pt (⟨#[83]⟩, ps) 2) }) 23 _ rfl rfl rfl).drew⟩

end Go.Proofs.YtglgobmmmghdoaaGreatDoor

/- MsgZ: Contracts of read at the keys O and B, and at no key. -/
namespace Go.Proofs.YtglgobmmmghdoaaGreatDoor
open Go.RowKit

set_option maxHeartbeats 4000000 in
set_option maxRecDepth 100000 in
theorem rd_79 (w0 : World) (row : Option Nat) (b base M : Nat) (m : Msg) (A L P : Option Addr) (c d pc : Nat) (ps : List ByteArray) (w : World) (hR : Rdg w0 row b base M m A c L d w) (β : Nat) (hP : StrsIn β w P ps) (hz : ∀ k, (pt (one 0, ps) k).size ≤ 1000000000000) (hn : m.onw.length ≤ 1000000000) :
    Calls Tryz.prog 24 #[.pointer (some ⟨M, 0, none⟩), .agg #[.string ⟨#[79]⟩, .slice P ps.length pc]] w fun e w' => e = .returned (.tuple #[]) ∧ ∃ A' c', Rdg w0 row b base M (readE m (one 79, ps)) A' c' L d w' := by
  have b1 := (Below.refl w.heap.size w).alloc (Nat.le_refl _) (.cells #[.string ⟨#[79]⟩, .slice P ps.length pc] 55)
  have b2 := below_new b1 (.cells #[.string ⟨#[]⟩, .string ⟨#[]⟩, .string ⟨#[]⟩, .string ⟨#[]⟩] 95)
  have hE2 := (heap_alloc_old (w.alloc (.cells #[.string ⟨#[79]⟩, .slice P ps.length pc] 55)) (.cells #[.string ⟨#[]⟩, .string ⟨#[]⟩, .string ⟨#[]⟩, .string ⟨#[]⟩] 95) (by rw [World.size_alloc]; exact Nat.lt_succ_self _)).trans (heap_alloc_new w _)
  have hQ2 := heap_alloc_new (w.alloc (.cells #[.string ⟨#[79]⟩, .slice P ps.length pc] 55)) (.cells #[.string ⟨#[]⟩, .string ⟨#[]⟩, .string ⟨#[]⟩, .string ⟨#[]⟩] 95)
  rw [World.size_alloc] at hQ2
  have e1 : ((w.alloc (.cells #[.string ⟨#[79]⟩, .slice P ps.length pc] 55)).alloc (.cells #[.string ⟨#[]⟩, .string ⟨#[]⟩, .string ⟨#[]⟩, .string ⟨#[]⟩] 95)).cell? ⟨w.heap.size, 1, none⟩ = some (.slice P ps.length pc) := by rw [Lib.cell_of_heap hE2]; rfl
  have HPos := hide (strs_pos (hP.keep b2))
  have HOne := hide (strs_one ps)
  have HLen := hide (show ((ps.take 4).map Value.string).length = Nat.min ps.length 4 by rw [List.length_map, List.length_take]; exact Nat.min_comm _ _)
  have HFit := hide (show 0 + ((ps.take 4).map Value.string).length ≤ 4 by rw [List.length_map, List.length_take]; omega)
  have HQ2 := hide hQ2
  have HB2 := hide b2
  have HE2 := hide hE2
  have HR := hide hR
  have HSp := hide (splice4 ⟨#[79]⟩ ps)
  generalize (ps.take 4).map Value.string = cs at *
  clear b1 b2 hE2 hQ2 hP hR
  go_enter Tryz.func24, Tryz.ntmps24
  go_wp2_with fail
  go_region_law (refine step_copy_splice rfl (.tmp 7) (.tmp 9) 53 53 rfl 9 Tryz.underlying53 info_str1 (some ⟨w.heap.size + 1, 0, none⟩) P 4 4 ps.length pc (by rfl) (by rfl) (w.heap.size + 1) 0 [.string ⟨#[]⟩, .string ⟨#[]⟩, .string ⟨#[]⟩, .string ⟨#[]⟩] 95 (unhide HQ2) cs (unhide HLen) (fun hp => ⟨rfl, unhide HPos hp⟩) (unhide HFit) (unhide HOne) (w.heap.size + 1) _ (Below.refl _ _) (Nat.le_refl _) ?_; intro w3 HQ3 hb3)
  have hbb := ((Below.refl (w.heap.size + 1) ((w.alloc (.cells #[.string ⟨#[79]⟩, .slice P ps.length pc] 55)).alloc (.cells #[.string ⟨#[]⟩, .string ⟨#[]⟩, .string ⟨#[]⟩, .string ⟨#[]⟩] 95))).drew).trans hb3
  have hq3 : w3.heap[w.heap.size + 1]? = some (.cells #[.string (pt (⟨#[79]⟩, ps) 0), .string (pt (⟨#[79]⟩, ps) 1), .string (pt (⟨#[79]⟩, ps) 2), .string (pt (⟨#[79]⟩, ps) 3)] 95 (0, 0)) := by
    have := HQ3.out
    rw [unhide HSp] at this
    exact this
  have hb3' : Below w.heap.size w w3 := (unhide HB2).trans (hbb.mono (Nat.le_succ _))
  have hE3 : w3.heap[w.heap.size]? = some (.cells #[.string ⟨#[79]⟩, .slice P ps.length pc] 55 (0, 0)) := by
    rw [hbb.block _ (Nat.lt_succ_self _)]
    exact unhide HE2
  have e0 : w3.cell? ⟨w.heap.size, 0, none⟩ = some (.string ⟨#[79]⟩) := by rw [Lib.cell_of_heap hE3]; rfl
  have q0 : w3.cell? ⟨w.heap.size + 1, 0, none⟩ = some (.string (pt (⟨#[79]⟩, ps) 0)) := by rw [Lib.cell_of_heap hq3]; rfl
  have q1 : w3.cell? ⟨w.heap.size + 1, 1, none⟩ = some (.string (pt (⟨#[79]⟩, ps) 1)) := by rw [Lib.cell_of_heap hq3]; rfl
  have q2 : w3.cell? ⟨w.heap.size + 1, 2, none⟩ = some (.string (pt (⟨#[79]⟩, ps) 2)) := by rw [Lib.cell_of_heap hq3]; rfl
  have q3 : w3.cell? ⟨w.heap.size + 1, 3, none⟩ = some (.string (pt (⟨#[79]⟩, ps) 3)) := by rw [Lib.cell_of_heap hq3]; rfl
  have HR3 := hide ((unhide HR).below hb3')
  have HQ4 := hide hq3
  have HB3 := hide hb3'
  have HE3 := hide hE3
  clear HQ3 hb3 hbb hq3 hb3' hE3 e1 HB2 HQ2 HE2 HPos HOne HLen HFit HSp
  have z0 := hz 0
  have z1 := hz 1
  have HC := hide (fun w : World => rdleg_any (pt (⟨#[79]⟩, ps) 0) (pt (⟨#[79]⟩, ps) 1) (pt (⟨#[79]⟩, ps) 2) (pt (⟨#[79]⟩, ps) 3) w z0 z1)
  have HG := hide (show readE m (one 79, ps) = { m with onw := m.onw ++ [readLg (pt (⟨#[79]⟩, ps) 0) (pt (⟨#[79]⟩, ps) 1) (pt (⟨#[79]⟩, ps) 2) (pt (⟨#[79]⟩, ps) 3)] } from rdE_79 m ps)
  clear z0 z1 hz
  generalize readLg (pt (⟨#[79]⟩, ps) 0) (pt (⟨#[79]⟩, ps) 1) (pt (⟨#[79]⟩, ps) 2) (pt (⟨#[79]⟩, ps) 3) = X at HC HG
  obtain ⟨i3, ki, kz0, kz1, kz2⟩ := info_parts info_lg
  have KI0 := hide ki
  have KZ0 := hide kz0
  have KZ1 := hide kz1
  have KZ2 := hide kz2
  have HRd := hide (unhide HR3).drew
  have m16 := (unhide HR3).cell 16
  clear ki kz0 kz1 kz2
  go_wp2_with fail
  go_region_law (first
    | (refine step_append_lies _ rfl _ _ 31 rfl base 30 i3 (.agg #[.string ByteArray.empty, .int .i64 0, .string ByteArray.empty, .int .i64 0, .string ByteArray.empty, .string ByteArray.empty]) 6 80 Tryz.underlying31 (unhide KI0) (unhide KZ0) (unhide KZ1) (unhide KZ2) rfl (by decide) _ _ _ rfl (unhide HO5) ⟨w4.heap.size, 0, none⟩ 1 1 [.string X.c, .int .i64 X.n, .string X.s, .int .i64 X.d, .string X.p, .string X.k] rfl rfl (World.news_of_block (heap_alloc_new w4 _)) (unhide HOneX) (by omega) (by unfold maxLen; omega) (by omega) hsz5 _ rfl ?_
       intro g cap w7 hown7 hgrow hat hlt7
       have hM7 := (hgrow.block M (Nat.lt_of_lt_of_le (unhide HR5).hM (unhide HR5).sz) (own_ne (unhide HR5).legs (unhide HR5).mb (by decide))).trans (unhide HR5).mb
       have m16d : w7.cell? ⟨M, 16, none⟩ = some (.slice A m.onw.length c) := by rw [Lib.cell_of_heap hM7]; rfl
       have f16d := Lib.frozen_of_heap hM7 16
       have HR8 := hide ((unhide HR5).pushLeg (x := X) hown7 hgrow)
       clear hM7 hown7 hgrow hat hlt7)
    | (go_simp; go_at_call 52
       refine (unhide HC _).mono ?_
       rintro e w4 ⟨rfl, hb4⟩
       have HR4 := hide ((unhide HRd).below hb4)
       have m16b := (unhide HR4).cell 16
       have b5 := (Below.refl w4.heap.size w4).alloc (Nat.le_refl _) (.cells #[.string X.c, .int .i64 X.n, .string X.s, .int .i64 X.d, .string X.p, .string X.k] 30)
       have HR5 := hide ((unhide HR4).below b5)
       have m16c := (unhide HR5).cell 16
       have HO5 := hide (unhide HR5).legs
       have hsz5 := (unhide HR5).sz
       have HOneX := hide (show ∀ u ∈ [Value.string X.c, .int .i64 X.n, .string X.s, .int .i64 X.d, .string X.p, .string X.k], u.oneCell' = true by intro u hu; simp at hu; rcases hu with rfl | rfl | rfl | rfl | rfl | rfl <;> rfl)
       clear hb4 b5))
  all_goals
    go_wp2
    go_end0
    rw [unhide HG]
    exact ⟨rfl, _, _, unhide HR8⟩

set_option maxHeartbeats 4000000 in
set_option maxRecDepth 100000 in
theorem rd_66 (w0 : World) (row : Option Nat) (b base M : Nat) (m : Msg) (A L P : Option Addr) (c d pc : Nat) (ps : List ByteArray) (w : World) (hR : Rdg w0 row b base M m A c L d w) (β : Nat) (hP : StrsIn β w P ps) (hw : row = none) (hP0 : StrsIn β w0 P ps) (hn : m.lst.length + ps.length ≤ 1000000000) :
    Calls Tryz.prog 24 #[.pointer (some ⟨M, 0, none⟩), .agg #[.string ⟨#[66]⟩, .slice P ps.length pc]] w fun e w' => e = .returned (.tuple #[]) ∧ ∃ L' d', Rdg w0 row b base M (readE m (one 66, ps)) A c L' d' w' := by
  have b1 := (Below.refl w.heap.size w).alloc (Nat.le_refl _) (.cells #[.string ⟨#[66]⟩, .slice P ps.length pc] 55)
  have b2 := below_new b1 (.cells #[.string ⟨#[]⟩, .string ⟨#[]⟩, .string ⟨#[]⟩, .string ⟨#[]⟩] 95)
  have hE2 := (heap_alloc_old (w.alloc (.cells #[.string ⟨#[66]⟩, .slice P ps.length pc] 55)) (.cells #[.string ⟨#[]⟩, .string ⟨#[]⟩, .string ⟨#[]⟩, .string ⟨#[]⟩] 95) (by rw [World.size_alloc]; exact Nat.lt_succ_self _)).trans (heap_alloc_new w _)
  have hQ2 := heap_alloc_new (w.alloc (.cells #[.string ⟨#[66]⟩, .slice P ps.length pc] 55)) (.cells #[.string ⟨#[]⟩, .string ⟨#[]⟩, .string ⟨#[]⟩, .string ⟨#[]⟩] 95)
  rw [World.size_alloc] at hQ2
  have e1 : ((w.alloc (.cells #[.string ⟨#[66]⟩, .slice P ps.length pc] 55)).alloc (.cells #[.string ⟨#[]⟩, .string ⟨#[]⟩, .string ⟨#[]⟩, .string ⟨#[]⟩] 95)).cell? ⟨w.heap.size, 1, none⟩ = some (.slice P ps.length pc) := by rw [Lib.cell_of_heap hE2]; rfl
  have HPos := hide (strs_pos (hP.keep b2))
  have HOne := hide (strs_one ps)
  have HLen := hide (show ((ps.take 4).map Value.string).length = Nat.min ps.length 4 by rw [List.length_map, List.length_take]; exact Nat.min_comm _ _)
  have HFit := hide (show 0 + ((ps.take 4).map Value.string).length ≤ 4 by rw [List.length_map, List.length_take]; omega)
  have HQ2 := hide hQ2
  have HB2 := hide b2
  have HE2 := hide hE2
  have HR := hide hR
  have HSp := hide (splice4 ⟨#[66]⟩ ps)
  generalize (ps.take 4).map Value.string = cs at *
  clear b1 b2 hE2 hQ2 hP hR
  go_enter Tryz.func24, Tryz.ntmps24
  go_wp2_with fail
  go_region_law (refine step_copy_splice rfl (.tmp 7) (.tmp 9) 53 53 rfl 9 Tryz.underlying53 info_str1 (some ⟨w.heap.size + 1, 0, none⟩) P 4 4 ps.length pc (by rfl) (by rfl) (w.heap.size + 1) 0 [.string ⟨#[]⟩, .string ⟨#[]⟩, .string ⟨#[]⟩, .string ⟨#[]⟩] 95 (unhide HQ2) cs (unhide HLen) (fun hp => ⟨rfl, unhide HPos hp⟩) (unhide HFit) (unhide HOne) (w.heap.size + 1) _ (Below.refl _ _) (Nat.le_refl _) ?_; intro w3 HQ3 hb3)
  have hbb := ((Below.refl (w.heap.size + 1) ((w.alloc (.cells #[.string ⟨#[66]⟩, .slice P ps.length pc] 55)).alloc (.cells #[.string ⟨#[]⟩, .string ⟨#[]⟩, .string ⟨#[]⟩, .string ⟨#[]⟩] 95))).drew).trans hb3
  have hq3 : w3.heap[w.heap.size + 1]? = some (.cells #[.string (pt (⟨#[66]⟩, ps) 0), .string (pt (⟨#[66]⟩, ps) 1), .string (pt (⟨#[66]⟩, ps) 2), .string (pt (⟨#[66]⟩, ps) 3)] 95 (0, 0)) := by
    have := HQ3.out
    rw [unhide HSp] at this
    exact this
  have hb3' : Below w.heap.size w w3 := (unhide HB2).trans (hbb.mono (Nat.le_succ _))
  have hE3 : w3.heap[w.heap.size]? = some (.cells #[.string ⟨#[66]⟩, .slice P ps.length pc] 55 (0, 0)) := by
    rw [hbb.block _ (Nat.lt_succ_self _)]
    exact unhide HE2
  have e0 : w3.cell? ⟨w.heap.size, 0, none⟩ = some (.string ⟨#[66]⟩) := by rw [Lib.cell_of_heap hE3]; rfl

  have HR3 := hide ((unhide HR).below hb3')
  have HQ4 := hide hq3
  have HB3 := hide hb3'
  have HE3 := hide hE3
  clear HQ3 hb3 hbb hq3 hb3' hE3 e1 HB2 HQ2 HE2 HPos HOne HLen HFit HSp
  have HG := hide (rdE_66 m ps)
  obtain ⟨i3, ki, kz0, kz1, kz2⟩ := info_parts info_intE
  have KI0 := hide ki
  have KZ0 := hide kz0
  have KZ1 := hide kz1
  have KZ2 := hide kz2
  have HP0 := hide hP0
  subst hw
  have x1 : w3.cell? ⟨w.heap.size, 1, none⟩ = some (.slice P ps.length pc) := by rw [Lib.cell_of_heap (unhide HE3)]; rfl
  clear ki kz0 kz1 kz2 hP0
  go_wp2
  go_loopw [131] (fun i wr => ∃ (k : Nat) (ls : List Int) (L' : Option Addr) (d' : Nat), k ≤ ps.length ∧ i = .int .i64 k ∧ Hid (ls = m.lst ++ (ps.take k).map numV) ∧ ls.length ≤ m.lst.length + k ∧ Rdg w0 none b base M { m with lst := ls } A c L' d' wr) (fun i _ => ps.length - (intOf i).toNat)
  case atStart => exact ⟨0, m.lst, L, d, Nat.zero_le _, rfl, Lib.hid (by simp), Nat.le_refl _, unhide HR3⟩
  case round =>
    obtain ⟨k, ls, L', d', hk, rfl, hls, hll, hRr⟩ := hrel
    obtain ⟨wo, rfl⟩ : ∃ wo : World, wo = wr := ⟨_, rfl⟩
    have HRo := hide hRr
    clear hRr
    by_cases hlt : k < ps.length
    · have kl : (k : Int) < (ps.length : Int) := by omega
      obtain ⟨g0, off, rfl, _, hc⟩ := ((unhide HP0).keep (gr_none (unhide HRo).gr)) (by omega)
      have q := hc k hlt
      have HS := hide (show ls ++ [numV (ps.getD k ByteArray.empty)] = m.lst ++ (ps.take (k + 1)).map numV by rw [unhide hls, List.take_succ_eq_append_getElem hlt, List.map_append, at_k hlt, List.append_assoc]; rfl)
      clear hc
      generalize ps.getD k ByteArray.empty = p at *
      have m29 : wo.cell? ⟨M, 29, none⟩ = some (.slice L' ls.length d') := (unhide HRo).cell 29
      have b5 := ((Below.refl wo.heap.size wo).alloc (Nat.le_refl _) (.cells #[.int .i64 (numV p)] 3)).drew
      have HR5 := hide ((unhide HRo).below b5)
      have m29c : (wo.alloc (.cells #[.int .i64 (numV p)] 3)).cell? ⟨M, 29, none⟩ = some (.slice L' ls.length d') := (unhide HR5).cell 29
      have HO5 := hide (show (wo.alloc (.cells #[.int .i64 (numV p)] 3)).drew.ownsRow base 3 1 (.slice L' ls.length d') ls.length (ls.map (Value.int .i64)) from (unhide HR5).nums)
      have hsz5 := (unhide HR5).sz
      clear b5
      go_wp2_with fail
      go_region_law (first
        | (refine step_append_lies _ rfl _ _ 22 rfl base 3 i3 (.int .i64 0) 1 8 Tryz.underlying22 (unhide KI0) (unhide KZ0) (unhide KZ1) (unhide KZ2) rfl (by decide) _ _ _ rfl (unhide HO5) ⟨wo.heap.size, 0, none⟩ 1 1 [.int .i64 (numV p)] rfl rfl (World.news_of_block (w := (wo.alloc (.cells #[.int .i64 (numV p)] 3)).drew) (heap_alloc_new wo (.cells #[.int .i64 (numV p)] 3))) (by intro u hu; rw [List.mem_singleton.1 hu]; rfl) (by omega) (by unfold maxLen; omega) (by omega) hsz5 _ rfl ?_
           intro g cap w7 hown7 hgrow hat hlt7
           have hM7 := (hgrow.block M (Nat.lt_of_lt_of_le (unhide HR5).hM (unhide HR5).sz) (own_ne (unhide HR5).nums (unhide HR5).mb (by decide))).trans (unhide HR5).mb
           have m29d : w7.cell? ⟨M, 29, none⟩ = some (.slice L' ls.length d') := by rw [Lib.cell_of_heap hM7]; rfl
           have f29d := Lib.frozen_of_heap hM7 29
           have HR8 := hide ((unhide HR5).pushNum (x := numV p) hown7 hgrow)
           clear hM7 hown7 hgrow hat hlt7)
        | (go_simp; go_at_call 51; refine (mnumber_any _ _).mono ?_; rintro e wt ⟨rfl, rfl⟩))
      all_goals
        go_wp2
        go_roundw
        case rel => exact ⟨k + 1, ls ++ [numV p], _, _, by omega, by go_num, unhide HS, by rw [List.length_append, List.length_singleton]; omega, unhide HR8⟩
        case measure => simp [intOf]; omega
    · have kl : ¬ (k : Int) < (ps.length : Int) := by omega
      have HE := hide (show ls = m.lst ++ ps.map numV by rw [unhide hls, List.take_of_length_le (by omega)])
      go_wp2
      go_end0
      rw [unhide HG, ← unhide HE]
      exact ⟨rfl, _, _, unhide HRo⟩

theorem key_no {K : ByteArray} {x : Int} {c : UInt8} (h : K ≠ one x) (hc : one x = ⟨#[c]⟩ := by decide +kernel) : (K.toList == [c]) = false := by
  have h1 := toList_eq (a := K) (b := ⟨#[c]⟩)
  have h2 : ((⟨#[c]⟩ : ByteArray).toList) = [c] := by rw [ByteArray.toList_eq]
  rw [h2] at h1
  rw [h1, decide_eq_false_iff_not, ← hc]
  exact h

set_option maxHeartbeats 4000000 in
set_option maxRecDepth 100000 in
theorem rd_un (K : ByteArray) (w0 : World) (row : Option Nat) (b base M : Nat) (m : Msg) (A L P : Option Addr) (c d pc : Nat) (ps : List ByteArray) (w : World) (hR : Rdg w0 row b base M m A c L d w) (β : Nat) (hP : StrsIn β w P ps) (hk : ∀ x ∈ [86, 73, 70, 79, 78, 83, 87, 80, 88, 74, 66], K ≠ one x) :
    Calls Tryz.prog 24 #[.pointer (some ⟨M, 0, none⟩), .agg #[.string K, .slice P ps.length pc]] w fun e w' => e = .returned (.tuple #[]) ∧ Rdg w0 row b base M (readE m (K, ps)) A c L d w' := by
  have b1 := (Below.refl w.heap.size w).alloc (Nat.le_refl _) (.cells #[.string K, .slice P ps.length pc] 55)
  have b2 := below_new b1 (.cells #[.string ⟨#[]⟩, .string ⟨#[]⟩, .string ⟨#[]⟩, .string ⟨#[]⟩] 95)
  have hE2 := (heap_alloc_old (w.alloc (.cells #[.string K, .slice P ps.length pc] 55)) (.cells #[.string ⟨#[]⟩, .string ⟨#[]⟩, .string ⟨#[]⟩, .string ⟨#[]⟩] 95) (by rw [World.size_alloc]; exact Nat.lt_succ_self _)).trans (heap_alloc_new w _)
  have hQ2 := heap_alloc_new (w.alloc (.cells #[.string K, .slice P ps.length pc] 55)) (.cells #[.string ⟨#[]⟩, .string ⟨#[]⟩, .string ⟨#[]⟩, .string ⟨#[]⟩] 95)
  rw [World.size_alloc] at hQ2
  have e1 : ((w.alloc (.cells #[.string K, .slice P ps.length pc] 55)).alloc (.cells #[.string ⟨#[]⟩, .string ⟨#[]⟩, .string ⟨#[]⟩, .string ⟨#[]⟩] 95)).cell? ⟨w.heap.size, 1, none⟩ = some (.slice P ps.length pc) := by rw [Lib.cell_of_heap hE2]; rfl
  have HPos := hide (strs_pos (hP.keep b2))
  have HOne := hide (strs_one ps)
  have HLen := hide (show ((ps.take 4).map Value.string).length = Nat.min ps.length 4 by rw [List.length_map, List.length_take]; exact Nat.min_comm _ _)
  have HFit := hide (show 0 + ((ps.take 4).map Value.string).length ≤ 4 by rw [List.length_map, List.length_take]; omega)
  have HQ2 := hide hQ2
  have HB2 := hide b2
  have HE2 := hide hE2
  have HR := hide hR
  have HSp := hide (splice4 K ps)
  generalize (ps.take 4).map Value.string = cs at *
  clear b1 b2 hE2 hQ2 hP hR
  go_enter Tryz.func24, Tryz.ntmps24
  go_wp2_with fail
  go_region_law (refine step_copy_splice rfl (.tmp 7) (.tmp 9) 53 53 rfl 9 Tryz.underlying53 info_str1 (some ⟨w.heap.size + 1, 0, none⟩) P 4 4 ps.length pc (by rfl) (by rfl) (w.heap.size + 1) 0 [.string ⟨#[]⟩, .string ⟨#[]⟩, .string ⟨#[]⟩, .string ⟨#[]⟩] 95 (unhide HQ2) cs (unhide HLen) (fun hp => ⟨rfl, unhide HPos hp⟩) (unhide HFit) (unhide HOne) (w.heap.size + 1) _ (Below.refl _ _) (Nat.le_refl _) ?_; intro w3 HQ3 hb3)
  have hbb := ((Below.refl (w.heap.size + 1) ((w.alloc (.cells #[.string K, .slice P ps.length pc] 55)).alloc (.cells #[.string ⟨#[]⟩, .string ⟨#[]⟩, .string ⟨#[]⟩, .string ⟨#[]⟩] 95))).drew).trans hb3
  have hq3 : w3.heap[w.heap.size + 1]? = some (.cells #[.string (pt (K, ps) 0), .string (pt (K, ps) 1), .string (pt (K, ps) 2), .string (pt (K, ps) 3)] 95 (0, 0)) := by
    have := HQ3.out
    rw [unhide HSp] at this
    exact this
  have hb3' : Below w.heap.size w w3 := (unhide HB2).trans (hbb.mono (Nat.le_succ _))
  have hE3 : w3.heap[w.heap.size]? = some (.cells #[.string K, .slice P ps.length pc] 55 (0, 0)) := by
    rw [hbb.block _ (Nat.lt_succ_self _)]
    exact unhide HE2
  have e0 : w3.cell? ⟨w.heap.size, 0, none⟩ = some (.string K) := by rw [Lib.cell_of_heap hE3]; rfl

  have HR3 := hide ((unhide HR).below hb3')
  have HQ4 := hide hq3
  have HB3 := hide hb3'
  have HE3 := hide hE3
  clear HQ3 hb3 hbb hq3 hb3' hE3 e1 HB2 HQ2 HE2 HPos HOne HLen HFit HSp
  have t86 : (K.toList == [86]) = false := key_no (hk 86 (by simp))
  have t73 : (K.toList == [73]) = false := key_no (hk 73 (by simp))
  have t70 : (K.toList == [70]) = false := key_no (hk 70 (by simp))
  have t79 : (K.toList == [79]) = false := key_no (hk 79 (by simp))
  have t78 : (K.toList == [78]) = false := key_no (hk 78 (by simp))
  have t83 : (K.toList == [83]) = false := key_no (hk 83 (by simp))
  have t87 : (K.toList == [87]) = false := key_no (hk 87 (by simp))
  have t80 : (K.toList == [80]) = false := key_no (hk 80 (by simp))
  have t88 : (K.toList == [88]) = false := key_no (hk 88 (by simp))
  have t74 : (K.toList == [74]) = false := key_no (hk 74 (by simp))
  have t66 : (K.toList == [66]) = false := key_no (hk 66 (by simp))
  have HE := hide (show readE m (K, ps) = m by
    unfold readE readG; dsimp only
    rw [if_neg (hk 86 (by simp))]; rw [if_neg (hk 73 (by simp))]; rw [if_neg (hk 70 (by simp))]; rw [if_neg (hk 79 (by simp))]; rw [if_neg (hk 78 (by simp))]; rw [if_neg (hk 83 (by simp))]; rw [if_neg (hk 87 (by simp))]; rw [if_neg (hk 80 (by simp))]; rw [if_neg (hk 88 (by simp))]; rw [if_neg (hk 74 (by simp))]; rw [if_neg (hk 66 (by simp))])
  clear hk
  go_wp2
  go_end0
  rw [unhide HE]
  exact ⟨rfl, unhide HR3⟩


/-- What read does, whatever the element. -/
theorem rd_any (w0 : World) (b base M : Nat) (m : Msg) (A L P : Option Addr) (c d pc : Nat) (e : El) (w : World) (hR : Rdg w0 none b base M m A c L d w) (β : Nat) (hP : StrsIn β w0 P e.2) (hW : Words w) (hz : ∀ p ∈ e.2, p.size ≤ 1000000000000) (h1 : m.onw.length ≤ 1000000000) (h2 : m.lst.length + e.2.length ≤ 1000000000) :
    Calls Tryz.prog 24 #[.pointer (some ⟨M, 0, none⟩), .agg #[.string e.1, .slice P e.2.length pc]] w fun en w' => en = .returned (.tuple #[]) ∧ ∃ A' c' L' d', Rdg w0 none b base M (readE m e) A' c' L' d' w' := by
  obtain ⟨K, ps⟩ := e
  have hPw : StrsIn β w P ps := hP.keep (gr_none hR.gr)
  have hpt : ∀ k, (pt (one 0, ps) k).size ≤ 1000000000000 := fun k => by
    show (ps.getD k ByteArray.empty).size ≤ _
    rw [List.getD_eq_getElem?_getD]
    cases hk : ps[k]? with
    | none => show (0 : Nat) ≤ _; omega
    | some p => exact hz p (List.mem_of_getElem? hk)
  by_cases hk : ∃ x ∈ [86, 73, 70, 79, 78, 83, 87, 80, 88, 74, 66], K = one x
  · obtain ⟨x, hx, rfl⟩ := hk
    simp only [List.mem_cons, List.not_mem_nil, or_false] at hx
    rcases hx with rfl | rfl | rfl | rfl | rfl | rfl | rfl | rfl | rfl | rfl | rfl
    · exact (rd_86 w0 none b base M m A L P c d pc ps w hR β hPw).mono fun _ _ h => ⟨h.1, _, _, _, _, h.2⟩
    · exact (rd_73 w0 none b base M m A L P c d pc ps w hR β hPw hpt).mono fun _ _ h => ⟨h.1, _, _, _, _, h.2⟩
    · exact (rd_70 w0 none b base M m A L P c d pc ps w hR β hPw hpt).mono fun _ _ h => ⟨h.1, _, _, _, _, h.2⟩
    · exact (rd_79 w0 none b base M m A L P c d pc ps w hR β hPw hpt h1).mono fun _ _ ⟨h, A', c', k⟩ => ⟨h, A', c', _, _, k⟩
    · exact (rd_78 w0 none b base M m A L P c d pc ps w hR β hPw hpt).mono fun _ _ h => ⟨h.1, _, _, _, _, h.2⟩
    · exact (rd_83 w0 none b base M m A L P c d pc ps w hR β hPw hW).mono fun _ _ h => ⟨h.1, _, _, _, _, h.2⟩
    · exact (rd_87 w0 none b base M m A L P c d pc ps w hR β hPw).mono fun _ _ h => ⟨h.1, _, _, _, _, h.2⟩
    · exact (rd_80 w0 none b base M m A L P c d pc ps w hR β hPw).mono fun _ _ h => ⟨h.1, _, _, _, _, h.2⟩
    · exact (rd_88 w0 none b base M m A L P c d pc ps w hR β hPw hW).mono fun _ _ h => ⟨h.1, _, _, _, _, h.2⟩
    · exact (rd_74 w0 none b base M m A L P c d pc ps w hR β hPw).mono fun _ _ h => ⟨h.1, _, _, _, _, h.2⟩
    · exact (rd_66 w0 none b base M m A L P c d pc ps w hR β hPw rfl hP h2).mono fun _ _ ⟨h, L', d', k⟩ => ⟨h, _, _, L', d', k⟩
  · have hn : ∀ x ∈ [86, 73, 70, 79, 78, 83, 87, 80, 88, 74, 66], K ≠ one x := fun x hx e => hk ⟨x, hx, e⟩
    exact (rd_un K w0 none b base M m A L P c d pc ps w hR β hPw hn).mono fun _ _ h => ⟨h.1, _, _, _, _, h.2⟩
end Go.Proofs.YtglgobmmmghdoaaGreatDoor
