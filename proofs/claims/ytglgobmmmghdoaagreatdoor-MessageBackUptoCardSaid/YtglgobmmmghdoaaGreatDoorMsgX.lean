/-
  Contracts of read.
-/
import Derived.Test.YtglgobmmmghdoaaGreatDoorMsgU
import Derived.Laws.CopyOwn
namespace Go.Proofs.YtglgobmmmghdoaaGreatDoor
open Go.RowKit

theorem info_str1 : (Tryz.prog.info? 9).map (·.size) = some 1 := by kernel_rfl
/-- Four cells with the first parts laid over them. -/
theorem splice4 (k : ByteArray) (ps : List ByteArray) : splice [Value.string ⟨#[]⟩, .string ⟨#[]⟩, .string ⟨#[]⟩, .string ⟨#[]⟩] 0 ((ps.take 4).map Value.string) = [.string (pt (k, ps) 0), .string (pt (k, ps) 1), .string (pt (k, ps) 2), .string (pt (k, ps) 3)] := by
  match ps with
  | [] => rfl
  | [_] => rfl
  | [_, _] => rfl
  | [_, _, _] => rfl
  | _ :: _ :: _ :: _ :: _ => rfl

theorem strs_pos {β : Nat} {W : World} {P : Option Addr} {ps : List ByteArray} (h : StrsIn β W P ps) : 0 < ((ps.take 4).map Value.string).length → ∃ ad, P = some ad ∧ ∀ j v, ((ps.take 4).map Value.string)[j]? = some v → W.cell? (ad.add j) = some v := fun hp => by
  have hps : 0 < ps.length := by rw [List.length_map, List.length_take] at hp; omega
  obtain ⟨g, off, hPe, _, hc⟩ := h hps
  refine ⟨⟨g, off, none⟩, hPe, fun j v hv => ?_⟩
  rw [List.getElem?_map, List.getElem?_take] at hv
  have hadd : (⟨g, off, none⟩ : Addr).add j = ⟨g, off + j, none⟩ := by unfold Addr.add; split <;> simp_all
  rw [hadd]
  split at hv
  · cases hj : ps[j]? with
    | none => rw [hj] at hv; cases hv
    | some p =>
      rw [hj] at hv
      have hjl := (List.getElem?_eq_some_iff.1 hj).1
      have := hc j hjl
      rw [at_k hjl, (List.getElem?_eq_some_iff.1 hj).2] at this
      injection hv with hv
      rw [← hv]; exact this
  · cases hv
theorem strs_one (ps : List ByteArray) : ∀ v ∈ (ps.take 4).map Value.string, v.oneCell' = true := by
  intro v hv
  obtain ⟨s, _, rfl⟩ := List.mem_map.1 hv
  rfl

theorem Rdg.drew {w0 W : World} {row : Option Nat} {b base M : Nat} {m : Msg} {A L : Option Addr} {c d : Nat} (h : Rdg w0 row b base M m A c L d W) : Rdg w0 row b base M m A c L d W.drew := h.below ((Below.refl _ W).drew)
theorem rdE_86 (m : Msg) (ps : List ByteArray) : readE m (one 86, ps) = { m with port := trim1L (pt (one 86, ps) 0), num := numV (pt (one 86, ps) 1) } := by
  unfold readE readG; dsimp only; rw [if_pos rfl]
theorem rdE_73 (m : Msg) (ps : List ByteArray) : readE m (one 73, ps) = { m with inn := lgE (one 73, ps) } := by
  unfold readE readG; dsimp only; rw [if_neg (by decide +kernel)]; rw [if_pos rfl]
theorem rdE_70 (m : Msg) (ps : List ByteArray) : readE m (one 70, ps) = { m with out := lgE (one 70, ps) } := by
  unfold readE readG; dsimp only; rw [if_neg (by decide +kernel)]; rw [if_neg (by decide +kernel)]; rw [if_pos rfl]
theorem rdE_79 (m : Msg) (ps : List ByteArray) : readE m (one 79, ps) = { m with onw := m.onw ++ [lgE (one 79, ps)] } := by
  unfold readE readG; dsimp only; rw [if_neg (by decide +kernel)]; rw [if_neg (by decide +kernel)]; rw [if_neg (by decide +kernel)]; rw [if_pos rfl]
theorem rdE_78 (m : Msg) (ps : List ByteArray) : readE m (one 78, ps) = { m with pl := pL (pt (one 78, ps) 0), pa := pA (pt (one 78, ps) 0), ps := pS (pt (one 78, ps) 0), cnt := numV (pt (one 78, ps) 1) } := by
  unfold readE readG; dsimp only; rw [if_neg (by decide +kernel)]; rw [if_neg (by decide +kernel)]; rw [if_neg (by decide +kernel)]; rw [if_neg (by decide +kernel)]; rw [if_pos rfl]
theorem rdE_83 (m : Msg) (ps : List ByteArray) : readE m (one 83, ps) = { m with load := decide (pt (one 83, ps) 0 = ⟨#[89]⟩), sta := findW wSta (-1) (pt (one 83, ps) 1), sq := numV (pt (one 83, ps) 2) } := by
  unfold readE readG; dsimp only; rw [if_neg (by decide +kernel)]; rw [if_neg (by decide +kernel)]; rw [if_neg (by decide +kernel)]; rw [if_neg (by decide +kernel)]; rw [if_neg (by decide +kernel)]; rw [if_pos rfl]
theorem rdE_87 (m : Msg) (ps : List ByteArray) : readE m (one 87, ps) = { m with wgt := numV (pt (one 87, ps) 1) } := by
  unfold readE readG; dsimp only; rw [if_neg (by decide +kernel)]; rw [if_neg (by decide +kernel)]; rw [if_neg (by decide +kernel)]; rw [if_neg (by decide +kernel)]; rw [if_neg (by decide +kernel)]; rw [if_neg (by decide +kernel)]; rw [if_pos rfl]
theorem rdE_80 (m : Msg) (ps : List ByteArray) : readE m (one 80, ps) = { m with sur := pt (one 80, ps) 0, giv := pt (one 80, ps) 1 } := by
  unfold readE readG; dsimp only; rw [if_neg (by decide +kernel)]; rw [if_neg (by decide +kernel)]; rw [if_neg (by decide +kernel)]; rw [if_neg (by decide +kernel)]; rw [if_neg (by decide +kernel)]; rw [if_neg (by decide +kernel)]; rw [if_neg (by decide +kernel)]; rw [if_pos rfl]
theorem rdE_88 (m : Msg) (ps : List ByteArray) : readE m (one 88, ps) = { m with exc := findW wExc (-1) (pt (one 88, ps) 0) } := by
  unfold readE readG; dsimp only; rw [if_neg (by decide +kernel)]; rw [if_neg (by decide +kernel)]; rw [if_neg (by decide +kernel)]; rw [if_neg (by decide +kernel)]; rw [if_neg (by decide +kernel)]; rw [if_neg (by decide +kernel)]; rw [if_neg (by decide +kernel)]; rw [if_neg (by decide +kernel)]; rw [if_pos rfl]
theorem rdE_74 (m : Msg) (ps : List ByteArray) : readE m (one 74, ps) = { m with node := pt (one 74, ps) 0 } := by
  unfold readE readG; dsimp only; rw [if_neg (by decide +kernel)]; rw [if_neg (by decide +kernel)]; rw [if_neg (by decide +kernel)]; rw [if_neg (by decide +kernel)]; rw [if_neg (by decide +kernel)]; rw [if_neg (by decide +kernel)]; rw [if_neg (by decide +kernel)]; rw [if_neg (by decide +kernel)]; rw [if_neg (by decide +kernel)]; rw [if_pos rfl]
theorem rdE_66 (m : Msg) (ps : List ByteArray) : readE m (one 66, ps) = { m with lst := m.lst ++ ps.map numV } := by
  unfold readE readG; dsimp only; rw [if_neg (by decide +kernel)]; rw [if_neg (by decide +kernel)]; rw [if_neg (by decide +kernel)]; rw [if_neg (by decide +kernel)]; rw [if_neg (by decide +kernel)]; rw [if_neg (by decide +kernel)]; rw [if_neg (by decide +kernel)]; rw [if_neg (by decide +kernel)]; rw [if_neg (by decide +kernel)]; rw [if_neg (by decide +kernel)]; rw [if_pos rfl]

set_option maxHeartbeats 4000000 in
set_option maxRecDepth 100000 in
theorem rd_86 (w0 : World) (row : Option Nat) (b base M : Nat) (m : Msg) (A L P : Option Addr) (c d pc : Nat) (ps : List ByteArray) (w : World) (hR : Rdg w0 row b base M m A c L d w) (β : Nat) (hP : StrsIn β w P ps) :
    Calls Tryz.prog 24 #[.pointer (some ⟨M, 0, none⟩), .agg #[.string ⟨#[86]⟩, .slice P ps.length pc]] w fun e w' => e = .returned (.tuple #[]) ∧ Rdg w0 row b base M (readE m (one 86, ps)) A c L d w' := by
  have b1 := (Below.refl w.heap.size w).alloc (Nat.le_refl _) (.cells #[.string ⟨#[86]⟩, .slice P ps.length pc] 55)
  have b2 := below_new b1 (.cells #[.string ⟨#[]⟩, .string ⟨#[]⟩, .string ⟨#[]⟩, .string ⟨#[]⟩] 95)
  have hE2 := (heap_alloc_old (w.alloc (.cells #[.string ⟨#[86]⟩, .slice P ps.length pc] 55)) (.cells #[.string ⟨#[]⟩, .string ⟨#[]⟩, .string ⟨#[]⟩, .string ⟨#[]⟩] 95) (by rw [World.size_alloc]; exact Nat.lt_succ_self _)).trans (heap_alloc_new w _)
  have hQ2 := heap_alloc_new (w.alloc (.cells #[.string ⟨#[86]⟩, .slice P ps.length pc] 55)) (.cells #[.string ⟨#[]⟩, .string ⟨#[]⟩, .string ⟨#[]⟩, .string ⟨#[]⟩] 95)
  rw [World.size_alloc] at hQ2
  have e1 : ((w.alloc (.cells #[.string ⟨#[86]⟩, .slice P ps.length pc] 55)).alloc (.cells #[.string ⟨#[]⟩, .string ⟨#[]⟩, .string ⟨#[]⟩, .string ⟨#[]⟩] 95)).cell? ⟨w.heap.size, 1, none⟩ = some (.slice P ps.length pc) := by rw [Lib.cell_of_heap hE2]; rfl
  have HPos := hide (strs_pos (hP.keep b2))
  have HOne := hide (strs_one ps)
  have HLen := hide (show ((ps.take 4).map Value.string).length = Nat.min ps.length 4 by rw [List.length_map, List.length_take]; exact Nat.min_comm _ _)
  have HFit := hide (show 0 + ((ps.take 4).map Value.string).length ≤ 4 by rw [List.length_map, List.length_take]; omega)
  have HQ2 := hide hQ2
  have HB2 := hide b2
  have HE2 := hide hE2
  have HR := hide hR
  have HSp := hide (splice4 ⟨#[86]⟩ ps)
  generalize (ps.take 4).map Value.string = cs at *
  clear b1 b2 hE2 hQ2 hP hR
  go_enter Tryz.func24, Tryz.ntmps24
  go_wp2_with fail
  go_region_law (refine step_copy_splice rfl (.tmp 7) (.tmp 9) 53 53 rfl 9 Tryz.underlying53 info_str1 (some ⟨w.heap.size + 1, 0, none⟩) P 4 4 ps.length pc (by rfl) (by rfl) (w.heap.size + 1) 0 [.string ⟨#[]⟩, .string ⟨#[]⟩, .string ⟨#[]⟩, .string ⟨#[]⟩] 95 (unhide HQ2) cs (unhide HLen) (fun hp => ⟨rfl, unhide HPos hp⟩) (unhide HFit) (unhide HOne) (w.heap.size + 1) _ (Below.refl _ _) (Nat.le_refl _) ?_; intro w3 HQ3 hb3)
  have hbb := ((Below.refl (w.heap.size + 1) ((w.alloc (.cells #[.string ⟨#[86]⟩, .slice P ps.length pc] 55)).alloc (.cells #[.string ⟨#[]⟩, .string ⟨#[]⟩, .string ⟨#[]⟩, .string ⟨#[]⟩] 95))).drew).trans hb3
  have hq3 : w3.heap[w.heap.size + 1]? = some (.cells #[.string (pt (⟨#[86]⟩, ps) 0), .string (pt (⟨#[86]⟩, ps) 1), .string (pt (⟨#[86]⟩, ps) 2), .string (pt (⟨#[86]⟩, ps) 3)] 95 (0, 0)) := by
    have := HQ3.out
    rw [unhide HSp] at this
    exact this
  have hb3' : Below w.heap.size w w3 := (unhide HB2).trans (hbb.mono (Nat.le_succ _))
  have hE3 : w3.heap[w.heap.size]? = some (.cells #[.string ⟨#[86]⟩, .slice P ps.length pc] 55 (0, 0)) := by
    rw [hbb.block _ (Nat.lt_succ_self _)]
    exact unhide HE2
  have e0 : w3.cell? ⟨w.heap.size, 0, none⟩ = some (.string ⟨#[86]⟩) := by rw [Lib.cell_of_heap hE3]; rfl
  have q0 : w3.cell? ⟨w.heap.size + 1, 0, none⟩ = some (.string (pt (⟨#[86]⟩, ps) 0)) := by rw [Lib.cell_of_heap hq3]; rfl
  have q1 : w3.cell? ⟨w.heap.size + 1, 1, none⟩ = some (.string (pt (⟨#[86]⟩, ps) 1)) := by rw [Lib.cell_of_heap hq3]; rfl
  have HR3 := hide ((unhide HR).below hb3')
  have HQ4 := hide hq3
  have HB3 := hide hb3'
  have HE3 := hide hE3
  clear HQ3 hb3 hbb hq3 hb3' hE3 e1 HB2 HQ2 HE2 HPos HOne HLen HFit HSp
  have m2 := (unhide HR3).cell 2
  have f2 := (unhide HR3).frz 2
  have m3 := (unhide HR3).cell 3
  have f3 := (unhide HR3).frz 3
  go_wp2_with fail
  go_region_law (first
    | (go_simp; go_at_call 50; refine (Tryz.strings_TrimPrefix _ _ _).mono ?_; rintro e wt ⟨rfl, rfl⟩)
    | (go_simp; go_at_call 51; refine (mnumber_any _ _).mono ?_; rintro e wt ⟨rfl, rfl⟩))
  all_goals
    go_wp2
    go_end0
    rw [rdE_86]
    exact ⟨rfl, (((unhide HR3).set (m' := { m with port := trim1L (pt (⟨#[86]⟩, ps) 0) }) 2 _ rfl rfl rfl).set (m' := { m with port := trim1L (pt (⟨#[86]⟩, ps) 0), num := numV (pt (⟨#[86]⟩, ps) 1) }) 3 _ rfl rfl rfl).drew⟩

set_option maxHeartbeats 4000000 in
set_option maxRecDepth 100000 in
theorem rd_73 (w0 : World) (row : Option Nat) (b base M : Nat) (m : Msg) (A L P : Option Addr) (c d pc : Nat) (ps : List ByteArray) (w : World) (hR : Rdg w0 row b base M m A c L d w) (β : Nat) (hP : StrsIn β w P ps) (hz : ∀ k, (pt (one 0, ps) k).size ≤ 1000000000000) :
    Calls Tryz.prog 24 #[.pointer (some ⟨M, 0, none⟩), .agg #[.string ⟨#[73]⟩, .slice P ps.length pc]] w fun e w' => e = .returned (.tuple #[]) ∧ Rdg w0 row b base M (readE m (one 73, ps)) A c L d w' := by
  have b1 := (Below.refl w.heap.size w).alloc (Nat.le_refl _) (.cells #[.string ⟨#[73]⟩, .slice P ps.length pc] 55)
  have b2 := below_new b1 (.cells #[.string ⟨#[]⟩, .string ⟨#[]⟩, .string ⟨#[]⟩, .string ⟨#[]⟩] 95)
  have hE2 := (heap_alloc_old (w.alloc (.cells #[.string ⟨#[73]⟩, .slice P ps.length pc] 55)) (.cells #[.string ⟨#[]⟩, .string ⟨#[]⟩, .string ⟨#[]⟩, .string ⟨#[]⟩] 95) (by rw [World.size_alloc]; exact Nat.lt_succ_self _)).trans (heap_alloc_new w _)
  have hQ2 := heap_alloc_new (w.alloc (.cells #[.string ⟨#[73]⟩, .slice P ps.length pc] 55)) (.cells #[.string ⟨#[]⟩, .string ⟨#[]⟩, .string ⟨#[]⟩, .string ⟨#[]⟩] 95)
  rw [World.size_alloc] at hQ2
  have e1 : ((w.alloc (.cells #[.string ⟨#[73]⟩, .slice P ps.length pc] 55)).alloc (.cells #[.string ⟨#[]⟩, .string ⟨#[]⟩, .string ⟨#[]⟩, .string ⟨#[]⟩] 95)).cell? ⟨w.heap.size, 1, none⟩ = some (.slice P ps.length pc) := by rw [Lib.cell_of_heap hE2]; rfl
  have HPos := hide (strs_pos (hP.keep b2))
  have HOne := hide (strs_one ps)
  have HLen := hide (show ((ps.take 4).map Value.string).length = Nat.min ps.length 4 by rw [List.length_map, List.length_take]; exact Nat.min_comm _ _)
  have HFit := hide (show 0 + ((ps.take 4).map Value.string).length ≤ 4 by rw [List.length_map, List.length_take]; omega)
  have HQ2 := hide hQ2
  have HB2 := hide b2
  have HE2 := hide hE2
  have HR := hide hR
  have HSp := hide (splice4 ⟨#[73]⟩ ps)
  generalize (ps.take 4).map Value.string = cs at *
  clear b1 b2 hE2 hQ2 hP hR
  go_enter Tryz.func24, Tryz.ntmps24
  go_wp2_with fail
  go_region_law (refine step_copy_splice rfl (.tmp 7) (.tmp 9) 53 53 rfl 9 Tryz.underlying53 info_str1 (some ⟨w.heap.size + 1, 0, none⟩) P 4 4 ps.length pc (by rfl) (by rfl) (w.heap.size + 1) 0 [.string ⟨#[]⟩, .string ⟨#[]⟩, .string ⟨#[]⟩, .string ⟨#[]⟩] 95 (unhide HQ2) cs (unhide HLen) (fun hp => ⟨rfl, unhide HPos hp⟩) (unhide HFit) (unhide HOne) (w.heap.size + 1) _ (Below.refl _ _) (Nat.le_refl _) ?_; intro w3 HQ3 hb3)
  have hbb := ((Below.refl (w.heap.size + 1) ((w.alloc (.cells #[.string ⟨#[73]⟩, .slice P ps.length pc] 55)).alloc (.cells #[.string ⟨#[]⟩, .string ⟨#[]⟩, .string ⟨#[]⟩, .string ⟨#[]⟩] 95))).drew).trans hb3
  have hq3 : w3.heap[w.heap.size + 1]? = some (.cells #[.string (pt (⟨#[73]⟩, ps) 0), .string (pt (⟨#[73]⟩, ps) 1), .string (pt (⟨#[73]⟩, ps) 2), .string (pt (⟨#[73]⟩, ps) 3)] 95 (0, 0)) := by
    have := HQ3.out
    rw [unhide HSp] at this
    exact this
  have hb3' : Below w.heap.size w w3 := (unhide HB2).trans (hbb.mono (Nat.le_succ _))
  have hE3 : w3.heap[w.heap.size]? = some (.cells #[.string ⟨#[73]⟩, .slice P ps.length pc] 55 (0, 0)) := by
    rw [hbb.block _ (Nat.lt_succ_self _)]
    exact unhide HE2
  have e0 : w3.cell? ⟨w.heap.size, 0, none⟩ = some (.string ⟨#[73]⟩) := by rw [Lib.cell_of_heap hE3]; rfl
  have q0 : w3.cell? ⟨w.heap.size + 1, 0, none⟩ = some (.string (pt (⟨#[73]⟩, ps) 0)) := by rw [Lib.cell_of_heap hq3]; rfl
  have q1 : w3.cell? ⟨w.heap.size + 1, 1, none⟩ = some (.string (pt (⟨#[73]⟩, ps) 1)) := by rw [Lib.cell_of_heap hq3]; rfl
  have q2 : w3.cell? ⟨w.heap.size + 1, 2, none⟩ = some (.string (pt (⟨#[73]⟩, ps) 2)) := by rw [Lib.cell_of_heap hq3]; rfl
  have q3 : w3.cell? ⟨w.heap.size + 1, 3, none⟩ = some (.string (pt (⟨#[73]⟩, ps) 3)) := by rw [Lib.cell_of_heap hq3]; rfl
  have HR3 := hide ((unhide HR).below hb3')
  have HQ4 := hide hq3
  have HB3 := hide hb3'
  have HE3 := hide hE3
  clear HQ3 hb3 hbb hq3 hb3' hE3 e1 HB2 HQ2 HE2 HPos HOne HLen HFit HSp
  have HZ := hide hz
  clear hz
  have z0 := unhide HZ 0
  have z1 := unhide HZ 1
  have HC := hide (fun w : World => rdleg_any (pt (⟨#[73]⟩, ps) 0) (pt (⟨#[73]⟩, ps) 1) (pt (⟨#[73]⟩, ps) 2) (pt (⟨#[73]⟩, ps) 3) w z0 z1)
  clear z0 z1
  go_wp2_with (go_at_call 52; refine (unhide HC _).mono ?_; rintro e w4 ⟨rfl, hb4⟩; have HR4 := hide ((unhide HR3).below hb4); clear hb4; have m4 := (unhide HR4).cell 4; have f4 := (unhide HR4).frz 4; have m5 := (unhide HR4).cell 5; have f5 := (unhide HR4).frz 5; have m6 := (unhide HR4).cell 6; have f6 := (unhide HR4).frz 6; have m7 := (unhide HR4).cell 7; have f7 := (unhide HR4).frz 7; have m8 := (unhide HR4).cell 8; have f8 := (unhide HR4).frz 8; have m9 := (unhide HR4).cell 9; have f9 := (unhide HR4).frz 9; skip)
  go_end0
  rw [rdE_73]
  exact ⟨rfl, (((((((unhide HR4).set (m' := { m with inn := { m.inn with c := fC (slash2 (pt (⟨#[73]⟩, ps) 0) (pt (⟨#[73]⟩, ps) 1)) } }) 4 _ rfl rfl rfl).set (m' := { m with inn := { m.inn with c := fC (slash2 (pt (⟨#[73]⟩, ps) 0) (pt (⟨#[73]⟩, ps) 1)), n := fN (slash2 (pt (⟨#[73]⟩, ps) 0) (pt (⟨#[73]⟩, ps) 1)) } }) 5 _ rfl rfl rfl).set (m' := { m with inn := { m.inn with c := fC (slash2 (pt (⟨#[73]⟩, ps) 0) (pt (⟨#[73]⟩, ps) 1)), n := fN (slash2 (pt (⟨#[73]⟩, ps) 0) (pt (⟨#[73]⟩, ps) 1)), s := fS (slash2 (pt (⟨#[73]⟩, ps) 0) (pt (⟨#[73]⟩, ps) 1)) } }) 6 _ rfl rfl rfl).set (m' := { m with inn := { m.inn with c := fC (slash2 (pt (⟨#[73]⟩, ps) 0) (pt (⟨#[73]⟩, ps) 1)), n := fN (slash2 (pt (⟨#[73]⟩, ps) 0) (pt (⟨#[73]⟩, ps) 1)), s := fS (slash2 (pt (⟨#[73]⟩, ps) 0) (pt (⟨#[73]⟩, ps) 1)), d := fD (slash2 (pt (⟨#[73]⟩, ps) 0) (pt (⟨#[73]⟩, ps) 1)) } }) 7 _ rfl rfl rfl).set (m' := { m with inn := { m.inn with c := fC (slash2 (pt (⟨#[73]⟩, ps) 0) (pt (⟨#[73]⟩, ps) 1)), n := fN (slash2 (pt (⟨#[73]⟩, ps) 0) (pt (⟨#[73]⟩, ps) 1)), s := fS (slash2 (pt (⟨#[73]⟩, ps) 0) (pt (⟨#[73]⟩, ps) 1)), d := fD (slash2 (pt (⟨#[73]⟩, ps) 0) (pt (⟨#[73]⟩, ps) 1)), p := pt (⟨#[73]⟩, ps) 2 } }) 8 _ rfl rfl rfl).set (m' := { m with inn := { m.inn with c := fC (slash2 (pt (⟨#[73]⟩, ps) 0) (pt (⟨#[73]⟩, ps) 1)), n := fN (slash2 (pt (⟨#[73]⟩, ps) 0) (pt (⟨#[73]⟩, ps) 1)), s := fS (slash2 (pt (⟨#[73]⟩, ps) 0) (pt (⟨#[73]⟩, ps) 1)), d := fD (slash2 (pt (⟨#[73]⟩, ps) 0) (pt (⟨#[73]⟩, ps) 1)), p := pt (⟨#[73]⟩, ps) 2, k := pt (⟨#[73]⟩, ps) 3 } }) 9 _ rfl rfl rfl)⟩

set_option maxHeartbeats 4000000 in
set_option maxRecDepth 100000 in
theorem rd_70 (w0 : World) (row : Option Nat) (b base M : Nat) (m : Msg) (A L P : Option Addr) (c d pc : Nat) (ps : List ByteArray) (w : World) (hR : Rdg w0 row b base M m A c L d w) (β : Nat) (hP : StrsIn β w P ps) (hz : ∀ k, (pt (one 0, ps) k).size ≤ 1000000000000) :
    Calls Tryz.prog 24 #[.pointer (some ⟨M, 0, none⟩), .agg #[.string ⟨#[70]⟩, .slice P ps.length pc]] w fun e w' => e = .returned (.tuple #[]) ∧ Rdg w0 row b base M (readE m (one 70, ps)) A c L d w' := by
  have b1 := (Below.refl w.heap.size w).alloc (Nat.le_refl _) (.cells #[.string ⟨#[70]⟩, .slice P ps.length pc] 55)
  have b2 := below_new b1 (.cells #[.string ⟨#[]⟩, .string ⟨#[]⟩, .string ⟨#[]⟩, .string ⟨#[]⟩] 95)
  have hE2 := (heap_alloc_old (w.alloc (.cells #[.string ⟨#[70]⟩, .slice P ps.length pc] 55)) (.cells #[.string ⟨#[]⟩, .string ⟨#[]⟩, .string ⟨#[]⟩, .string ⟨#[]⟩] 95) (by rw [World.size_alloc]; exact Nat.lt_succ_self _)).trans (heap_alloc_new w _)
  have hQ2 := heap_alloc_new (w.alloc (.cells #[.string ⟨#[70]⟩, .slice P ps.length pc] 55)) (.cells #[.string ⟨#[]⟩, .string ⟨#[]⟩, .string ⟨#[]⟩, .string ⟨#[]⟩] 95)
  rw [World.size_alloc] at hQ2
  have e1 : ((w.alloc (.cells #[.string ⟨#[70]⟩, .slice P ps.length pc] 55)).alloc (.cells #[.string ⟨#[]⟩, .string ⟨#[]⟩, .string ⟨#[]⟩, .string ⟨#[]⟩] 95)).cell? ⟨w.heap.size, 1, none⟩ = some (.slice P ps.length pc) := by rw [Lib.cell_of_heap hE2]; rfl
  have HPos := hide (strs_pos (hP.keep b2))
  have HOne := hide (strs_one ps)
  have HLen := hide (show ((ps.take 4).map Value.string).length = Nat.min ps.length 4 by rw [List.length_map, List.length_take]; exact Nat.min_comm _ _)
  have HFit := hide (show 0 + ((ps.take 4).map Value.string).length ≤ 4 by rw [List.length_map, List.length_take]; omega)
  have HQ2 := hide hQ2
  have HB2 := hide b2
  have HE2 := hide hE2
  have HR := hide hR
  have HSp := hide (splice4 ⟨#[70]⟩ ps)
  generalize (ps.take 4).map Value.string = cs at *
  clear b1 b2 hE2 hQ2 hP hR
  go_enter Tryz.func24, Tryz.ntmps24
  go_wp2_with fail
  go_region_law (refine step_copy_splice rfl (.tmp 7) (.tmp 9) 53 53 rfl 9 Tryz.underlying53 info_str1 (some ⟨w.heap.size + 1, 0, none⟩) P 4 4 ps.length pc (by rfl) (by rfl) (w.heap.size + 1) 0 [.string ⟨#[]⟩, .string ⟨#[]⟩, .string ⟨#[]⟩, .string ⟨#[]⟩] 95 (unhide HQ2) cs (unhide HLen) (fun hp => ⟨rfl, unhide HPos hp⟩) (unhide HFit) (unhide HOne) (w.heap.size + 1) _ (Below.refl _ _) (Nat.le_refl _) ?_; intro w3 HQ3 hb3)
  have hbb := ((Below.refl (w.heap.size + 1) ((w.alloc (.cells #[.string ⟨#[70]⟩, .slice P ps.length pc] 55)).alloc (.cells #[.string ⟨#[]⟩, .string ⟨#[]⟩, .string ⟨#[]⟩, .string ⟨#[]⟩] 95))).drew).trans hb3
  have hq3 : w3.heap[w.heap.size + 1]? = some (.cells #[.string (pt (⟨#[70]⟩, ps) 0), .string (pt (⟨#[70]⟩, ps) 1), .string (pt (⟨#[70]⟩, ps) 2), .string (pt (⟨#[70]⟩, ps) 3)] 95 (0, 0)) := by
    have := HQ3.out
    rw [unhide HSp] at this
    exact this
  have hb3' : Below w.heap.size w w3 := (unhide HB2).trans (hbb.mono (Nat.le_succ _))
  have hE3 : w3.heap[w.heap.size]? = some (.cells #[.string ⟨#[70]⟩, .slice P ps.length pc] 55 (0, 0)) := by
    rw [hbb.block _ (Nat.lt_succ_self _)]
    exact unhide HE2
  have e0 : w3.cell? ⟨w.heap.size, 0, none⟩ = some (.string ⟨#[70]⟩) := by rw [Lib.cell_of_heap hE3]; rfl
  have q0 : w3.cell? ⟨w.heap.size + 1, 0, none⟩ = some (.string (pt (⟨#[70]⟩, ps) 0)) := by rw [Lib.cell_of_heap hq3]; rfl
  have q1 : w3.cell? ⟨w.heap.size + 1, 1, none⟩ = some (.string (pt (⟨#[70]⟩, ps) 1)) := by rw [Lib.cell_of_heap hq3]; rfl
  have q2 : w3.cell? ⟨w.heap.size + 1, 2, none⟩ = some (.string (pt (⟨#[70]⟩, ps) 2)) := by rw [Lib.cell_of_heap hq3]; rfl
  have q3 : w3.cell? ⟨w.heap.size + 1, 3, none⟩ = some (.string (pt (⟨#[70]⟩, ps) 3)) := by rw [Lib.cell_of_heap hq3]; rfl
  have HR3 := hide ((unhide HR).below hb3')
  have HQ4 := hide hq3
  have HB3 := hide hb3'
  have HE3 := hide hE3
  clear HQ3 hb3 hbb hq3 hb3' hE3 e1 HB2 HQ2 HE2 HPos HOne HLen HFit HSp
  have HZ := hide hz
  clear hz
  have z0 := unhide HZ 0
  have z1 := unhide HZ 1
  have HC := hide (fun w : World => rdleg_any (pt (⟨#[70]⟩, ps) 0) (pt (⟨#[70]⟩, ps) 1) (pt (⟨#[70]⟩, ps) 2) (pt (⟨#[70]⟩, ps) 3) w z0 z1)
  clear z0 z1
  go_wp2_with (go_at_call 52; refine (unhide HC _).mono ?_; rintro e w4 ⟨rfl, hb4⟩; have HR4 := hide ((unhide HR3).below hb4); clear hb4; have m10 := (unhide HR4).cell 10; have f10 := (unhide HR4).frz 10; have m11 := (unhide HR4).cell 11; have f11 := (unhide HR4).frz 11; have m12 := (unhide HR4).cell 12; have f12 := (unhide HR4).frz 12; have m13 := (unhide HR4).cell 13; have f13 := (unhide HR4).frz 13; have m14 := (unhide HR4).cell 14; have f14 := (unhide HR4).frz 14; have m15 := (unhide HR4).cell 15; have f15 := (unhide HR4).frz 15; skip)
  go_end0
  rw [rdE_70]
  exact ⟨rfl, (((((((unhide HR4).set (m' := { m with out := { m.out with c := fC (slash2 (pt (⟨#[70]⟩, ps) 0) (pt (⟨#[70]⟩, ps) 1)) } }) 10 _ rfl rfl rfl).set (m' := { m with out := { m.out with c := fC (slash2 (pt (⟨#[70]⟩, ps) 0) (pt (⟨#[70]⟩, ps) 1)), n := fN (slash2 (pt (⟨#[70]⟩, ps) 0) (pt (⟨#[70]⟩, ps) 1)) } }) 11 _ rfl rfl rfl).set (m' := { m with out := { m.out with c := fC (slash2 (pt (⟨#[70]⟩, ps) 0) (pt (⟨#[70]⟩, ps) 1)), n := fN (slash2 (pt (⟨#[70]⟩, ps) 0) (pt (⟨#[70]⟩, ps) 1)), s := fS (slash2 (pt (⟨#[70]⟩, ps) 0) (pt (⟨#[70]⟩, ps) 1)) } }) 12 _ rfl rfl rfl).set (m' := { m with out := { m.out with c := fC (slash2 (pt (⟨#[70]⟩, ps) 0) (pt (⟨#[70]⟩, ps) 1)), n := fN (slash2 (pt (⟨#[70]⟩, ps) 0) (pt (⟨#[70]⟩, ps) 1)), s := fS (slash2 (pt (⟨#[70]⟩, ps) 0) (pt (⟨#[70]⟩, ps) 1)), d := fD (slash2 (pt (⟨#[70]⟩, ps) 0) (pt (⟨#[70]⟩, ps) 1)) } }) 13 _ rfl rfl rfl).set (m' := { m with out := { m.out with c := fC (slash2 (pt (⟨#[70]⟩, ps) 0) (pt (⟨#[70]⟩, ps) 1)), n := fN (slash2 (pt (⟨#[70]⟩, ps) 0) (pt (⟨#[70]⟩, ps) 1)), s := fS (slash2 (pt (⟨#[70]⟩, ps) 0) (pt (⟨#[70]⟩, ps) 1)), d := fD (slash2 (pt (⟨#[70]⟩, ps) 0) (pt (⟨#[70]⟩, ps) 1)), p := pt (⟨#[70]⟩, ps) 2 } }) 14 _ rfl rfl rfl).set (m' := { m with out := { m.out with c := fC (slash2 (pt (⟨#[70]⟩, ps) 0) (pt (⟨#[70]⟩, ps) 1)), n := fN (slash2 (pt (⟨#[70]⟩, ps) 0) (pt (⟨#[70]⟩, ps) 1)), s := fS (slash2 (pt (⟨#[70]⟩, ps) 0) (pt (⟨#[70]⟩, ps) 1)), d := fD (slash2 (pt (⟨#[70]⟩, ps) 0) (pt (⟨#[70]⟩, ps) 1)), p := pt (⟨#[70]⟩, ps) 2, k := pt (⟨#[70]⟩, ps) 3 } }) 15 _ rfl rfl rfl)⟩

set_option maxHeartbeats 4000000 in
set_option maxRecDepth 100000 in
theorem rd_78 (w0 : World) (row : Option Nat) (b base M : Nat) (m : Msg) (A L P : Option Addr) (c d pc : Nat) (ps : List ByteArray) (w : World) (hR : Rdg w0 row b base M m A c L d w) (β : Nat) (hP : StrsIn β w P ps) (hz : ∀ k, (pt (one 0, ps) k).size ≤ 1000000000000) :
    Calls Tryz.prog 24 #[.pointer (some ⟨M, 0, none⟩), .agg #[.string ⟨#[78]⟩, .slice P ps.length pc]] w fun e w' => e = .returned (.tuple #[]) ∧ Rdg w0 row b base M (readE m (one 78, ps)) A c L d w' := by
  have b1 := (Below.refl w.heap.size w).alloc (Nat.le_refl _) (.cells #[.string ⟨#[78]⟩, .slice P ps.length pc] 55)
  have b2 := below_new b1 (.cells #[.string ⟨#[]⟩, .string ⟨#[]⟩, .string ⟨#[]⟩, .string ⟨#[]⟩] 95)
  have hE2 := (heap_alloc_old (w.alloc (.cells #[.string ⟨#[78]⟩, .slice P ps.length pc] 55)) (.cells #[.string ⟨#[]⟩, .string ⟨#[]⟩, .string ⟨#[]⟩, .string ⟨#[]⟩] 95) (by rw [World.size_alloc]; exact Nat.lt_succ_self _)).trans (heap_alloc_new w _)
  have hQ2 := heap_alloc_new (w.alloc (.cells #[.string ⟨#[78]⟩, .slice P ps.length pc] 55)) (.cells #[.string ⟨#[]⟩, .string ⟨#[]⟩, .string ⟨#[]⟩, .string ⟨#[]⟩] 95)
  rw [World.size_alloc] at hQ2
  have e1 : ((w.alloc (.cells #[.string ⟨#[78]⟩, .slice P ps.length pc] 55)).alloc (.cells #[.string ⟨#[]⟩, .string ⟨#[]⟩, .string ⟨#[]⟩, .string ⟨#[]⟩] 95)).cell? ⟨w.heap.size, 1, none⟩ = some (.slice P ps.length pc) := by rw [Lib.cell_of_heap hE2]; rfl
  have HPos := hide (strs_pos (hP.keep b2))
  have HOne := hide (strs_one ps)
  have HLen := hide (show ((ps.take 4).map Value.string).length = Nat.min ps.length 4 by rw [List.length_map, List.length_take]; exact Nat.min_comm _ _)
  have HFit := hide (show 0 + ((ps.take 4).map Value.string).length ≤ 4 by rw [List.length_map, List.length_take]; omega)
  have HQ2 := hide hQ2
  have HB2 := hide b2
  have HE2 := hide hE2
  have HR := hide hR
  have HSp := hide (splice4 ⟨#[78]⟩ ps)
  generalize (ps.take 4).map Value.string = cs at *
  clear b1 b2 hE2 hQ2 hP hR
  go_enter Tryz.func24, Tryz.ntmps24
  go_wp2_with fail
  go_region_law (refine step_copy_splice rfl (.tmp 7) (.tmp 9) 53 53 rfl 9 Tryz.underlying53 info_str1 (some ⟨w.heap.size + 1, 0, none⟩) P 4 4 ps.length pc (by rfl) (by rfl) (w.heap.size + 1) 0 [.string ⟨#[]⟩, .string ⟨#[]⟩, .string ⟨#[]⟩, .string ⟨#[]⟩] 95 (unhide HQ2) cs (unhide HLen) (fun hp => ⟨rfl, unhide HPos hp⟩) (unhide HFit) (unhide HOne) (w.heap.size + 1) _ (Below.refl _ _) (Nat.le_refl _) ?_; intro w3 HQ3 hb3)
  have hbb := ((Below.refl (w.heap.size + 1) ((w.alloc (.cells #[.string ⟨#[78]⟩, .slice P ps.length pc] 55)).alloc (.cells #[.string ⟨#[]⟩, .string ⟨#[]⟩, .string ⟨#[]⟩, .string ⟨#[]⟩] 95))).drew).trans hb3
  have hq3 : w3.heap[w.heap.size + 1]? = some (.cells #[.string (pt (⟨#[78]⟩, ps) 0), .string (pt (⟨#[78]⟩, ps) 1), .string (pt (⟨#[78]⟩, ps) 2), .string (pt (⟨#[78]⟩, ps) 3)] 95 (0, 0)) := by
    have := HQ3.out
    rw [unhide HSp] at this
    exact this
  have hb3' : Below w.heap.size w w3 := (unhide HB2).trans (hbb.mono (Nat.le_succ _))
  have hE3 : w3.heap[w.heap.size]? = some (.cells #[.string ⟨#[78]⟩, .slice P ps.length pc] 55 (0, 0)) := by
    rw [hbb.block _ (Nat.lt_succ_self _)]
    exact unhide HE2
  have e0 : w3.cell? ⟨w.heap.size, 0, none⟩ = some (.string ⟨#[78]⟩) := by rw [Lib.cell_of_heap hE3]; rfl
  have q0 : w3.cell? ⟨w.heap.size + 1, 0, none⟩ = some (.string (pt (⟨#[78]⟩, ps) 0)) := by rw [Lib.cell_of_heap hq3]; rfl
  have q1 : w3.cell? ⟨w.heap.size + 1, 1, none⟩ = some (.string (pt (⟨#[78]⟩, ps) 1)) := by rw [Lib.cell_of_heap hq3]; rfl
  have HR3 := hide ((unhide HR).below hb3')
  have HQ4 := hide hq3
  have HB3 := hide hb3'
  have HE3 := hide hE3
  clear HQ3 hb3 hbb hq3 hb3' hE3 e1 HB2 HQ2 HE2 HPos HOne HLen HFit HSp
  have hs := hz 0
  have HPa := hide (fun w : World => parse_any (pt (⟨#[78]⟩, ps) 0) w (by unfold maxLen; exact Nat.le_trans hs (by decide)))
  clear hs hz
  go_wp2_with fail
  refine (unhide HPa _).mono ?_
  rintro e w4 ⟨rfl, hb4⟩
  have HR4 := hide ((unhide HR3).below hb4)
  have m17 := (unhide HR4).cell 17
  have f17 := (unhide HR4).frz 17
  have m18 := (unhide HR4).cell 18
  have f18 := (unhide HR4).frz 18
  have m19 := (unhide HR4).cell 19
  have f19 := (unhide HR4).frz 19
  have m20 := (unhide HR4).cell 20
  have f20 := (unhide HR4).frz 20
  have y1 := kept hb4 q1
  clear hb4 q0 q1 e0
  go_wp2_with (go_at_call 51; refine (mnumber_any _ _).mono ?_; rintro e wt ⟨rfl, rfl⟩)
  go_end0
  rw [rdE_78]
  exact ⟨rfl, ((((unhide HR4).set (m' := { m with pl := pL (pt (⟨#[78]⟩, ps) 0) }) 17 _ rfl rfl rfl).set (m' := { m with pl := pL (pt (⟨#[78]⟩, ps) 0), pa := pA (pt (⟨#[78]⟩, ps) 0) }) 18 _ rfl rfl rfl).set (m' := { m with pl := pL (pt (⟨#[78]⟩, ps) 0), pa := pA (pt (⟨#[78]⟩, ps) 0), ps := pS (pt (⟨#[78]⟩, ps) 0) }) 19 _ rfl rfl rfl).set (m' := { m with pl := pL (pt (⟨#[78]⟩, ps) 0), pa := pA (pt (⟨#[78]⟩, ps) 0), ps := pS (pt (⟨#[78]⟩, ps) 0), cnt := numV (pt (⟨#[78]⟩, ps) 1) }) 20 _ rfl rfl rfl⟩

set_option maxHeartbeats 4000000 in
set_option maxRecDepth 100000 in
theorem rd_87 (w0 : World) (row : Option Nat) (b base M : Nat) (m : Msg) (A L P : Option Addr) (c d pc : Nat) (ps : List ByteArray) (w : World) (hR : Rdg w0 row b base M m A c L d w) (β : Nat) (hP : StrsIn β w P ps) :
    Calls Tryz.prog 24 #[.pointer (some ⟨M, 0, none⟩), .agg #[.string ⟨#[87]⟩, .slice P ps.length pc]] w fun e w' => e = .returned (.tuple #[]) ∧ Rdg w0 row b base M (readE m (one 87, ps)) A c L d w' := by
  have b1 := (Below.refl w.heap.size w).alloc (Nat.le_refl _) (.cells #[.string ⟨#[87]⟩, .slice P ps.length pc] 55)
  have b2 := below_new b1 (.cells #[.string ⟨#[]⟩, .string ⟨#[]⟩, .string ⟨#[]⟩, .string ⟨#[]⟩] 95)
  have hE2 := (heap_alloc_old (w.alloc (.cells #[.string ⟨#[87]⟩, .slice P ps.length pc] 55)) (.cells #[.string ⟨#[]⟩, .string ⟨#[]⟩, .string ⟨#[]⟩, .string ⟨#[]⟩] 95) (by rw [World.size_alloc]; exact Nat.lt_succ_self _)).trans (heap_alloc_new w _)
  have hQ2 := heap_alloc_new (w.alloc (.cells #[.string ⟨#[87]⟩, .slice P ps.length pc] 55)) (.cells #[.string ⟨#[]⟩, .string ⟨#[]⟩, .string ⟨#[]⟩, .string ⟨#[]⟩] 95)
  rw [World.size_alloc] at hQ2
  have e1 : ((w.alloc (.cells #[.string ⟨#[87]⟩, .slice P ps.length pc] 55)).alloc (.cells #[.string ⟨#[]⟩, .string ⟨#[]⟩, .string ⟨#[]⟩, .string ⟨#[]⟩] 95)).cell? ⟨w.heap.size, 1, none⟩ = some (.slice P ps.length pc) := by rw [Lib.cell_of_heap hE2]; rfl
  have HPos := hide (strs_pos (hP.keep b2))
  have HOne := hide (strs_one ps)
  have HLen := hide (show ((ps.take 4).map Value.string).length = Nat.min ps.length 4 by rw [List.length_map, List.length_take]; exact Nat.min_comm _ _)
  have HFit := hide (show 0 + ((ps.take 4).map Value.string).length ≤ 4 by rw [List.length_map, List.length_take]; omega)
  have HQ2 := hide hQ2
  have HB2 := hide b2
  have HE2 := hide hE2
  have HR := hide hR
  have HSp := hide (splice4 ⟨#[87]⟩ ps)
  generalize (ps.take 4).map Value.string = cs at *
  clear b1 b2 hE2 hQ2 hP hR
  go_enter Tryz.func24, Tryz.ntmps24
  go_wp2_with fail
  go_region_law (refine step_copy_splice rfl (.tmp 7) (.tmp 9) 53 53 rfl 9 Tryz.underlying53 info_str1 (some ⟨w.heap.size + 1, 0, none⟩) P 4 4 ps.length pc (by rfl) (by rfl) (w.heap.size + 1) 0 [.string ⟨#[]⟩, .string ⟨#[]⟩, .string ⟨#[]⟩, .string ⟨#[]⟩] 95 (unhide HQ2) cs (unhide HLen) (fun hp => ⟨rfl, unhide HPos hp⟩) (unhide HFit) (unhide HOne) (w.heap.size + 1) _ (Below.refl _ _) (Nat.le_refl _) ?_; intro w3 HQ3 hb3)
  have hbb := ((Below.refl (w.heap.size + 1) ((w.alloc (.cells #[.string ⟨#[87]⟩, .slice P ps.length pc] 55)).alloc (.cells #[.string ⟨#[]⟩, .string ⟨#[]⟩, .string ⟨#[]⟩, .string ⟨#[]⟩] 95))).drew).trans hb3
  have hq3 : w3.heap[w.heap.size + 1]? = some (.cells #[.string (pt (⟨#[87]⟩, ps) 0), .string (pt (⟨#[87]⟩, ps) 1), .string (pt (⟨#[87]⟩, ps) 2), .string (pt (⟨#[87]⟩, ps) 3)] 95 (0, 0)) := by
    have := HQ3.out
    rw [unhide HSp] at this
    exact this
  have hb3' : Below w.heap.size w w3 := (unhide HB2).trans (hbb.mono (Nat.le_succ _))
  have hE3 : w3.heap[w.heap.size]? = some (.cells #[.string ⟨#[87]⟩, .slice P ps.length pc] 55 (0, 0)) := by
    rw [hbb.block _ (Nat.lt_succ_self _)]
    exact unhide HE2
  have e0 : w3.cell? ⟨w.heap.size, 0, none⟩ = some (.string ⟨#[87]⟩) := by rw [Lib.cell_of_heap hE3]; rfl
  have q0 : w3.cell? ⟨w.heap.size + 1, 0, none⟩ = some (.string (pt (⟨#[87]⟩, ps) 0)) := by rw [Lib.cell_of_heap hq3]; rfl
  have q1 : w3.cell? ⟨w.heap.size + 1, 1, none⟩ = some (.string (pt (⟨#[87]⟩, ps) 1)) := by rw [Lib.cell_of_heap hq3]; rfl
  have HR3 := hide ((unhide HR).below hb3')
  have HQ4 := hide hq3
  have HB3 := hide hb3'
  have HE3 := hide hE3
  clear HQ3 hb3 hbb hq3 hb3' hE3 e1 HB2 HQ2 HE2 HPos HOne HLen HFit HSp
  have m24 := (unhide HR3).cell 24
  have f24 := (unhide HR3).frz 24
  go_wp2_with (go_at_call 51; refine (mnumber_any _ _).mono ?_; rintro e wt ⟨rfl, rfl⟩)
  go_end0
  rw [rdE_87]
  exact ⟨rfl, ((unhide HR3).set (m' := { m with wgt := numV (pt (⟨#[87]⟩, ps) 1) }) 24 _ rfl rfl rfl)⟩

set_option maxHeartbeats 4000000 in
set_option maxRecDepth 100000 in
theorem rd_80 (w0 : World) (row : Option Nat) (b base M : Nat) (m : Msg) (A L P : Option Addr) (c d pc : Nat) (ps : List ByteArray) (w : World) (hR : Rdg w0 row b base M m A c L d w) (β : Nat) (hP : StrsIn β w P ps) :
    Calls Tryz.prog 24 #[.pointer (some ⟨M, 0, none⟩), .agg #[.string ⟨#[80]⟩, .slice P ps.length pc]] w fun e w' => e = .returned (.tuple #[]) ∧ Rdg w0 row b base M (readE m (one 80, ps)) A c L d w' := by
  have b1 := (Below.refl w.heap.size w).alloc (Nat.le_refl _) (.cells #[.string ⟨#[80]⟩, .slice P ps.length pc] 55)
  have b2 := below_new b1 (.cells #[.string ⟨#[]⟩, .string ⟨#[]⟩, .string ⟨#[]⟩, .string ⟨#[]⟩] 95)
  have hE2 := (heap_alloc_old (w.alloc (.cells #[.string ⟨#[80]⟩, .slice P ps.length pc] 55)) (.cells #[.string ⟨#[]⟩, .string ⟨#[]⟩, .string ⟨#[]⟩, .string ⟨#[]⟩] 95) (by rw [World.size_alloc]; exact Nat.lt_succ_self _)).trans (heap_alloc_new w _)
  have hQ2 := heap_alloc_new (w.alloc (.cells #[.string ⟨#[80]⟩, .slice P ps.length pc] 55)) (.cells #[.string ⟨#[]⟩, .string ⟨#[]⟩, .string ⟨#[]⟩, .string ⟨#[]⟩] 95)
  rw [World.size_alloc] at hQ2
  have e1 : ((w.alloc (.cells #[.string ⟨#[80]⟩, .slice P ps.length pc] 55)).alloc (.cells #[.string ⟨#[]⟩, .string ⟨#[]⟩, .string ⟨#[]⟩, .string ⟨#[]⟩] 95)).cell? ⟨w.heap.size, 1, none⟩ = some (.slice P ps.length pc) := by rw [Lib.cell_of_heap hE2]; rfl
  have HPos := hide (strs_pos (hP.keep b2))
  have HOne := hide (strs_one ps)
  have HLen := hide (show ((ps.take 4).map Value.string).length = Nat.min ps.length 4 by rw [List.length_map, List.length_take]; exact Nat.min_comm _ _)
  have HFit := hide (show 0 + ((ps.take 4).map Value.string).length ≤ 4 by rw [List.length_map, List.length_take]; omega)
  have HQ2 := hide hQ2
  have HB2 := hide b2
  have HE2 := hide hE2
  have HR := hide hR
  have HSp := hide (splice4 ⟨#[80]⟩ ps)
  generalize (ps.take 4).map Value.string = cs at *
  clear b1 b2 hE2 hQ2 hP hR
  go_enter Tryz.func24, Tryz.ntmps24
  go_wp2_with fail
  go_region_law (refine step_copy_splice rfl (.tmp 7) (.tmp 9) 53 53 rfl 9 Tryz.underlying53 info_str1 (some ⟨w.heap.size + 1, 0, none⟩) P 4 4 ps.length pc (by rfl) (by rfl) (w.heap.size + 1) 0 [.string ⟨#[]⟩, .string ⟨#[]⟩, .string ⟨#[]⟩, .string ⟨#[]⟩] 95 (unhide HQ2) cs (unhide HLen) (fun hp => ⟨rfl, unhide HPos hp⟩) (unhide HFit) (unhide HOne) (w.heap.size + 1) _ (Below.refl _ _) (Nat.le_refl _) ?_; intro w3 HQ3 hb3)
  have hbb := ((Below.refl (w.heap.size + 1) ((w.alloc (.cells #[.string ⟨#[80]⟩, .slice P ps.length pc] 55)).alloc (.cells #[.string ⟨#[]⟩, .string ⟨#[]⟩, .string ⟨#[]⟩, .string ⟨#[]⟩] 95))).drew).trans hb3
  have hq3 : w3.heap[w.heap.size + 1]? = some (.cells #[.string (pt (⟨#[80]⟩, ps) 0), .string (pt (⟨#[80]⟩, ps) 1), .string (pt (⟨#[80]⟩, ps) 2), .string (pt (⟨#[80]⟩, ps) 3)] 95 (0, 0)) := by
    have := HQ3.out
    rw [unhide HSp] at this
    exact this
  have hb3' : Below w.heap.size w w3 := (unhide HB2).trans (hbb.mono (Nat.le_succ _))
  have hE3 : w3.heap[w.heap.size]? = some (.cells #[.string ⟨#[80]⟩, .slice P ps.length pc] 55 (0, 0)) := by
    rw [hbb.block _ (Nat.lt_succ_self _)]
    exact unhide HE2
  have e0 : w3.cell? ⟨w.heap.size, 0, none⟩ = some (.string ⟨#[80]⟩) := by rw [Lib.cell_of_heap hE3]; rfl
  have q0 : w3.cell? ⟨w.heap.size + 1, 0, none⟩ = some (.string (pt (⟨#[80]⟩, ps) 0)) := by rw [Lib.cell_of_heap hq3]; rfl
  have q1 : w3.cell? ⟨w.heap.size + 1, 1, none⟩ = some (.string (pt (⟨#[80]⟩, ps) 1)) := by rw [Lib.cell_of_heap hq3]; rfl
  have HR3 := hide ((unhide HR).below hb3')
  have HQ4 := hide hq3
  have HB3 := hide hb3'
  have HE3 := hide hE3
  clear HQ3 hb3 hbb hq3 hb3' hE3 e1 HB2 HQ2 HE2 HPos HOne HLen HFit HSp
  have m25 := (unhide HR3).cell 25
  have f25 := (unhide HR3).frz 25
  have m26 := (unhide HR3).cell 26
  have f26 := (unhide HR3).frz 26
  go_wp2
  go_end0
  rw [rdE_80]
  exact ⟨rfl, (((unhide HR3).set (m' := { m with sur := pt (⟨#[80]⟩, ps) 0 }) 25 _ rfl rfl rfl).set (m' := { m with sur := pt (⟨#[80]⟩, ps) 0, giv := pt (⟨#[80]⟩, ps) 1 }) 26 _ rfl rfl rfl)⟩

set_option maxHeartbeats 4000000 in
set_option maxRecDepth 100000 in
theorem rd_88 (w0 : World) (row : Option Nat) (b base M : Nat) (m : Msg) (A L P : Option Addr) (c d pc : Nat) (ps : List ByteArray) (w : World) (hR : Rdg w0 row b base M m A c L d w) (β : Nat) (hP : StrsIn β w P ps) (hW : Words w) :
    Calls Tryz.prog 24 #[.pointer (some ⟨M, 0, none⟩), .agg #[.string ⟨#[88]⟩, .slice P ps.length pc]] w fun e w' => e = .returned (.tuple #[]) ∧ Rdg w0 row b base M (readE m (one 88, ps)) A c L d w' := by
  have b1 := (Below.refl w.heap.size w).alloc (Nat.le_refl _) (.cells #[.string ⟨#[88]⟩, .slice P ps.length pc] 55)
  have b2 := below_new b1 (.cells #[.string ⟨#[]⟩, .string ⟨#[]⟩, .string ⟨#[]⟩, .string ⟨#[]⟩] 95)
  have hE2 := (heap_alloc_old (w.alloc (.cells #[.string ⟨#[88]⟩, .slice P ps.length pc] 55)) (.cells #[.string ⟨#[]⟩, .string ⟨#[]⟩, .string ⟨#[]⟩, .string ⟨#[]⟩] 95) (by rw [World.size_alloc]; exact Nat.lt_succ_self _)).trans (heap_alloc_new w _)
  have hQ2 := heap_alloc_new (w.alloc (.cells #[.string ⟨#[88]⟩, .slice P ps.length pc] 55)) (.cells #[.string ⟨#[]⟩, .string ⟨#[]⟩, .string ⟨#[]⟩, .string ⟨#[]⟩] 95)
  rw [World.size_alloc] at hQ2
  have e1 : ((w.alloc (.cells #[.string ⟨#[88]⟩, .slice P ps.length pc] 55)).alloc (.cells #[.string ⟨#[]⟩, .string ⟨#[]⟩, .string ⟨#[]⟩, .string ⟨#[]⟩] 95)).cell? ⟨w.heap.size, 1, none⟩ = some (.slice P ps.length pc) := by rw [Lib.cell_of_heap hE2]; rfl
  have HPos := hide (strs_pos (hP.keep b2))
  have HOne := hide (strs_one ps)
  have HLen := hide (show ((ps.take 4).map Value.string).length = Nat.min ps.length 4 by rw [List.length_map, List.length_take]; exact Nat.min_comm _ _)
  have HFit := hide (show 0 + ((ps.take 4).map Value.string).length ≤ 4 by rw [List.length_map, List.length_take]; omega)
  have HQ2 := hide hQ2
  have HB2 := hide b2
  have HE2 := hide hE2
  have HR := hide hR
  have HSp := hide (splice4 ⟨#[88]⟩ ps)
  generalize (ps.take 4).map Value.string = cs at *
  clear b1 b2 hE2 hQ2 hP hR
  go_enter Tryz.func24, Tryz.ntmps24
  go_wp2_with fail
  go_region_law (refine step_copy_splice rfl (.tmp 7) (.tmp 9) 53 53 rfl 9 Tryz.underlying53 info_str1 (some ⟨w.heap.size + 1, 0, none⟩) P 4 4 ps.length pc (by rfl) (by rfl) (w.heap.size + 1) 0 [.string ⟨#[]⟩, .string ⟨#[]⟩, .string ⟨#[]⟩, .string ⟨#[]⟩] 95 (unhide HQ2) cs (unhide HLen) (fun hp => ⟨rfl, unhide HPos hp⟩) (unhide HFit) (unhide HOne) (w.heap.size + 1) _ (Below.refl _ _) (Nat.le_refl _) ?_; intro w3 HQ3 hb3)
  have hbb := ((Below.refl (w.heap.size + 1) ((w.alloc (.cells #[.string ⟨#[88]⟩, .slice P ps.length pc] 55)).alloc (.cells #[.string ⟨#[]⟩, .string ⟨#[]⟩, .string ⟨#[]⟩, .string ⟨#[]⟩] 95))).drew).trans hb3
  have hq3 : w3.heap[w.heap.size + 1]? = some (.cells #[.string (pt (⟨#[88]⟩, ps) 0), .string (pt (⟨#[88]⟩, ps) 1), .string (pt (⟨#[88]⟩, ps) 2), .string (pt (⟨#[88]⟩, ps) 3)] 95 (0, 0)) := by
    have := HQ3.out
    rw [unhide HSp] at this
    exact this
  have hb3' : Below w.heap.size w w3 := (unhide HB2).trans (hbb.mono (Nat.le_succ _))
  have hE3 : w3.heap[w.heap.size]? = some (.cells #[.string ⟨#[88]⟩, .slice P ps.length pc] 55 (0, 0)) := by
    rw [hbb.block _ (Nat.lt_succ_self _)]
    exact unhide HE2
  have e0 : w3.cell? ⟨w.heap.size, 0, none⟩ = some (.string ⟨#[88]⟩) := by rw [Lib.cell_of_heap hE3]; rfl
  have q0 : w3.cell? ⟨w.heap.size + 1, 0, none⟩ = some (.string (pt (⟨#[88]⟩, ps) 0)) := by rw [Lib.cell_of_heap hq3]; rfl
  have q1 : w3.cell? ⟨w.heap.size + 1, 1, none⟩ = some (.string (pt (⟨#[88]⟩, ps) 1)) := by rw [Lib.cell_of_heap hq3]; rfl
  have HR3 := hide ((unhide HR).below hb3')
  have HQ4 := hide hq3
  have HB3 := hide hb3'
  have HE3 := hide hE3
  clear HQ3 hb3 hbb hq3 hb3' hE3 e1 HB2 HQ2 HE2 HPos HOne HLen HFit HSp
  have HWd := hide (hW.keep (unhide HB3))
  clear hW
  have m27 := (unhide HR3).cell 27
  have f27 := (unhide HR3).frz 27
  go_wp2_with (go_at_call 23; refine (find_3 _ _ (unhide HWd)).mono ?_; rintro e wt ⟨rfl, rfl⟩)
  go_end0
  rw [rdE_88]
  exact ⟨rfl, ((unhide HR3).set (m' := { m with exc := findW wExc (-1) (pt (⟨#[88]⟩, ps) 0) }) 27 _ rfl rfl rfl)⟩

set_option maxHeartbeats 4000000 in
set_option maxRecDepth 100000 in
theorem rd_74 (w0 : World) (row : Option Nat) (b base M : Nat) (m : Msg) (A L P : Option Addr) (c d pc : Nat) (ps : List ByteArray) (w : World) (hR : Rdg w0 row b base M m A c L d w) (β : Nat) (hP : StrsIn β w P ps) :
    Calls Tryz.prog 24 #[.pointer (some ⟨M, 0, none⟩), .agg #[.string ⟨#[74]⟩, .slice P ps.length pc]] w fun e w' => e = .returned (.tuple #[]) ∧ Rdg w0 row b base M (readE m (one 74, ps)) A c L d w' := by
  have b1 := (Below.refl w.heap.size w).alloc (Nat.le_refl _) (.cells #[.string ⟨#[74]⟩, .slice P ps.length pc] 55)
  have b2 := below_new b1 (.cells #[.string ⟨#[]⟩, .string ⟨#[]⟩, .string ⟨#[]⟩, .string ⟨#[]⟩] 95)
  have hE2 := (heap_alloc_old (w.alloc (.cells #[.string ⟨#[74]⟩, .slice P ps.length pc] 55)) (.cells #[.string ⟨#[]⟩, .string ⟨#[]⟩, .string ⟨#[]⟩, .string ⟨#[]⟩] 95) (by rw [World.size_alloc]; exact Nat.lt_succ_self _)).trans (heap_alloc_new w _)
  have hQ2 := heap_alloc_new (w.alloc (.cells #[.string ⟨#[74]⟩, .slice P ps.length pc] 55)) (.cells #[.string ⟨#[]⟩, .string ⟨#[]⟩, .string ⟨#[]⟩, .string ⟨#[]⟩] 95)
  rw [World.size_alloc] at hQ2
  have e1 : ((w.alloc (.cells #[.string ⟨#[74]⟩, .slice P ps.length pc] 55)).alloc (.cells #[.string ⟨#[]⟩, .string ⟨#[]⟩, .string ⟨#[]⟩, .string ⟨#[]⟩] 95)).cell? ⟨w.heap.size, 1, none⟩ = some (.slice P ps.length pc) := by rw [Lib.cell_of_heap hE2]; rfl
  have HPos := hide (strs_pos (hP.keep b2))
  have HOne := hide (strs_one ps)
  have HLen := hide (show ((ps.take 4).map Value.string).length = Nat.min ps.length 4 by rw [List.length_map, List.length_take]; exact Nat.min_comm _ _)
  have HFit := hide (show 0 + ((ps.take 4).map Value.string).length ≤ 4 by rw [List.length_map, List.length_take]; omega)
  have HQ2 := hide hQ2
  have HB2 := hide b2
  have HE2 := hide hE2
  have HR := hide hR
  have HSp := hide (splice4 ⟨#[74]⟩ ps)
  generalize (ps.take 4).map Value.string = cs at *
  clear b1 b2 hE2 hQ2 hP hR
  go_enter Tryz.func24, Tryz.ntmps24
  go_wp2_with fail
  go_region_law (refine step_copy_splice rfl (.tmp 7) (.tmp 9) 53 53 rfl 9 Tryz.underlying53 info_str1 (some ⟨w.heap.size + 1, 0, none⟩) P 4 4 ps.length pc (by rfl) (by rfl) (w.heap.size + 1) 0 [.string ⟨#[]⟩, .string ⟨#[]⟩, .string ⟨#[]⟩, .string ⟨#[]⟩] 95 (unhide HQ2) cs (unhide HLen) (fun hp => ⟨rfl, unhide HPos hp⟩) (unhide HFit) (unhide HOne) (w.heap.size + 1) _ (Below.refl _ _) (Nat.le_refl _) ?_; intro w3 HQ3 hb3)
  have hbb := ((Below.refl (w.heap.size + 1) ((w.alloc (.cells #[.string ⟨#[74]⟩, .slice P ps.length pc] 55)).alloc (.cells #[.string ⟨#[]⟩, .string ⟨#[]⟩, .string ⟨#[]⟩, .string ⟨#[]⟩] 95))).drew).trans hb3
  have hq3 : w3.heap[w.heap.size + 1]? = some (.cells #[.string (pt (⟨#[74]⟩, ps) 0), .string (pt (⟨#[74]⟩, ps) 1), .string (pt (⟨#[74]⟩, ps) 2), .string (pt (⟨#[74]⟩, ps) 3)] 95 (0, 0)) := by
    have := HQ3.out
    rw [unhide HSp] at this
    exact this
  have hb3' : Below w.heap.size w w3 := (unhide HB2).trans (hbb.mono (Nat.le_succ _))
  have hE3 : w3.heap[w.heap.size]? = some (.cells #[.string ⟨#[74]⟩, .slice P ps.length pc] 55 (0, 0)) := by
    rw [hbb.block _ (Nat.lt_succ_self _)]
    exact unhide HE2
  have e0 : w3.cell? ⟨w.heap.size, 0, none⟩ = some (.string ⟨#[74]⟩) := by rw [Lib.cell_of_heap hE3]; rfl
  have q0 : w3.cell? ⟨w.heap.size + 1, 0, none⟩ = some (.string (pt (⟨#[74]⟩, ps) 0)) := by rw [Lib.cell_of_heap hq3]; rfl
  have q1 : w3.cell? ⟨w.heap.size + 1, 1, none⟩ = some (.string (pt (⟨#[74]⟩, ps) 1)) := by rw [Lib.cell_of_heap hq3]; rfl
  have HR3 := hide ((unhide HR).below hb3')
  have HQ4 := hide hq3
  have HB3 := hide hb3'
  have HE3 := hide hE3
  clear HQ3 hb3 hbb hq3 hb3' hE3 e1 HB2 HQ2 HE2 HPos HOne HLen HFit HSp
  have m28 := (unhide HR3).cell 28
  have f28 := (unhide HR3).frz 28
  go_wp2
  go_end0
  rw [rdE_74]
  exact ⟨rfl, ((unhide HR3).set (m' := { m with node := pt (⟨#[74]⟩, ps) 0 }) 28 _ rfl rfl rfl)⟩

end Go.Proofs.YtglgobmmmghdoaaGreatDoor
