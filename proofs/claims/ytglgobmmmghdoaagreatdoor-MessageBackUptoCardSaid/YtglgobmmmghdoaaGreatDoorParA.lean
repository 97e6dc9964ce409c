/-
  Contract of parseElement: a line as an element.
-/
import Derived.Test.YtglgobmmmghdoaaGreatDoorParM
import Derived.Test.YtglgobmmmghdoaaGreatDoorTelK
import Derived.Test.YtglgobmmmghdoaaGreatDoorTelB
import Derived.Deep.RegionLaw
namespace Go.Proofs.YtglgobmmmghdoaaGreatDoor
open Go.RowKit

theorem strRow_split {b : Nat} {w : World} {ps : List ByteArray} (hb : b < w.heap.size) : StrRow b (w.alloc (.cells (ps.map Value.string).toArray 9)) (some ⟨w.heap.size, 0, none⟩) ps := fun _ =>
  ⟨w.heap.size, _, _, rfl, by omega, heap_alloc_new w _, fun i hi => by
    rw [List.getElem?_toArray, List.getElem?_map, List.getElem?_eq_getElem hi, at_k hi]; rfl⟩

theorem fel_after {b : Nat} {key : ByteArray} {ps : List ByteArray} {A : Option Addr} {c : Nat} {W : World} (hS : SmallE (key, ps)) (h : StrsIn b W A ps) {x : Bool} (hx : felB (key, ps) = x) (t : After W) :
    Calls Tryz.prog 58 #[.agg #[.string key, .slice A ps.length c]] t.to fun e w' => e = .returned (.bool x) ∧ Below t.to.heap.size t.to w' := by
  subst hx
  exact fel_any b key ps A c t.to hS (h.keep t.is)

theorem cut47_any (s : ByteArray) (w : World) (hs : s.size ≤ 2048) :
    Calls Tryz.prog 29 #[.string s, .string ⟨#[47]⟩] w fun e w' => e = .returned (.tuple #[.string (peHead s), .string (peRest s), .bool (peCut s)]) ∧ Below w.heap.size w w' := by
  rcases cutC_cases 47 s with hc | ⟨k, hc, hk⟩
  · obtain ⟨h1, h2, h3⟩ := pe_miss hc
    rw [h1, h2, h3]
    exact cutc_miss 47 s _ hc
  · obtain ⟨h1, h2, h3⟩ := pe_hit hc
    rw [h1, h2, h3]
    exact cutc_hit 47 s k _ (by unfold maxLen; omega) hc hk
theorem peRest_size (s : ByteArray) : (peRest s).size ≤ s.size := by
  unfold peRest
  split
  · simp
  · simp

set_option maxHeartbeats 2000000 in
theorem parse_el (b : Nat) (s : ByteArray) (w : World) (hb : b < w.heap.size) (hs : s.size ≤ 2048) (hsm : SmallE (peEl s)) :
    Calls Tryz.prog 85 #[.string s] w fun e w' => ∃ g, e = .returned (.tuple #[.agg #[.string (peEl s).1, .slice (some ⟨g, 0, none⟩) (peEl s).2.length (peEl s).2.length], .bool (peOk s)]) ∧ StrRow b w' (some ⟨g, 0, none⟩) (peEl s).2 ∧ Below w.heap.size w w' := by
  obtain ⟨K, ps, hE⟩ : ∃ K ps, peEl s = (K, ps) := ⟨_, _, rfl⟩
  have hK : (⟨(Lib.trimPrefix (peHead s).data.toList [46]).toArray⟩ : ByteArray) = K := congrArg Prod.fst hE
  have hP : splitC 47 (peRest s) = ps := congrArg Prod.snd hE
  rw [hE] at hsm ⊢
  have HE := hide hE
  clear hE
  simp only []
  have b0 := (Below.refl w.heap.size w).alloc (Nat.le_refl _) (.cells #[.string ⟨#[]⟩, .slice none 0 0] 55)
  have h0 := heap_alloc_new w (.cells #[.string ⟨#[]⟩, .slice none 0 0] 55)
  have hsz : w.heap.size < (w.alloc (.cells #[.string ⟨#[]⟩, .slice none 0 0] 55)).heap.size := by rw [World.size_alloc]; omega
  have HSM := hide hsm
  clear hsm
  go_enter Tryz.func85, Tryz.ntmps85
  go_wp2_with fail
  generalize w.alloc (.cells #[.string ⟨#[]⟩, .slice none 0 0] 55) = W0 at *
  refine (cut47_any s _ hs).mono ?_
  rintro e w1 ⟨rfl, hb1⟩
  have hr1 := (hb1.block w.heap.size hsz).trans h0
  have bb1 := b0.trans (hb1.mono b0.size)
  clear hb1 h0 b0 hsz
  have hrs := Nat.le_trans (peRest_size s) hs
  go_wp2_with fail
  refine (Tryz.strings_CutPrefix (peHead s) ⟨#[46]⟩ _).mono ?_
  rintro e w2 ⟨rfl, rfl⟩
  rw [show (Lib.trimPrefix (peHead s).data.toList (⟨#[46]⟩ : ByteArray).data.toList) = Lib.trimPrefix (peHead s).data.toList [46] from rfl, hK,
    show Lib.hasPrefix (peHead s).data.toList (⟨#[46]⟩ : ByteArray).data.toList = peDot s from rfl]
  go_wp2_with fail
  refine (splitc_any 47 (peRest s) _ (by omega)).mono ?_
  rintro e w3 ⟨rfl, hw3⟩
  rw [hP] at hw3 ⊢
  have hbig : ps.length = ps.length := rfl
  have hbw : b < w2.heap.size := Nat.lt_of_lt_of_le hb bb1.size
  have hrow := strRow_split (b := b) (ps := ps) hbw
  have b3 := (Below.refl w2.heap.size w2).alloc (Nat.le_refl _) (.cells (ps.map Value.string).toArray 9)
  rw [← hw3] at hrow b3
  have hr3 := (b3.block w.heap.size (Array.getElem?_eq_some_iff.1 hr1).1).trans hr1
  have bb3 := bb1.trans (b3.mono bb1.size)
  have hgs : w2.heap.size < w3.heap.size := by rw [hw3, World.size_alloc]; omega
  have HROW := hide hrow
  have HBB := hide bb3
  have HR3 := hide hr3
  clear hw3 hbig hrow b3 bb1 hr1 bb3 hr3 hP hK hbw
  generalize w2.heap.size = g at *
  have bx := (Below.refl w3.heap.size w3).alloc (Nat.le_refl _) (.cells #[.string K, .slice (some ⟨g, 0, none⟩) ps.length ps.length] 55)
  have hx := heap_alloc_new w3 (.cells #[.string K, .slice (some ⟨g, 0, none⟩) ps.length ps.length] 55)
  have HR4 := hide ((bx.block w.heap.size (Array.getElem?_eq_some_iff.1 (unhide HR3)).1).trans (unhide HR3))
  have HROW4 := hide ((unhide HROW).step (KeepS.below (b := b) bx))
  have HBB4 := hide ((unhide HBB).trans (bx.mono (unhide HBB).size))
  have hxr : w.heap.size < w3.heap.size := (Array.getElem?_eq_some_iff.1 (unhide HR3)).1
  have hxn : w3.heap.size ≠ w.heap.size := by omega
  have hx' := hide hx
  clear hx bx
  go_wp2_with fail
  generalize w3.alloc (.cells #[.string K, .slice (some ⟨g, 0, none⟩) ps.length ps.length] 55) = W1 at *
  generalize w3.heap.size = x at *
  have x0 : W1.cell? ⟨x, 0, none⟩ = some (.string K) := Lib.cell_of_heap (unhide hx') 0
  have x1 : W1.cell? ⟨x, 1, none⟩ = some (.slice (some ⟨g, 0, none⟩) ps.length ps.length) := Lib.cell_of_heap (unhide hx') 1
  have r0 : W1.cell? ⟨w.heap.size, 0, none⟩ = some (.string ⟨#[]⟩) := Lib.cell_of_heap (unhide HR4) 0
  have r1 : W1.cell? ⟨w.heap.size, 1, none⟩ = some (.slice none 0 0) := Lib.cell_of_heap (unhide HR4) 1
  have f0 : W1.frozen? ⟨w.heap.size, 0, none⟩ = false := Lib.frozen_of_heap (unhide HR4) 0
  have f1 : W1.frozen? ⟨w.heap.size, 1, none⟩ = false := Lib.frozen_of_heap (unhide HR4) 1
  have HD := hide (show peOk s = (peDot s && (peCut s && felB (K, ps))) by unfold peOk; rw [unhide HE])
  have finish : ∀ W : World, Below W1.heap.size W1 W → ∀ y, peOk s = y → ∃ g1, Ending.returned (.tuple #[.agg #[.string K, .slice (some ⟨g, 0, none⟩) ps.length ps.length], .bool y]) = Ending.returned (.tuple #[.agg #[.string K, .slice (some ⟨g1, 0, none⟩) ps.length ps.length], .bool (peOk s)]) ∧ StrRow b ((W.setCell ⟨w.heap.size, 0, none⟩ (.string K)).setCell ⟨w.heap.size, 1, none⟩ (.slice (some ⟨g, 0, none⟩) ps.length ps.length)) (some ⟨g1, 0, none⟩) ps ∧ Below w.heap.size w ((W.setCell ⟨w.heap.size, 0, none⟩ (.string K)).setCell ⟨w.heap.size, 1, none⟩ (.slice (some ⟨g, 0, none⟩) ps.length ps.length)) := by
    intro W hW y hy
    have hg2 := Lib.grownBy_setB (Lib.grownBy_setB (World.grownBy.refl W (some w.heap.size)) 0 (.string K)) 1 (.slice (some ⟨g, 0, none⟩) ps.length ps.length)
    have hr := (hW.block w.heap.size (Array.getElem?_eq_some_iff.1 (unhide HR4)).1).trans (unhide HR4)
    refine ⟨g, by rw [hy], ((unhide HROW4).step (KeepS.below hW)).step (KeepS.other hg2 hr (by decide)), ?_⟩
    exact (((unhide HBB4).trans (hW.mono (unhide HBB4).size)).setCell (p := ⟨w.heap.size, 0, none⟩) (Nat.le_refl _) _).setCell (p := ⟨w.heap.size, 1, none⟩) (Nat.le_refl _) _
  cases h1 : peDot s <;> cases h2 : peCut s
  case true.true =>
    cases h3 : felB (K, ps)
    all_goals
      have H3 := hide h3
      clear h3
      go_region_held3 (fun z => z.cell? ⟨x, 0, none⟩ = some (.string K) ∧ z.cell? ⟨x, 1, none⟩ = some (.slice (some ⟨g, 0, none⟩) ps.length ps.length))
        (first | exact ⟨x0, x1⟩ | exact ⟨y0, y1⟩ | (exact ⟨(World.cell?_setCell_other _ _ _ _ (fun e => hxn (congrArg Addr.block e).symm)).trans ((World.cell?_setCell_other _ _ _ _ (fun e => hxn (congrArg Addr.block e).symm)).trans y0), (World.cell?_setCell_other _ _ _ _ (fun e => hxn (congrArg Addr.block e).symm)).trans ((World.cell?_setCell_other _ _ _ _ (fun e => hxn (congrArg Addr.block e).symm)).trans y1)⟩))
        (first
          | (go_at_call 58
             refine (fel_any b K ps _ _ _ (unhide HSM) (show StrsIn b W1.drew _ _ from (unhide HROW4).strs)).mono ?_
             rw [unhide H3]
             rintro e w4 ⟨rfl, hb4⟩
             have y0 := kept hb4 x0
             have y1 := kept hb4 x1
             have s0 := kept hb4 r0
             have s1 := kept hb4 r1
             have t0 := frz hb4 (World.block_lt_of_cell? _ _ r0) f0
             have t1 := frz hb4 (World.block_lt_of_cell? _ _ r1) f1
             have HB4 := hide (show Below W1.heap.size W1 w4 from (Below.refl W1.heap.size W1).drew.trans hb4)
             clear hb4))
    all_goals
      go_wp2
    · refine bodyPost_ret (v := .tuple #[.agg #[.string K, .slice (some ⟨g, 0, none⟩) ps.length ps.length], .bool false]) ?_ rfl ?_
      · simp [results, go_sem, s0, s1]
      · exact finish w4 (unhide HB4) false (by rw [unhide HD, h1, h2, unhide H3] <;> rfl)
    · refine bodyPost_ret (v := .tuple #[.agg #[.string K, .slice (some ⟨g, 0, none⟩) ps.length ps.length], .bool true]) ?_ rfl ?_
      · simp [results, go_sem, s0, s1]
      · exact finish w4 (unhide HB4) true (by rw [unhide HD, h1, h2, unhide H3] <;> rfl)
  all_goals
    first | go_region_law (fail) | fail
    all_goals
      go_wp2
      refine bodyPost_ret (v := .tuple #[.agg #[.string K, .slice (some ⟨g, 0, none⟩) ps.length ps.length], .bool false]) ?_ rfl ?_
      · simp [results, go_sem, r0, r1]
      · obtain ⟨g1, q1, q2, q3⟩ := finish W1 (Below.refl _ _) false (by rw [unhide HD, h1, h2] <;> rfl)
        exact ⟨g1, q1, q2, q3.drew⟩
end Go.Proofs.YtglgobmmmghdoaaGreatDoor
