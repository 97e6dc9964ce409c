/-
  Lanes (layer 17): what the laws want of the program's functions; the statements' own times and awake.
-/
import Derived.Test.YtmmhchhekmcihaaLanB
namespace Go.Proofs.Ytmmhchhekmcihaa
open Go.RowKit

/-- A list of numbers that fits. -/
structure SmL (X : List Int) : Prop where
  len : X.length ≤ 1000
  wf : ∀ x ∈ X, (Lit.int .i64 x).wf = true
/-- What a call that returns numbers gives: rows that are in no block that stood before. -/
def GivesR (w : World) (l : List Nat) (w' : World) (A : Option Addr) (c : Nat) : Prop := (∀ b, b < w.heap.size ∨ w'.heap.size ≤ b → NumsIn b w' A (nI l)) ∧ Below w.heap.size w w' ∧ l.length ≤ c
structure LanOk : Prop where
  assign : ∀ (b : Nat) (due : List Int) (A : Option Addr) (c : Nat) (w : World), SmL due → due.length ≤ c → NumsIn b w A due → Calls Try.prog 11 #[.slice A due.length c] w fun e w' => ∃ A' c', e = .returned (.tuple #[.slice A' (asgR due).length c', .int .i64 (valE due)]) ∧ GivesR w (asgR due) w' A' c'
  count : ∀ (b : Nat) (due : List Int) (A : Option Addr) (c : Nat) (w : World), SmL due → due.length ≤ c → NumsIn b w A due → Calls Try.prog 14 #[.slice A due.length c] w fun e w' => e = .returned (.int .i64 (cntR due : Nat)) ∧ Below w.heap.size w w'
  chain : ∀ (b : Nat) (due : List Int) (A : Option Addr) (c : Nat) (w : World), SmL due → due.length ≤ c → NumsIn b w A due → Calls Try.prog 16 #[.slice A due.length c] w fun e w' => ∃ A' c', e = .returned (.slice A' (chnR due).length c') ∧ GivesR w (chnR due) w' A' c'
  check : ∀ (b : Nat) (due l : List Int) (A A' : Option Addr) (c c' : Nat) (w : World), SmL due → SmL l → due.length ≤ c → l.length ≤ c' → NumsIn b w A due → NumsIn b w A' l → Calls Try.prog 18 #[.slice A due.length c, .slice A' l.length c'] w fun e w' => e = .returned (.int .i64 (chkE due l)) ∧ Below w.heap.size w w'
theorem lit_in {b : Nat} {w : World} (l : List Int) (h : w.heap.size ≠ b) : NumsIn b (w.alloc (.cells (l.map (Value.int .i64)).toArray 3)) (some ⟨w.heap.size, 0, none⟩) l := fun _ => by
  refine ⟨w.heap.size, 0, rfl, h, fun i hi => ?_⟩
  rw [Nat.zero_add, Lib.cell_of_heap (heap_alloc_new w _), List.getElem?_toArray, List.getElem?_map, List.getElem?_eq_getElem hi, at_k hi]; rfl
theorem small_wf {l : List Int} {m : Int} (hm : m ≤ 1000000000000) (h : ∀ x ∈ l, 0 ≤ x ∧ x ≤ m) : ∀ x ∈ l, (Lit.int .i64 x).wf = true := fun x hx => WalkArith.wf_i64 (by have := h x hx; omega)
def ex17 : List Int := [5, 3, 4, 1]
theorem ex17_val : valE ex17 = 0 ∧ asgR ex17 = [0, 1, 1, 2] ∧ chnR ex17 = [0, 2, 3] ∧ cntR ex17 = 3 := by decide +kernel
theorem ex17_sm : SmL ex17 := ⟨by decide, small_wf (m := 10) (by omega) (by decide)⟩
set_option maxHeartbeats 2000000 in
set_option maxRecDepth 100000 in
theorem awake_lan (P : LanOk) (w : World) : Calls Try.prog 9 #[] w fun e w' => e = .returned (.bool true) ∧ Below w.heap.size w w' := by
  have HP := hide P
  obtain ⟨v1, v2, v3, v4⟩ := ex17_val
  have HA := hide (fun W => (unhide HP).assign (W.heap.size + 1) ex17 (some ⟨W.heap.size, 0, none⟩) 4 _ ex17_sm (Nat.le_refl _) (lit_in (w := W) ex17 (by omega)))
  have HC := hide (fun W => (unhide HP).chain (W.heap.size + 1) ex17 (some ⟨W.heap.size, 0, none⟩) 4 _ ex17_sm (Nat.le_refl _) (lit_in (w := W) ex17 (by omega)))
  have HN := hide (fun W => (unhide HP).count (W.heap.size + 1) ex17 (some ⟨W.heap.size, 0, none⟩) 4 _ ex17_sm (Nat.le_refl _) (lit_in (w := W) ex17 (by omega)))
  rw [v1, v2] at HA
  rw [v3] at HC
  rw [v4] at HN
  have HA := hide (unhide HA)
  have HC := hide (unhide HC)
  have HN := hide (unhide HN)
  clear P v1 v2 v3 v4
  go_enter Try.func9, Try.ntmps9
  go_wp2_with fail
  refine ((unhide HA) w).mono ?_
  rintro e w2 ⟨A2, c2, rfl, hr2, hb2, _⟩
  have HB2 := hide (onward ((Below.refl w.heap.size w).alloc (Nat.le_refl _) _) hb2)
  have HR2 := hide (hr2 0 (.inl (by rw [World.size_alloc]; omega)))
  have hp2 : 0 < w2.heap.size := by have := hb2.size; rw [World.size_alloc] at this; omega
  have HP2 := hide hp2
  clear hr2 hb2 hp2
  go_wp2_with fail
  have b3 := (Below.refl w2.heap.size w2).alloc (Nat.le_refl _) (.cells (([0, 1, 1, 2] : List Int).map (Value.int .i64)).toArray 3)
  refine (kints_any 0 (nI [0, 1, 1, 2]) [0, 1, 1, 2] A2 (some ⟨w2.heap.size, 0, none⟩) c2 4 _ (by decide) ((unhide HR2).keep b3) (lit_in (w := w2) [0, 1, 1, 2] (by have := unhide HP2; omega))).mono ?_
  rw [show decide (nI [0, 1, 1, 2] = [0, 1, 1, 2]) = true from rfl]
  rintro e w3 ⟨rfl, hb3⟩
  have HB3 := hide (onward (onward (unhide HB2) b3) hb3)
  have HP3 := hide (show 0 < w3.heap.size from by have h1 := b3.size; have h2 := hb3.size; have := unhide HP2; omega)
  clear b3 hb3 HB2 HR2
  go_wp2_with fail
  refine ((unhide HC) w3).mono ?_
  rintro e w4 ⟨A4, c4, rfl, hr4, hb4, _⟩
  have HB4 := hide (onward (onward (unhide HB3) ((Below.refl w3.heap.size w3).alloc (Nat.le_refl _) _)) hb4)
  have HR4 := hide (hr4 0 (.inl (by rw [World.size_alloc]; omega)))
  have HP4 := hide (show 0 < w4.heap.size from by have := hb4.size; rw [World.size_alloc] at this; omega)
  clear hr4 hb4 HB3
  go_wp2_with fail
  have b5 := (Below.refl w4.heap.size w4).alloc (Nat.le_refl _) (.cells (([0, 2, 3] : List Int).map (Value.int .i64)).toArray 3)
  refine (kints_any 0 (nI [0, 2, 3]) [0, 2, 3] A4 (some ⟨w4.heap.size, 0, none⟩) c4 3 _ (by decide) ((unhide HR4).keep b5) (lit_in (w := w4) [0, 2, 3] (by have := unhide HP4; omega))).mono ?_
  rw [show decide (nI [0, 2, 3] = [0, 2, 3]) = true from rfl]
  rintro e w5 ⟨rfl, hb5⟩
  have HB5 := hide (onward (onward (unhide HB4) b5) hb5)
  clear b5 hb5 HB4 HR4
  go_wp2_with fail
  refine ((unhide HN) w5).mono ?_
  rintro e w6 ⟨rfl, hb6⟩
  have HB6 := hide (onward (onward (unhide HB5) ((Below.refl w5.heap.size w5).alloc (Nat.le_refl _) _)) hb6)
  clear hb6 HB5
  go_wp2
  go_ret
  exact ⟨rfl, unhide HB6⟩
/-- What times gives: at most twenty-nine small numbers, in a row of the call's own. -/
def TimesTo (w : World) (e : Ending) (w' : World) : Prop := ∃ (T : List Int) (A : Option Addr) (c : Nat), T.length ≤ 29 ∧ (∀ x ∈ T, 0 ≤ x ∧ x ≤ 11) ∧ e = .returned (.slice A T.length c) ∧ w'.ownsRow (w.heap.size + 1) 3 1 (.slice A T.length c) T.length (T.map (Value.int .i64)) ∧ Below w.heap.size w w' ∧ w.heap.size < w'.heap.size
set_option maxHeartbeats 2000000 in
set_option maxRecDepth 100000 in
theorem times_any (A0 : Option Addr) (n0 c0 : Nat) (w : World) (hc : n0 ≤ c0) (hA : IntsIn w.heap.size w A0 n0) : Calls Try.prog 10 #[.slice A0 n0 c0] w (TimesTo w) := by
  have HNew := hide (new_any A0 n0 c0 w hc hA)
  obtain ⟨i0, hi, hz0, hz1, hz2⟩ := info_parts linfo_int
  have HI0 := hide hi
  have HZ0 := hide hz0
  have HZ1 := hide hz1
  have HZ2 := hide hz2
  clear hi hz0 hz1 hz2 hA
  go_enter Try.func10, Try.ntmps10
  go_wp2_with fail
  refine (unhide HNew).mono ?_
  rintro e w1 ⟨rfl, hs1, hb1⟩
  have HS1 := hide hs1
  have HB1 := hide hb1
  clear hs1 hb1 HNew
  go_wp2_with fail
  refine (n_any _ _ 30 _ (unhide HS1) (by omega) (by omega)).mono ?_
  rintro e w2 ⟨v, rfl, v0, v1, hs2, hg2⟩
  obtain ⟨m, rfl⟩ := Int.eq_ofNat_of_zero_le v0
  have H0 := hide (show Src w.heap.size w.heap.size w2 ∧ Below w.heap.size w w2 ∧ w2.ownsRow (w.heap.size + 1) 3 1 (.slice none 0 0) 0 (([] : List Int).map (Value.int .i64)) ∧ ∀ x ∈ ([] : List Int), 0 ≤ x ∧ x ≤ 11 from
    ⟨hs2, below_reads (unhide HB1) hg2 (Nat.le_refl _) (unhide HB1).size, World.ownsRow_nil _ _ _ _, fun x hx => by cases hx⟩)
  have hm : m ≤ 29 := by omega
  clear hs2 hg2 HS1 HB1 v0 v1
  go_wp2_with fail
  go_loopw [4, 5] (fun s4 s5 wr => ∃ (i : Nat) (T : List Int) (A : Option Addr) (c : Nat), T.length + i ≤ 29 ∧ s4 = .slice A T.length c ∧ s5 = .int .i64 i ∧ Hid (Src w.heap.size w.heap.size wr ∧ Below w.heap.size w wr ∧ wr.ownsRow (w.heap.size + 1) 3 1 (.slice A T.length c) T.length (T.map (Value.int .i64)) ∧ ∀ x ∈ T, 0 ≤ x ∧ x ≤ 11)) (fun _ s5 _ => (intOf s5).toNat)
  case atStart => exact ⟨m, [], none, 0, by simpa using hm, rfl, rfl, H0⟩
  case round =>
    obtain ⟨i, T, A, c, hi, rfl, rfl, HP⟩ := hrel
    obtain ⟨wo, rfl⟩ : ∃ wo : World, wo = wr := ⟨_, rfl⟩
    clear H0 hm
    by_cases hlt : 0 < i
    · have il : (0 : Int) < (i : Int) := by omega
      go_wp2_with fail
      refine (n_any _ _ 12 _ (unhide HP).1 (by omega) (by omega)).mono ?_
      rintro e wn ⟨x, rfl, x0, x1, hs, hg⟩
      have bx := (Below.refl wn.heap.size wn).alloc (Nat.le_refl _) (.cells #[.int .i64 x] 3)
      have hbn := below_reads (unhide HP).2.1 hg (Nat.le_refl _) (unhide HP).2.1.size
      have HS2 := hide (hs.keep bx)
      have HB2 := hide (onward hbn bx)
      have HO2 := hide (owns_later ((unhide HP).2.2.1.kept hg (.inr (fun e => by have := ((unhide HP).2.2.1.lt _ e).1; omega))) bx)
      have HNw := hide (World.news_of_block (heap_alloc_new wn (.cells #[.int .i64 x] 3)))
      have HSm := hide (show ∀ y ∈ T ++ [x], 0 ≤ y ∧ y ≤ 11 from fun y hy => by
        rcases List.mem_append.1 hy with hy | hy
        · exact (unhide HP).2.2.2 y hy
        · rw [List.mem_singleton.1 hy]; omega)
      have hz2 : w.heap.size + 1 ≤ (wn.alloc (.cells #[.int .i64 x] 3)).heap.size := by rw [World.size_alloc]; have := hbn.size; omega
      have hw : IntKind.i64.wrap ((i : Int) - 1) = ((i - 1 : Nat) : Int) := by rw [IntKind.wrap_i64]; omega
      clear hs hg bx hbn HP
      go_wp2_with (at_builtin; refine wpList_append_lies _ rfl _ _ 22 rfl (w.heap.size + 1) 3 i0 (.int .i64 0) 1 8 Try.underlying22 (unhide HI0) (unhide HZ0) (unhide HZ1) (unhide HZ2) rfl (by decide) _ _ _ rfl (unhide HO2) ⟨wn.heap.size, 0, none⟩ 1 1 [.int .i64 x] rfl rfl (unhide HNw) (fun u hu => by rw [List.mem_singleton.1 hu]; rfl) (by decide) (by unfold maxLen; omega) (by omega) hz2 _ rfl ?_)
      intro q cap' w6 hown hgrow hat hlt6
      have hr : ∀ j, (Value.slice A T.length c).ownBlock = some j → w.heap.size + 1 ≤ j := fun j e => ((unhide HO2).lt j e).1
      have HS6 := hide ((unhide HS2).grown hgrow (fun j e => hr j e))
      have HB6 := hide ((unhide HB2).grown hgrow (unhide HB2).size (fun j e => by have := hr j e; omega))
      have HO6 := hide hown
      clear hown hgrow hat hlt6 hr
      go_wp2
      go_roundw
      case rel => exact ⟨i - 1, T ++ [x], some ⟨q, 0, none⟩, cap', by rw [List.length_append]; simp; omega, by rw [List.length_append]; rfl, by first | rfl | (rw [show ((i - 1 : Nat) : Int) = (i : Int) - 1 by omega]), hide ⟨unhide HS6, unhide HB6, by rw [List.length_append, List.map_append]; exact unhide HO6, unhide HSm⟩⟩
      case measure => simp [intOf]; omega
    · have il : ¬ (0 : Int) < (i : Int) := by omega
      go_wp2
      go_ret
      exact ⟨T, A, c, by omega, (unhide HP).2.2.2, rfl, (unhide HP).2.2.1, (unhide HP).2.1, (unhide HP).1.lt⟩
end Go.Proofs.Ytmmhchhekmcihaa
