/-
  Crane (layer 18): what the laws read: a time and jobs (some), an order (permutation); the sanity check.
-/
import Derived.Test.YtjgjgilpebeelaaCraZ
import Derived.Test.YtjgjgilpebeelaaInsK
import Derived.Deep.AppendLies
namespace Go.Proofs.Ytjgjgilpebeelaa
open Go.RowKit

theorem info_jb : (Try.prog.info? 39).map (fun i => (i.zero.map (·.cells.size), i.size, i.bytes)) = some (some 2, 2, 16) := by kernel_rfl
/-- A time and jobs that the laws choose. -/
structure SmJ (most : Nat) (now : Int) (jobs : List Jb) : Prop where
  now : 0 ≤ now ∧ now ≤ 4
  len : jobs.length ≤ most
  ok : ∀ s ∈ jobs, (0 ≤ s.1 ∧ s.1 ≤ 4) ∧ (0 ≤ s.2 ∧ s.2 ≤ 200)
theorem SmJ.val {most : Nat} {now : Int} {jobs : List Jb} (h : SmJ most now jobs) (hm : most ≤ 10) : ValJ now jobs :=
  ⟨by have := h.len; omega, by have := h.now; omega, fun s hs => by have := h.ok s hs; omega⟩
theorem rngm_any (B b : Nat) (w : World) (h : Src B b w) :
    Calls Try.prog 26 #[.pointer (some ⟨b, 0, none⟩), .int .i64 (-6), .int .i64 8] w (Reads B b (-6) 8 w) := by
  go_enter Try.func26, Try.ntmps26
  go_wp2_with (first
    | (go_at_call 25; refine (n_any B b _ _ h (by omega) (by omega)).mono ?_; rintro e w1 ⟨x, rfl, hx1, hx2, hs1, hg1⟩; have HS1 := hide hs1; have HG1 := hide hg1; have wx : IntKind.i64.wrap (-6 + x) = -6 + x := (by rw [IntKind.wrap_i64]; omega); clear hs1 hg1))
  go_ret
  exact ⟨_, rfl, by omega, by omega, unhide HS1, unhide HG1⟩
def SomeTo (most : Nat) (w : World) (e : Ending) (w' : World) : Prop := ∃ (now : Int) (jobs : List Jb) (A : Option Addr) (c : Nat), e = .returned (.tuple #[.int .i64 now, .slice A jobs.length c]) ∧ SmJ most now jobs ∧ w'.ownsRow (w.heap.size + 1) 39 2 (.slice A jobs.length c) jobs.length (jobs.flatMap jbC) ∧ Below w.heap.size w w' ∧ w.heap.size < w'.heap.size
set_option maxHeartbeats 2000000 in
set_option maxRecDepth 100000 in
theorem some_any (most : Nat) (hm : most ≤ 10) (A0 : Option Addr) (n0 c0 : Nat) (w : World) (hc : n0 ≤ c0) (hA : IntsIn w.heap.size w A0 n0) : Calls Try.prog 9 #[.slice A0 n0 c0, .int .i64 most] w (SomeTo most w) := by
  have HNew := hide (new_any A0 n0 c0 w hc hA)
  have wm : IntKind.i64.wrap ((most : Int) + 1) = ((most + 1 : Nat) : Int) := by rw [IntKind.wrap_i64]; omega
  obtain ⟨i0, zz, hi0, hia, hib, hic, hid⟩ := info_size info_jb
  have HI0 := hide hi0
  have HIA := hide hia
  have HIB := hide hib
  have HIC := hide hic
  have HID := hide hid
  clear hA hi0 hia hib hic hid
  go_enter Try.func9, Try.ntmps9
  go_wp2_with fail
  refine (unhide HNew).mono ?_
  rintro e w1 ⟨rfl, hs1, hb1⟩
  have HS1 := hide hs1
  have HB1 := hide hb1
  clear hs1 hb1 HNew
  go_wp2_with fail
  refine (n_any _ _ 5 _ (unhide HS1) (by omega) (by omega)).mono ?_
  rintro e w2 ⟨now, rfl, v0, v1, hs2, hg2⟩
  have HS2 := hide hs2
  have HB2 := hide (below_reads (unhide HB1) hg2 (Nat.le_refl _) (unhide HB1).size)
  have HNow := hide (show 0 ≤ now ∧ now ≤ 4 by omega)
  clear hs2 hg2 HS1 HB1 v0 v1
  go_wp2_with fail
  refine (n_any _ _ ((most + 1 : Nat) : Int) _ (unhide HS2) (by omega) (by omega)).mono ?_
  rintro e w3 ⟨v, rfl, v0, v1, hs3, hg3⟩
  obtain ⟨m, rfl⟩ := Int.eq_ofNat_of_zero_le v0
  have H0 := hide (show Src w.heap.size w.heap.size w3 ∧ Below w.heap.size w w3 ∧ w3.ownsRow (w.heap.size + 1) 39 2 (.slice none 0 0) 0 (([] : List Jb).flatMap jbC) ∧ (∀ s ∈ ([] : List Jb), (0 ≤ s.1 ∧ s.1 ≤ 4) ∧ (0 ≤ s.2 ∧ s.2 ≤ 200)) ∧ 0 ≤ now ∧ now ≤ 4 + 10 * (([] : List Jb).length : Int) from
    ⟨hs3, below_reads (unhide HB2) hg3 (Nat.le_refl _) (unhide HB2).size, World.ownsRow_nil _ _ _ _, (fun x hx => by cases hx), by have := unhide HNow; simp; omega⟩)
  have hmm : m ≤ most := by omega
  clear hs3 hg3 HS2 HB2 v0 v1 wm
  go_wp2_with fail
  go_loopw [8, 9, 10] (fun s8 s9 s10 wr => ∃ (i : Nat) (T : List Jb) (A : Option Addr) (c : Nat) (sum : Int), T.length + i ≤ most ∧ s8 = .slice A T.length c ∧ s9 = .int .i64 sum ∧ s10 = .int .i64 i ∧ Hid (Src w.heap.size w.heap.size wr ∧ Below w.heap.size w wr ∧ wr.ownsRow (w.heap.size + 1) 39 2 (.slice A T.length c) T.length (T.flatMap jbC) ∧ (∀ s ∈ T, (0 ≤ s.1 ∧ s.1 ≤ 4) ∧ (0 ≤ s.2 ∧ s.2 ≤ 200)) ∧ 0 ≤ sum ∧ sum ≤ 4 + 10 * (T.length : Int))) (fun _ _ s10 _ => (intOf s10).toNat)
  case atStart => exact ⟨m, [], none, 0, now, by simpa using hmm, rfl, rfl, rfl, H0⟩
  case round =>
    obtain ⟨i, T, A, c, sum, hi, rfl, rfl, rfl, HP⟩ := hrel
    obtain ⟨wo, rfl⟩ : ∃ wo : World, wo = wr := ⟨_, rfl⟩
    clear H0 hmm
    by_cases hlt : 0 < i
    · have il : (0 : Int) < (i : Int) := by omega
      go_wp2_with fail
      refine (n_any _ _ 5 _ (unhide HP).1 (by omega) (by omega)).mono ?_
      rintro e wn ⟨x, rfl, x0, x1, hs, hg⟩
      have hbn := below_reads (unhide HP).2.1 hg (Nat.le_refl _) (unhide HP).2.1.size
      have bx := (Below.refl wn.heap.size wn).alloc (Nat.le_refl _) (.cells #[.int .i64 x, .int .i64 0] 39)
      have hx5 := heap_alloc_new wn (.cells #[.int .i64 x, .int .i64 0] 39)
      have HS2 := hide (hs.keep bx)
      have HB2 := hide (onward hbn bx)
      have HO2 := hide (owns_later ((unhide HP).2.2.1.kept hg (.inr (fun e => by have := ((unhide HP).2.2.1.lt _ e).1; omega))) bx)
      have HOJ := hide (fun j (e : (Value.slice A T.length c).ownBlock = some j) => Nat.lt_of_lt_of_le ((unhide HP).2.2.1.lt j e).2 hg.size)
      obtain ⟨s1, s2⟩ := (unhide HP).2.2.2.2
      have w1 : IntKind.i64.wrap (2 * x) = 2 * x := by rw [IntKind.wrap_i64]; omega
      have w2 : IntKind.i64.wrap (2 * x + 2) = 2 * x + 2 := by rw [IntKind.wrap_i64]; omega
      have w3 : IntKind.i64.wrap (sum + (2 * x + 2)) = sum + (2 * x + 2) := by rw [IntKind.wrap_i64]; omega
      go_wp2_with fail
      obtain ⟨W5, hW5⟩ : ∃ W5 : World, wn.alloc (.cells #[.int .i64 x, .int .i64 0] 39) = W5 := ⟨_, rfl⟩
      have hJ : w.heap.size < wn.heap.size := by have := hbn.size; have := hs.lt; omega
      rw [hW5] at hx5 HS2 HB2 HO2 ⊢
      have HS2 := hide (unhide HS2)
      have HB2 := hide (unhide HB2)
      have HO2 := hide (unhide HO2)
      obtain ⟨J, hJ2⟩ : ∃ J, wn.heap.size = J := ⟨_, rfl⟩
      rw [hJ2] at hx5 hJ HOJ ⊢
      have HOJ := hide (unhide HOJ)
      have HX5 := hide hx5
      have HJ := hide hJ
      clear hs hg hbn bx hx5 hW5 hJ hJ2
      refine (rngm_any _ _ _ (unhide HS2)).mono ?_
      rintro e w6 ⟨y, rfl, y0, y1, hs6, hg6⟩
      have HS6 := hide hs6
      have HB6 := hide (below_reads (unhide HB2) hg6 (Nat.le_refl _) (unhide HB2).size)
      have HO6 := hide ((unhide HO2).kept hg6 (.inr (fun e => by have := ((unhide HO2).lt _ e).1; omega)))
      have hx6 : w6.heap[J]? = some (.cells #[.int .i64 x, .int .i64 0] 39) := (hg6.block J (Array.getElem?_eq_some_iff.1 (unhide HX5)).1 (by have := unhide HJ; simp; omega)).trans (unhide HX5)
      obtain ⟨T2, hT2⟩ : ∃ T2, sum + (2 * x + 2) + y = T2 := ⟨_, rfl⟩
      have w4 : IntKind.i64.wrap (sum + (2 * x + 2) + y) = T2 := by rw [IntKind.wrap_i64]; omega
      obtain ⟨S2, hS2⟩ : ∃ S2, sum + (2 * x + 2) = S2 := ⟨_, rfl⟩
      rw [hS2] at w4 hT2
      have HSum := hide (show 0 ≤ S2 ∧ S2 ≤ 4 + 10 * ((T.length : Int) + 1) ∧ T2 ≤ 200 by have := hi; omega)
      have d0 : w6.cell? ⟨J, 1, none⟩ = some (.int .i64 0) := by rw [Lib.cell_of_heap hx6]; rfl
      have f0 : w6.frozen? ⟨J, 1, none⟩ = false := frozen_of_row w6 J 1 _ _ hx6
      rw [hS2]
      have HX6 := hide hx6
      obtain ⟨W7, hW7⟩ : ∃ W7 : World, w6.setCell ⟨J, 1, none⟩ (.int .i64 (max 0 T2)) = W7 := ⟨_, rfl⟩
      have hx7 : W7.heap[J]? = some (.cells (jbA (x, max 0 T2)) 39) := by rw [← hW7]; exact heap_set hx6 _
      have HX7 := hide hx7
      have hB7 := (unhide HB6).setCell (p := ⟨J, 1, none⟩) (by have := unhide HJ; simp only []; omega) (.int .i64 (max 0 T2))
      have hS7 := (unhide HS6).grown (grown_set w6 J 1 (.int .i64 (max 0 T2))) (fun j e => by injection e with e; have := unhide HJ; omega)
      have hO7 := (unhide HO6).kept (grown_set w6 J 1 (.int .i64 (max 0 T2))) (.inr (fun e => by have := unhide HOJ J e; omega))
      rw [hW7] at hB7 hS7 hO7
      have HW7 := hide hW7
      have b8 := (Below.refl W7.heap.size W7).alloc (Nat.le_refl _) (.cells (jbA (x, max 0 T2)) 39)
      have HB8 := hide (onward hB7 b8)
      have HS8 := hide (hS7.keep b8)
      have HO8 := hide (owns_later hO7 b8)
      have HNw := hide (World.news_of_block (heap_alloc_new W7 (.cells (jbA (x, max 0 T2)) 39)))
      have hz8 : w.heap.size + 1 ≤ (W7.alloc (.cells (jbA (x, max 0 T2)) 39)).heap.size := by rw [World.size_alloc]; have := hB7.size; omega
      clear hs6 hg6 hx6 hT2 hS2 HX5 HO2 HB2 HS2 w1 w2 w3 s1 s2 y0 y1 hx7 hB7 hS7 hO7 b8
      go_wp2_with (first
        | (refine wpList_load_row rfl _ _ rfl J rfl 39 (jbA (x, max 0 T2)) (0, 0) _ (unhide HX7) Try.underlying39 rfl infoJb ?_)
        | (at_builtin; refine wpList_append_lies _ rfl _ _ 22 rfl (w.heap.size + 1) 39 i0 zz 2 16 Try.underlying22 (unhide HI0) (unhide HIA) (unhide HIB) (unhide HIC) (unhide HID) (by decide) _ _ _ rfl (unhide HO8) ⟨W7.heap.size, 0, none⟩ 1 1 (jbC (x, max 0 T2)) rfl rfl (unhide HNw) (fun u hu => by simp only [jbC, List.mem_cons, List.not_mem_nil, or_false] at hu; rcases hu with rfl | rfl <;> rfl) (by decide) (by unfold maxLen; omega) (by omega) hz8 _ rfl ?_))
      intro q cap' w9 hown hgrow hat hlt9
      have hr : ∀ j, (Value.slice A T.length c).ownBlock = some j → w.heap.size + 1 ≤ j := fun j e => ((unhide HO8).lt j e).1
      have HP9 := hide (show Src w.heap.size w.heap.size w9 ∧ Below w.heap.size w w9 ∧ w9.ownsRow (w.heap.size + 1) 39 2 (.slice (some ⟨q, 0, none⟩) (T ++ [(x, max 0 T2)]).length cap') (T ++ [(x, max 0 T2)]).length ((T ++ [(x, max 0 T2)]).flatMap jbC) ∧ (∀ s ∈ T ++ [(x, max 0 T2)], (0 ≤ s.1 ∧ s.1 ≤ 4) ∧ (0 ≤ s.2 ∧ s.2 ≤ 200)) ∧ 0 ≤ S2 ∧ S2 ≤ 4 + 10 * ((T ++ [(x, max 0 T2)]).length : Int) from by
        refine ⟨(unhide HS8).grown hgrow (fun j e => hr j e), (unhide HB8).grown hgrow (unhide HB8).size (fun j e => by have := hr j e; omega), ?_, ?_, ?_⟩
        · rw [List.length_append, List.flatMap_append]; simpa using hown
        · intro s hs
          rcases List.mem_append.1 hs with hs | hs
          · exact (unhide HP).2.2.2.1 s hs
          · rw [List.mem_singleton.1 hs]
            have := (unhide HSum).2.2
            simp only []
            omega
        · have := unhide HSum
          rw [List.length_append]
          simp only [List.length_cons, List.length_nil]
          omega)
      have hw : IntKind.i64.wrap ((i : Int) - 1) = ((i - 1 : Nat) : Int) := by rw [IntKind.wrap_i64]; omega
      clear hown hgrow hat hlt9 hr
      go_wp2
      go_roundw
      case rel => exact ⟨i - 1, T ++ [(x, max 0 T2)], some ⟨q, 0, none⟩, cap', S2, by rw [List.length_append]; simp; omega, by rw [List.length_append]; rfl, rfl, by first | rfl | (rw [show ((i - 1 : Nat) : Int) = (i : Int) - 1 by omega]), HP9⟩
      case measure => simp [intOf]; omega
    · have il : ¬ (0 : Int) < (i : Int) := by omega
      go_wp2
      go_ret2
      exact ⟨now, T, A, c, rfl, ⟨unhide HNow, by omega, (unhide HP).2.2.2.1⟩, (unhide HP).2.2.1, (unhide HP).2.1, (unhide HP).1.lt⟩
end Go.Proofs.Ytjgjgilpebeelaa
