/-
  Screening (layer 15): the program's search for a bag: the comparison, the binary search, find and Find.
-/
import Derived.Test.YtdhkhkcijffbiaaScrB
import Derived.Test.YtdhkhkcijffbiaaInsK
import Derived.Test.YtdhkhkcijffbiaaShelf
namespace Go.Proofs.Ytdhkhkcijffbiaa
open Go.RowKit

def bagC (t : Int) (x : Ck) : Int := Lib.compareInt x.bag t
theorem bagC_neg {t : Int} {x : Ck} : bagC t x < 0 ↔ x.bag < t := by
  unfold bagC Lib.compareInt
  split
  · constructor <;> intro <;> omega
  · split <;> constructor <;> intro <;> omega
theorem bagC_zero {t : Int} {x : Ck} : bagC t x = 0 ↔ x.bag = t := by
  unfold bagC Lib.compareInt
  split
  · constructor <;> intro <;> omega
  · split <;> constructor <;> intro <;> omega
theorem asc_at {l : List Ck} (h : ascC l) {i j : Nat} (hij : i < j) (hj : j < l.length) : (l.getD i ck0).bag < (l.getD j ck0).bag := by
  rw [at_k (by omega), at_k hj]
  exact List.pairwise_iff_getElem.1 h i j (by omega) hj hij
theorem mono_bag {l : List Ck} (h : ascC l) (t : Int) : MonoF (bagC t) l ck0 := fun a b hab hb hn => by
  rw [bagC_neg] at hn ⊢
  rcases Nat.lt_or_ge a b with h1 | h1
  · have := asc_at h h1 hb; omega
  · obtain rfl : a = b := by omega
    exact hn
/-- The place of a bag, and whether it is there: what the document's search finds. -/
theorem lb_cut {l : List Ck} (h : ascC l) (t : Int) : (∀ k, k < lbF (bagC t) l → (l.getD k ck0).bag < t) ∧ (∀ k, lbF (bagC t) l ≤ k → k < l.length → t ≤ (l.getD k ck0).bag) := by
  have key : ∀ (l : List Ck), ascC l → (∀ k, k < lbF (bagC t) l → (l.getD k ck0).bag < t) ∧ (∀ k, lbF (bagC t) l ≤ k → k < l.length → t ≤ (l.getD k ck0).bag) := by
    intro l
    induction l with
    | nil => intro _; exact ⟨fun k hk => by simp [lbF] at hk, fun k _ hk => by simp at hk⟩
    | cons x l ih =>
      intro ha
      obtain ⟨h1, h2⟩ := List.pairwise_cons.1 ha
      have hi := ih h2
      by_cases hx : x.bag < t
      · have e : lbF (bagC t) (x :: l) = lbF (bagC t) l + 1 := by
          unfold lbF
          rw [List.takeWhile_cons_of_pos (by simpa using bagC_neg.2 hx)]; rfl
        rw [e]
        refine ⟨fun k hk => ?_, fun k hk hl => ?_⟩
        · cases k with
          | zero => exact hx
          | succ k => exact hi.1 k (by omega)
        · cases k with
          | zero => omega
          | succ k => exact hi.2 k (by omega) (by simpa using hl)
      · have e : lbF (bagC t) (x :: l) = 0 := by
          unfold lbF
          rw [List.takeWhile_cons_of_neg (by simpa [bagC_neg] using hx)]; rfl
        rw [e]
        refine ⟨fun k hk => by omega, fun k _ hl => ?_⟩
        cases k with
        | zero => show t ≤ x.bag; omega
        | succ k =>
          have hk : k < l.length := by simpa using hl
          have := h1 _ (getD_mem hk)
          show t ≤ (l.getD k ck0).bag
          omega
  exact key l h
theorem has_find {s : Scr} (ha : ascC s.l) (t : Int) : hasF (bagC t) s.l = findB s t ∧ (hasF (bagC t) s.l = true → lbF (bagC t) s.l < s.l.length ∧ s.l.getD (lbF (bagC t) s.l) ck0 = findX s t) := by
  obtain ⟨c1, c2⟩ := lb_cut ha t
  by_cases hl : lbF (bagC t) s.l < s.l.length
  · by_cases he : (s.l.getD (lbF (bagC t) s.l) ck0).bag = t
    · have hf := find_hit (bag := t) hl (fun j hj => by have := c1 j hj; omega) he
      have hh : hasF (bagC t) s.l = true := hasF_yes (d := ck0) rfl hl (bagC_zero.2 he)
      rw [hh]
      exact ⟨by unfold findB findO; rw [hf]; rfl, fun _ => ⟨hl, by unfold findX findO; rw [hf]; rfl⟩⟩
    · have hf := find_miss (bag := t) (l := s.l) (fun j hj => by
        rcases Nat.lt_or_ge j (lbF (bagC t) s.l) with h1 | h1
        · have := c1 j h1; omega
        · rcases Nat.eq_or_lt_of_le h1 with h2 | h2
          · rw [← h2]; exact he
          · have := asc_at ha h2 hj
            have := c2 _ (Nat.le_refl _) hl
            omega)
      have hh : hasF (bagC t) s.l = false := hasF_no (d := ck0) rfl hl (fun h => he (bagC_zero.1 h))
      rw [hh]
      exact ⟨by unfold findB findO; rw [hf]; rfl, fun h => by cases h⟩
  · have hf := find_miss (bag := t) (l := s.l) (fun j hj => by have := c1 j (by omega); omega)
    have hh : hasF (bagC t) s.l = false := hasF_end rfl hl
    rw [hh]
    exact ⟨by unfold findB findO; rw [hf]; rfl, fun h => by cases h⟩
/-- An insertion is a cut at the bag's place. -/
theorem insC_cut (x : Ck) : ∀ (l : List Ck), insC x l = l.take (lbF (bagC x.bag) l) ++ x :: l.drop (lbF (bagC x.bag) l)
  | [] => rfl
  | y :: l => by
    unfold insC
    by_cases hx : y.bag < x.bag
    · have e : lbF (bagC x.bag) (y :: l) = lbF (bagC x.bag) l + 1 := by
        unfold lbF
        rw [List.takeWhile_cons_of_pos (by simpa using bagC_neg.2 hx)]; rfl
      rw [if_pos hx, e, insC_cut x l]; rfl
    · have e : lbF (bagC x.bag) (y :: l) = 0 := by
        unfold lbF
        rw [List.takeWhile_cons_of_neg (by simpa [bagC_neg] using hx)]; rfl
      rw [if_neg hx, e]; rfl

theorem fd1_any (x : Ck) (n : Int) (w : World) :
    Calls Try.prog 48 #[x.v, .int .i64 n] w fun e w' => e = .returned (.int .i64 (bagC n x)) ∧ Below w.heap.size w w' := by
  have z0 : (w.alloc (.cells x.arr 42)).cell? ⟨w.heap.size, 0, none⟩ = some (.int .i64 x.bag) := by rw [Lib.cell_of_heap (heap_alloc_new w _)]; rfl
  have B1 := hide ((Below.refl w.heap.size w).alloc (Nat.le_refl _) (.cells x.arr 42))
  go_enter Try.func48, Try.ntmps48
  go_wp2_with (go_at_call 46; refine (Try.cmp_Compare_int _ _ _).mono ?_; rintro e w1 ⟨rfl, rfl⟩)
  go_ret
  exact ⟨rfl, unhide B1⟩

set_option maxHeartbeats 4000000 in
set_option maxRecDepth 100000 in
theorem bsc_any (b : Nat) (A : Option Addr) (cap : Nat) (xs : List Ck) (t : Int) (w : World) (h : CksIn b w A xs) (hz : xs.length ≤ 1000000) (hm : MonoF (bagC t) xs ck0) :
    Calls Try.prog 47 #[.slice A xs.length cap, .int .i64 t, .func (.func 48) #[] #[]] w
      fun e w' => e = .returned (.tuple #[.int .i64 (lbF (bagC t) xs : Nat), .bool (hasF (bagC t) xs)]) ∧ Below w.heap.size w w' := by
  have HI := hide h
  have HM := hide hm
  clear h hm
  go_enter Try.func47, Try.ntmps47
  go_wp2
  go_loopw [9, 10] (fun s9 s10 wr => ∃ lo hi : Nat, s9 = .int .i64 lo ∧ s10 = .int .i64 hi ∧ lo ≤ hi ∧ hi ≤ xs.length ∧ Hid (Below w.heap.size w wr) ∧ Hid ((∀ k, k < lo → bagC t (xs.getD k ck0) < 0) ∧ (hi < xs.length → 0 ≤ bagC t (xs.getD hi ck0)))) (fun s9 s10 _ => (intOf s10).toNat - (intOf s9).toNat)
  case atStart => exact ⟨0, xs.length, rfl, rfl, Nat.zero_le _, Nat.le_refl _, Lib.hid (Below.refl _ _), Lib.hid ⟨fun k hk => absurd hk (Nat.not_lt_zero _), fun h => absurd h (Nat.lt_irrefl _)⟩⟩
  case round =>
    obtain ⟨lo, hi, rfl, rfl, hlh, hin, HB, HX⟩ := hrel
    obtain ⟨wo, rfl⟩ : ∃ wo : World, wo = wr := ⟨_, rfl⟩
    by_cases hlt : lo < hi
    · obtain ⟨g, off, rfl, hg, hc⟩ := ck_at ((unhide HI).keep HB.out) (i := (lo + hi) / 2) (by omega)
      have HY := hide (show ∀ y, xs.getD ((lo + hi) / 2) ck0 = y → bagC t y < 0 → (∀ k, k < (lo + hi) / 2 + 1 → bagC t (xs.getD k ck0) < 0) from fun y hy hn k hk => (unhide HM) k ((lo + hi) / 2) (by omega) (by omega) (by rw [hy]; exact hn))
      generalize hx : xs.getD ((lo + hi) / 2) ck0 = x at hc
      have HX0 := hide hx
      have HC := hide hc
      clear hx hc
      cases hn : decide (bagC t x < 0) with
      | true =>
        have hn' : bagC t x < 0 := of_decide_eq_true hn
        go_wp2_with (first
          | (refine wpList_load_at rfl _ _ rfl g (off + (lo + hi) / 2 * 5) rfl x.arr _ (unhide HC) Try.underlying42 rfl infoC ?_)
          | (go_at_call 48; refine (fd1_any x t _).mono ?_; rintro e w1 ⟨rfl, hb1⟩; have HB1 := hide hb1; clear hb1))
        go_roundw
        case rel => exact ⟨(lo + hi) / 2 + 1, hi, by go_num, rfl, by omega, hin, Lib.hid (onward HB.out (unhide HB1)), Lib.hid ⟨unhide HY x (unhide HX0) hn', HX.out.2⟩⟩
        case measure => simp [intOf]; omega
      | false =>
        have hn' : ¬ bagC t x < 0 := of_decide_eq_false hn
        go_wp2_with (first
          | (refine wpList_load_at rfl _ _ rfl g (off + (lo + hi) / 2 * 5) rfl x.arr _ (unhide HC) Try.underlying42 rfl infoC ?_)
          | (go_at_call 48; refine (fd1_any x t _).mono ?_; rintro e w1 ⟨rfl, hb1⟩; have HB1 := hide hb1; clear hb1))
        go_roundw
        case rel => exact ⟨lo, (lo + hi) / 2, rfl, by go_num, by omega, by omega, Lib.hid (onward HB.out (unhide HB1)), Lib.hid ⟨HX.out.1, fun _ => by rw [unhide HX0]; omega⟩⟩
        case measure => simp [intOf]; omega
    · obtain rfl : hi = lo := by omega
      have HE := hide (lbF_eq (f := bagC t) xs hi hin HX.out.1 HX.out.2)
      by_cases hn : hi < xs.length
      · obtain ⟨g, off, rfl, hg, hc⟩ := ck_at ((unhide HI).keep HB.out) (i := hi) hn
        have HQ := hide (show ∀ y, xs.getD hi ck0 = y → (bagC t y = 0 → hasF (bagC t) xs = true) ∧ (bagC t y ≠ 0 → hasF (bagC t) xs = false) from fun y hy => ⟨fun h => hasF_yes (d := ck0) (unhide HE) hn (by rw [hy]; exact h), fun h => hasF_no (d := ck0) (unhide HE) hn (by rw [hy]; exact h)⟩)
        generalize hx : xs.getD hi ck0 = x at hc
        have HX0 := hide hx
        have HC := hide hc
        clear hx hc
        cases hq : decide (bagC t x = 0) with
        | true =>
          have hq' : bagC t x = 0 := of_decide_eq_true hq
          go_wp2_with (first
            | (refine wpList_load_at_w rfl _ _ rfl g (off + hi * 5) rfl x.arr _ (unhide HC) Try.underlying42 rfl infoC ?_)
            | (go_at_call 48; refine (fd1_any x t _).mono ?_; rintro e w1 ⟨rfl, hb1⟩; have HB1 := hide hb1; clear hb1))
          go_ret2
          exact ⟨by rw [unhide HE, (unhide HQ x (unhide HX0)).1 hq']; rfl, onward HB.out (unhide HB1)⟩
        | false =>
          have HQ' := hide (show ¬ bagC t x = 0 from of_decide_eq_false hq)
          have hb : (bagC t x == 0) = false := by simpa using unhide HQ'
          clear hq
          go_wp2_with (first
            | (refine wpList_load_at_w rfl _ _ rfl g (off + hi * 5) rfl x.arr _ (unhide HC) Try.underlying42 rfl infoC ?_)
            | (go_at_call 48; refine (fd1_any x t _).mono ?_; rintro e w1 ⟨rfl, hb1⟩; have HB1 := hide hb1; clear hb1))
          go_ret2
          exact ⟨by rw [unhide HE, (unhide HQ x (unhide HX0)).2 (unhide HQ')]; rfl, onward HB.out (unhide HB1)⟩
      · go_wp2
        go_ret2
        exact ⟨by rw [unhide HE, hasF_end (unhide HE) hn]; rfl, HB.out⟩

set_option maxRecDepth 100000 in
theorem sfind_any (b : Nat) (s : Scr) (t : Int) (A : Option Addr) (c : Nat) (w : World) (hv : ValS s) (h : CksIn b w A s.l) :
    Calls Try.prog 33 #[scrV s A c, .int .i64 t] w
      fun e w' => e = .returned (.tuple #[.int .i64 (lbF (bagC t) s.l : Nat), .bool (findB s t)]) ∧ Below w.heap.size w w' := by
  have z5 : (w.alloc (scrO s A c)).cell? ⟨w.heap.size, 5, none⟩ = some (.slice A s.l.length c) := by rw [Lib.cell_of_heap (heap_alloc_new w _)]; rfl
  have b1 := (Below.refl w.heap.size w).alloc (Nat.le_refl _) (scrO s A c)
  have HC := hide (bsc_any b A c s.l t _ (h.keep b1) (by have := hv.len; omega) (mono_bag hv.asc t))
  have B1 := hide b1
  have HF := hide (has_find hv.asc t).1
  clear h hv b1
  go_enter Try.func33, Try.ntmps33
  go_wp2_with (go_at_call 47; refine (unhide HC).mono ?_; rintro e w1 ⟨rfl, hb1⟩; have HB1 := hide hb1; clear hb1)
  go_ret2
  exact ⟨by rw [unhide HF]; rfl, onward (unhide B1) (unhide HB1)⟩

set_option maxHeartbeats 1000000 in
set_option maxRecDepth 100000 in
theorem pfind_any (b : Nat) (s : Scr) (bag : Int) (A : Option Addr) (c : Nat) (w : World) (hv : ValS s) (h : CksIn b w A s.l) :
    Calls Try.prog 21 #[scrV s A c, .int .i64 bag] w fun e w' => e = .returned (.tuple #[(findX s bag).v, .bool (findB s bag)]) ∧ Below w.heap.size w w' := by
  obtain ⟨W1, hW⟩ : ∃ W1 : World, (w.alloc (scrO s A c)).alloc (.cells ckZ 42) = W1 := ⟨_, rfl⟩
  have b1 : Below w.heap.size w W1 := by rw [← hW]; exact below_new (below_new (Below.refl _ _) _) _
  have hS1 : W1.heap[w.heap.size]? = some (scrO s A c) := by rw [← hW, Below.heap_alloc _ _ _ (by rw [World.size_alloc]; omega)]; exact heap_alloc_new w _
  have hC1 : W1.heap[w.heap.size + 1]? = some (.cells ckZ 42) := by rw [← hW, ← World.size_alloc w (scrO s A c)]; exact heap_alloc_new _ _
  have hz1 : W1.heap.size = w.heap.size + 2 := by rw [← hW, World.size_alloc, World.size_alloc]
  have HB := hide b1
  have HS := hide hS1
  have HC := hide hC1
  have H1 := hide (h.keep b1)
  have HV := hide hv
  obtain ⟨hf1, hf2⟩ := has_find hv.asc bag
  have HFX := hide hf2
  have HFB := hide hf1
  clear b1 hS1 hC1 h hv hf1 hf2
  go_enter Try.func21, Try.ntmps21
  go_upto_region 2 with (first
    | (refine wpList_load_row rfl _ _ rfl w.heap.size rfl 28 (scrA s A c) (0, 0) _ (unhide HS) Try.underlying28 rfl infoS ?_)
    | (go_at_call 33; refine (sfind_any b s bag A c _ (unhide HV) (unhide H1)).mono ?_; rintro e w1 ⟨rfl, hb1⟩; have HB1 := hide hb1; clear hb1))
  have HS1 := hide (heap_below (unhide HS) (unhide HB1))
  have HC1 := hide (heap_below (unhide HC) (unhide HB1))
  have H2 := hide ((unhide H1).keep (unhide HB1))
  have HB2 := hide (onward (unhide HB) (unhide HB1))
  have z5 : w1.cell? ⟨w.heap.size, 5, none⟩ = some (.slice A s.l.length c) := by rw [Lib.cell_of_heap (unhide HS1)]; rfl
  cases hb : findB s bag with
  | false =>
    have HX := hide (show findX s bag = ck0 by unfold findX; unfold findB at hb; rw [Option.isSome_eq_false_iff, Option.isNone_iff_eq_none] at hb; rw [hb]; rfl)
    go_wp2_with (refine wpList_store_row rfl _ _ _ rfl (w.heap.size + 1) ckZ rfl rfl 42 ckZ (unhide HC1) infoC rfl (by simp [Value.oneCell']) ?_)
    refine bodyPost_ret (v := .tuple #[ck0.v, .bool false]) (results_row2' rfl _ _ (w.heap.size + 1) _ _ _ _ _ rfl rfl (setRow_heap w1 (w.heap.size + 1) _ ckZ _ _ (unhide HC1)) Try.underlying42 rfl infoC) rfl ?_
    exact ⟨by rw [unhide HX, hb], below_row (unhide HB2) (by omega) _⟩
  | true =>
    obtain ⟨hl, hx⟩ := (unhide HFX) (by rw [unhide HFB]; exact hb)
    obtain ⟨g, off, rfl, hg, hc⟩ := ck_at (unhide H2) hl
    obtain ⟨x, hxx⟩ : ∃ x, findX s bag = x := ⟨_, rfl⟩
    rw [hxx] at hx
    rw [hx] at hc
    have HXB := hide hxx
    clear hxx
    generalize hlb : lbF (bagC bag) s.l = k at *
    have kl : (k : Int) < (s.l.length : Int) := by omega
    have k0 : (0 : Int) ≤ (k : Int) := by omega
    have HCC := hide hc
    have HXX := hide hx
    have HLB := hide hlb
    clear hc hx hlb
    go_wp2_with (first
      | (refine wpList_load_at rfl _ _ rfl g (off + k * 5) rfl x.arr _ (unhide HCC) Try.underlying42 rfl infoC ?_)
      | (refine wpList_store_row rfl _ _ _ rfl (w.heap.size + 1) x.arr rfl rfl 42 ckZ (unhide HC1) infoC rfl (ck_all x) ?_))
    refine bodyPost_ret (v := .tuple #[x.v, .bool true]) (results_row2' rfl _ _ (w.heap.size + 1) _ _ _ _ _ rfl rfl (setRow_heap w1 (w.heap.size + 1) _ x.arr _ _ (unhide HC1)) Try.underlying42 rfl infoC) rfl ?_
    exact ⟨by rw [unhide HXB, hb], below_row (unhide HB2) (by omega) _⟩
end Go.Proofs.Ytdhkhkcijffbiaa
