/-
  Custody (layer 16): the program's search for a bag: bagOf, the comparison over it, the binary search, search and find.
-/
import Derived.Test.YtbjpcajhceapkaaCusC
import Derived.Test.YtbjpcajhceapkaaInsK
import Derived.Test.YtbjpcajhceapkaaShelf
namespace Go.Proofs.Ytbjpcajhceapkaa
open Go.RowKit

def se0 : Se := ⟨0, 0⟩
abbrev Se.arr (x : Se) : Array Value := #[.int .i64 x.bag, .int .i64 x.im]
abbrev Se.v (x : Se) : Value := .agg x.arr
theorem Se.cs_len (x : Se) : x.cs.length = 2 := rfl
theorem infoQ : (Try.prog.info? 54).map (·.size) = some 2 := by kernel_rfl
theorem se_at {b : Nat} {w : World} {A : Option Addr} {l : List Se} (h : SesIn b w A l) {i : Nat} (hi : i < l.length) :
    ∃ g off, A = some ⟨g, off, none⟩ ∧ g ≠ b ∧ ∀ j u, (l.getD i se0).arr[j]? = some u → w.cell? ⟨g, off + i * 2 + j, none⟩ = some u := by
  obtain ⟨g, off, h1, h2, h3⟩ := RowIn.at Se.cs_len h hi se0
  exact ⟨g, off, h1, h2, fun j u hu => h3 j u (by rw [← Array.getElem?_toList] at hu; exact hu)⟩
def bagQ (t : Int) (x : Se) : Int := Lib.compareInt x.bag t
theorem bagQ_neg {t : Int} {x : Se} : bagQ t x < 0 ↔ x.bag < t := by
  unfold bagQ Lib.compareInt
  split
  · constructor <;> intro <;> omega
  · split <;> constructor <;> intro <;> omega
theorem bagQ_zero {t : Int} {x : Se} : bagQ t x = 0 ↔ x.bag = t := by
  unfold bagQ Lib.compareInt
  split
  · constructor <;> intro <;> omega
  · split <;> constructor <;> intro <;> omega
abbrev ascQ (l : List Se) : Prop := l.Pairwise fun x y => x.bag < y.bag
theorem ascq_at {l : List Se} (h : ascQ l) {i j : Nat} (hij : i < j) (hj : j < l.length) : (l.getD i se0).bag < (l.getD j se0).bag := by
  rw [at_k (by omega), at_k hj]
  exact List.pairwise_iff_getElem.1 h i j (by omega) hj hij
theorem mono_bagQ {l : List Se} (h : ascQ l) (t : Int) : MonoF (bagQ t) l se0 := fun a b hab hb hn => by
  rw [bagQ_neg] at hn ⊢
  rcases Nat.lt_or_ge a b with h1 | h1
  · have := ascq_at h h1 hb; omega
  · obtain rfl : a = b := by omega
    exact hn
theorem lbq_pos {x : Se} {l : List Se} {t : Int} (hx : x.bag < t) : lbF (bagQ t) (x :: l) = lbF (bagQ t) l + 1 := by
  unfold lbF
  rw [List.takeWhile_cons_of_pos (by simpa using bagQ_neg.2 hx)]; rfl
theorem lbq_neg {x : Se} {l : List Se} {t : Int} (hx : ¬ x.bag < t) : lbF (bagQ t) (x :: l) = 0 := by
  unfold lbF
  rw [List.takeWhile_cons_of_neg (by simpa [bagQ_neg] using hx)]; rfl
theorem hasq_is {t : Int} : ∀ {l : List Se}, ascQ l → hasF (bagQ t) l = hasSe l t
  | [], _ => rfl
  | x :: l, h => by
    obtain ⟨h1, h2⟩ := List.pairwise_cons.1 h
    by_cases hx : x.bag < t
    · have e : hasF (bagQ t) (x :: l) = hasF (bagQ t) l := by unfold hasF; rw [lbq_pos hx]; rfl
      rw [e, hasq_is h2]
      unfold hasSe
      rw [Bool.eq_iff_iff, decide_eq_true_eq, decide_eq_true_eq, List.map_cons, List.mem_cons]
      exact ⟨.inr, fun h => h.elim (fun e => by omega) id⟩
    · unfold hasF hasSe
      rw [lbq_neg hx]
      show decide (bagQ t x = 0) = _
      rw [Bool.eq_iff_iff, decide_eq_true_eq, decide_eq_true_eq, bagQ_zero, List.map_cons, List.mem_cons]
      refine ⟨fun e => .inl e.symm, fun e => e.elim (fun e => e.symm) (fun hm => ?_)⟩
      obtain ⟨y, hy, e⟩ := List.mem_map.1 hm
      have := h1 y hy
      omega
theorem insq_cut (x : Se) : ∀ (l : List Se), insSe x l = l.take (lbF (bagQ x.bag) l) ++ x :: l.drop (lbF (bagQ x.bag) l)
  | [] => rfl
  | y :: l => by
    unfold insSe
    by_cases hx : y.bag < x.bag
    · rw [if_pos hx, lbq_pos hx, insq_cut x l]; rfl
    · rw [if_neg hx, lbq_neg hx]; rfl
theorem delq_cut {t : Int} : ∀ {l : List Se}, ascQ l → hasSe l t = true → lbF (bagQ t) l < l.length ∧ (l.filter fun x => decide (x.bag ≠ t)) = l.take (lbF (bagQ t) l) ++ l.drop (lbF (bagQ t) l + 1)
  | [], _, h => by simp [hasSe] at h
  | x :: l, h, hh => by
    obtain ⟨h1, h2⟩ := List.pairwise_cons.1 h
    by_cases hx : x.bag < t
    · have hh' : hasSe l t = true := by
        unfold hasSe at hh ⊢
        rw [decide_eq_true_eq] at hh ⊢
        rw [List.map_cons, List.mem_cons] at hh
        exact hh.elim (fun e => by omega) id
      obtain ⟨i1, i2⟩ := delq_cut h2 hh'
      rw [lbq_pos hx, List.filter_cons_of_pos (by rw [decide_eq_true_eq]; omega), i2]
      exact ⟨by rw [List.length_cons]; omega, rfl⟩
    · rw [lbq_neg hx]
      unfold hasSe at hh
      rw [decide_eq_true_eq, List.map_cons, List.mem_cons] at hh
      have e : x.bag = t := hh.elim (fun e => e.symm) (fun hm => by
        obtain ⟨y, hy, e⟩ := List.mem_map.1 hm
        have := h1 y hy
        omega)
      refine ⟨by simp, ?_⟩
      rw [List.filter_cons_of_neg (by simp [e])]
      show _ = l
      rw [List.filter_eq_self]
      intro y hy
      have := h1 y hy
      rw [decide_eq_true_eq]; omega
theorem ascq_len {t : Int} : ∀ {l : List Se}, ascQ l → (∀ x ∈ l, t < x.bag ∧ x.bag ≤ 40) → (l.length : Int) ≤ 40 - t ∨ l = []
  | [], _, _ => .inr rfl
  | x :: l, h, hb => by
    obtain ⟨h1, h2⟩ := List.pairwise_cons.1 h
    have hx := hb x (by simp)
    left
    rcases ascq_len (t := x.bag) h2 (fun y hy => ⟨h1 y hy, (hb y (by simp [hy])).2⟩) with h3 | h3
    · rw [List.length_cons]; omega
    · subst h3; simp; omega
theorem ValQ.len {l : List Se} (h : ValQ l) : l.length ≤ 40 := by
  rcases ascq_len (t := 0) h.asc (fun x hx => by have := (h.ok x hx).1; omega) with h1 | h1
  · omega
  · subst h1; simp

theorem bagOf_any (x : Se) (w : World) : Calls Try.prog 30 #[x.v] w fun e w' => e = .returned (.int .i64 x.bag) ∧ Below w.heap.size w w' := by
  have z0 : (w.alloc (.cells x.arr 54)).cell? ⟨w.heap.size, 0, none⟩ = some (.int .i64 x.bag) := by rw [Lib.cell_of_heap (heap_alloc_new w _)]; rfl
  have B1 := hide ((Below.refl w.heap.size w).alloc (Nat.le_refl _) (.cells x.arr 54))
  go_enter Try.func30, Try.ntmps30
  go_wp2
  go_ret
  exact ⟨rfl, unhide B1⟩
/-- A captured variable that holds bagOf. -/
def KeyAt (w : World) (kb : Nat) : Prop := w.cell? ⟨kb, 0, none⟩ = some (.func (.func 30) #[] #[])
theorem KeyAt.keep {w w' : World} {kb : Nat} (h : KeyAt w kb) (hb : Below w.heap.size w w') : KeyAt w' kb := kept hb h
set_option maxRecDepth 100000 in
theorem sq1_any (x : Se) (n : Int) (kb : Nat) (w : World) (hk : KeyAt w kb) :
    Calls Try.prog 36 #[x.v, .int .i64 n, .pointer (some ⟨kb, 0, none⟩)] w fun e w' => e = .returned (.int .i64 (bagQ n x)) ∧ Below w.heap.size w w' := by
  obtain ⟨W1, hW⟩ : ∃ W1 : World, w.alloc (.cells x.arr 54) = W1 := ⟨_, rfl⟩
  have b1 := (Below.refl w.heap.size w).alloc (Nat.le_refl _) (.cells x.arr 54)
  rw [hW] at b1
  have hx : W1.heap[w.heap.size]? = some (.cells x.arr 54) := by rw [← hW]; exact heap_alloc_new w _
  have z0 : W1.cell? ⟨kb, 0, none⟩ = some (.func (.func 30) #[] #[]) := hk.keep b1
  have HX := hide hx
  have B1 := hide b1
  clear hk b1 hx
  go_enter Try.func36, Try.ntmps36
  go_wp2_with (first
    | (refine wpList_load_row rfl _ _ rfl w.heap.size rfl 54 x.arr (0, 0) _ (unhide HX) Try.underlying54 rfl infoQ ?_)
    | (go_at_call 30; refine (bagOf_any x _).mono ?_; rintro e w1 ⟨rfl, hb1⟩; have HB1 := hide hb1; clear hb1)
    | (go_at_call 37; refine (Try.cmp_Compare_int _ _ _).mono ?_; rintro e w2 ⟨rfl, rfl⟩))
  go_ret
  exact ⟨rfl, onward (unhide B1) (unhide HB1)⟩

set_option maxHeartbeats 4000000 in
set_option maxRecDepth 100000 in
theorem bsq_any (b : Nat) (A : Option Addr) (cap : Nat) (xs : List Se) (t : Int) (kb : Nat) (w : World) (hk : KeyAt w kb) (h : SesIn b w A xs) (hz : xs.length ≤ 1000000) (hm : MonoF (bagQ t) xs se0) :
    Calls Try.prog 35 #[.slice A xs.length cap, .int .i64 t, .func (.func 36) #[] #[.pointer (some ⟨kb, 0, none⟩)]] w
      fun e w' => e = .returned (.tuple #[.int .i64 (lbF (bagQ t) xs : Nat), .bool (hasF (bagQ t) xs)]) ∧ Below w.heap.size w w' := by
  have HI := hide h
  have HKB := hide hk
  have HM := hide hm
  clear h hm hk
  go_enter Try.func35, Try.ntmps35
  go_wp2
  go_loopw [9, 10] (fun s9 s10 wr => ∃ lo hi : Nat, s9 = .int .i64 lo ∧ s10 = .int .i64 hi ∧ lo ≤ hi ∧ hi ≤ xs.length ∧ Hid (Below w.heap.size w wr) ∧ Hid ((∀ k, k < lo → bagQ t (xs.getD k se0) < 0) ∧ (hi < xs.length → 0 ≤ bagQ t (xs.getD hi se0)))) (fun s9 s10 _ => (intOf s10).toNat - (intOf s9).toNat)
  case atStart => exact ⟨0, xs.length, rfl, rfl, Nat.zero_le _, Nat.le_refl _, Lib.hid (Below.refl _ _), Lib.hid ⟨fun k hk => absurd hk (Nat.not_lt_zero _), fun h => absurd h (Nat.lt_irrefl _)⟩⟩
  case round =>
    obtain ⟨lo, hi, rfl, rfl, hlh, hin, HB, HX⟩ := hrel
    obtain ⟨wo, rfl⟩ : ∃ wo : World, wo = wr := ⟨_, rfl⟩
    by_cases hlt : lo < hi
    · obtain ⟨g, off, rfl, hg, hc⟩ := se_at ((unhide HI).keep HB.out) (i := (lo + hi) / 2) (by omega)
      have HY := hide (show ∀ y, xs.getD ((lo + hi) / 2) se0 = y → bagQ t y < 0 → (∀ k, k < (lo + hi) / 2 + 1 → bagQ t (xs.getD k se0) < 0) from fun y hy hn k hk => (unhide HM) k ((lo + hi) / 2) (by omega) (by omega) (by rw [hy]; exact hn))
      generalize hx : xs.getD ((lo + hi) / 2) se0 = x at hc
      have HX0 := hide hx
      have HC := hide hc
      clear hx hc
      cases hn : decide (bagQ t x < 0) with
      | true =>
        have hn' : bagQ t x < 0 := of_decide_eq_true hn
        go_wp2_with (first
          | (refine wpList_load_at rfl _ _ rfl g (off + (lo + hi) / 2 * 2) rfl x.arr _ (unhide HC) Try.underlying54 rfl infoQ ?_)
          | (go_at_call 36; refine (sq1_any x t kb _ ((unhide HKB).keep HB.out)).mono ?_; rintro e w1 ⟨rfl, hb1⟩; have HB1 := hide hb1; clear hb1))
        go_roundw
        case rel => exact ⟨(lo + hi) / 2 + 1, hi, by go_num, rfl, by omega, hin, Lib.hid (onward HB.out (unhide HB1)), Lib.hid ⟨unhide HY x (unhide HX0) hn', HX.out.2⟩⟩
        case measure => simp [intOf]; omega
      | false =>
        have hn' : ¬ bagQ t x < 0 := of_decide_eq_false hn
        go_wp2_with (first
          | (refine wpList_load_at rfl _ _ rfl g (off + (lo + hi) / 2 * 2) rfl x.arr _ (unhide HC) Try.underlying54 rfl infoQ ?_)
          | (go_at_call 36; refine (sq1_any x t kb _ ((unhide HKB).keep HB.out)).mono ?_; rintro e w1 ⟨rfl, hb1⟩; have HB1 := hide hb1; clear hb1))
        go_roundw
        case rel => exact ⟨lo, (lo + hi) / 2, rfl, by go_num, by omega, by omega, Lib.hid (onward HB.out (unhide HB1)), Lib.hid ⟨HX.out.1, fun _ => by rw [unhide HX0]; omega⟩⟩
        case measure => simp [intOf]; omega
    · obtain rfl : hi = lo := by omega
      have HE := hide (lbF_eq (f := bagQ t) xs hi hin HX.out.1 HX.out.2)
      by_cases hn : hi < xs.length
      · obtain ⟨g, off, rfl, hg, hc⟩ := se_at ((unhide HI).keep HB.out) (i := hi) hn
        have HQ := hide (show ∀ y, xs.getD hi se0 = y → (bagQ t y = 0 → hasF (bagQ t) xs = true) ∧ (bagQ t y ≠ 0 → hasF (bagQ t) xs = false) from fun y hy => ⟨fun h => hasF_yes (d := se0) (unhide HE) hn (by rw [hy]; exact h), fun h => hasF_no (d := se0) (unhide HE) hn (by rw [hy]; exact h)⟩)
        generalize hx : xs.getD hi se0 = x at hc
        have HX0 := hide hx
        have HC := hide hc
        clear hx hc
        cases hq : decide (bagQ t x = 0) with
        | true =>
          have hq' : bagQ t x = 0 := of_decide_eq_true hq
          go_wp2_with (first
            | (refine wpList_load_at_w rfl _ _ rfl g (off + hi * 2) rfl x.arr _ (unhide HC) Try.underlying54 rfl infoQ ?_)
            | (go_at_call 36; refine (sq1_any x t kb _ ((unhide HKB).keep HB.out)).mono ?_; rintro e w1 ⟨rfl, hb1⟩; have HB1 := hide hb1; clear hb1))
          go_ret2
          exact ⟨by rw [unhide HE, (unhide HQ x (unhide HX0)).1 hq']; rfl, onward HB.out (unhide HB1)⟩
        | false =>
          have HQ' := hide (show ¬ bagQ t x = 0 from of_decide_eq_false hq)
          have hb : (bagQ t x == 0) = false := by simpa using unhide HQ'
          clear hq
          go_wp2_with (first
            | (refine wpList_load_at_w rfl _ _ rfl g (off + hi * 2) rfl x.arr _ (unhide HC) Try.underlying54 rfl infoQ ?_)
            | (go_at_call 36; refine (sq1_any x t kb _ ((unhide HKB).keep HB.out)).mono ?_; rintro e w1 ⟨rfl, hb1⟩; have HB1 := hide hb1; clear hb1))
          go_ret2
          exact ⟨by rw [unhide HE, (unhide HQ x (unhide HX0)).2 (unhide HQ')]; rfl, onward HB.out (unhide HB1)⟩
      · go_wp2
        go_ret2
        exact ⟨by rw [unhide HE, hasF_end (unhide HE) hn]; rfl, HB.out⟩

set_option maxRecDepth 100000 in
theorem search_any (b : Nat) (l : List Se) (t : Int) (A : Option Addr) (c : Nat) (w : World) (hv : ValQ l) (h : SesIn b w A l) :
    Calls Try.prog 32 #[.slice A l.length c, .int .i64 t, .func (.func 30) #[] #[]] w
      fun e w' => e = .returned (.tuple #[.int .i64 (lbF (bagQ t) l : Nat), .bool (hasSe l t)]) ∧ Below w.heap.size w w' := by
  obtain ⟨W1, hW⟩ : ∃ W1 : World, w.alloc (.cells #[.func (.func 30) #[] #[]] 57) = W1 := ⟨_, rfl⟩
  have b1 : Below w.heap.size w W1 := by rw [← hW]; exact below_new (Below.refl _ _) _
  have hk : KeyAt W1 w.heap.size := by rw [← hW]; unfold KeyAt; rw [Lib.cell_of_heap (heap_alloc_new w _)]; rfl
  have HC := hide (bsq_any b A c l t w.heap.size W1 hk (h.keep b1) (by have := hv.len; omega) (mono_bagQ hv.asc t))
  have B1 := hide b1
  have HF := hide (hasq_is (t := t) hv.asc)
  clear h hv b1 hk
  go_enter Try.func32, Try.ntmps32
  go_wp2_with (go_at_call 35; refine (unhide HC).mono ?_; rintro e w1 ⟨rfl, hb1⟩; have HB1 := hide hb1; clear hb1)
  go_ret2
  exact ⟨by rw [unhide HF]; rfl, onward (unhide B1) (unhide HB1)⟩
abbrev cusO (A : Option Addr) (n c : Nat) : Obj := .cells #[.slice A n c] 27
set_option maxRecDepth 100000 in
theorem qfind_any (b : Nat) (l : List Se) (t : Int) (A : Option Addr) (c : Nat) (w : World) (hv : ValQ l) (h : SesIn b w A l) :
    Calls Try.prog 25 #[cusV A l.length c, .int .i64 t] w
      fun e w' => e = .returned (.tuple #[.int .i64 (lbF (bagQ t) l : Nat), .bool (hasSe l t)]) ∧ Below w.heap.size w w' := by
  have z0 : (w.alloc (cusO A l.length c)).cell? ⟨w.heap.size, 0, none⟩ = some (.slice A l.length c) := by rw [Lib.cell_of_heap (heap_alloc_new w _)]; rfl
  have b1 := (Below.refl w.heap.size w).alloc (Nat.le_refl _) (cusO A l.length c)
  have HC := hide (search_any b l t A c _ hv (h.keep b1))
  have B1 := hide b1
  clear h hv b1
  go_enter Try.func25, Try.ntmps25
  go_wp2_with (go_at_call 32; refine (unhide HC).mono ?_; rintro e w1 ⟨rfl, hb1⟩; have HB1 := hide hb1; clear hb1)
  go_ret2
  exact ⟨rfl, onward (unhide B1) (unhide HB1)⟩
end Go.Proofs.Ytbjpcajhceapkaa
