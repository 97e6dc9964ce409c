/-
  Custody (layer 16): what the laws want of the program's functions (a structure of contracts); keep.In at a list; awake.
-/
import Derived.Test.YtbjpcajhceapkaaRowK
import Derived.Test.YtbjpcajhceapkaaLibA
import Derived.Test.YtbjpcajhceapkaaNumO
namespace Go.Proofs.Ytbjpcajhceapkaa
open Go.RowKit

/-- A seal. -/
structure Se where
  bag : Int
  im : Int
def Se.cs (x : Se) : List Value := [.int .i64 x.bag, .int .i64 x.im]
abbrev SesIn (b : Nat) (w : World) (A : Option Addr) (l : List Se) : Prop := RowIn Se.cs b w A l
abbrev cusV (A : Option Addr) (n c : Nat) : Value := .agg #[.slice A n c]
def okSe (x : Se) : Prop := (1 ≤ x.bag ∧ x.bag ≤ 40) ∧ (1 ≤ x.im ∧ x.im ≤ 1048576)
structure ValQ (l : List Se) : Prop where
  ok : ∀ x ∈ l, okSe x
  asc : l.Pairwise fun x y => x.bag < y.bag
def hasSe (l : List Se) (bag : Int) : Bool := decide (bag ∈ l.map Se.bag)
def insSe (x : Se) : List Se → List Se
  | [] => [x]
  | y :: l => if y.bag < x.bag then y :: insSe x l else x :: y :: l
def clearE (l : List Se) (bag im : Int) : Int := if 1 ≤ bag ∧ bag ≤ 40 ∧ 1 ≤ im ∧ im ≤ 1048576 then (if hasSe l bag then 5 else 0) else 1
def clearL (l : List Se) (bag im : Int) : List Se := if clearE l bag im = 0 then insSe ⟨bag, im⟩ l else []
def revE (l : List Se) (bag : Int) : Int := if hasSe l bag then 0 else 6
def revL (l : List Se) (bag : Int) : List Se := if revE l bag = 0 then l.filter fun x => decide (x.bag ≠ bag) else []
def openF (t s : Int) (X Y : List Int) : Bool := decide (t = s ∧ 1 ≤ t ∧ t ≤ 40 ∧ t ∈ X ∧ t ∈ Y)
def openB (t s : Int) (X Y : List Int) : Int := if openF t s X Y then t else 0
def GivesQ (w : World) (l : List Se) (er : Int) (e : Ending) (w' : World) : Prop :=
  ∃ A c, e = .returned (.tuple #[cusV A l.length c, .int .i64 er]) ∧ (∀ b, b < w.heap.size ∨ w'.heap.size ≤ b → SesIn b w' A l) ∧ Below w.heap.size w w' ∧ l.length ≤ c
/-- A list of numbers that fits. -/
structure SmX (X : List Int) : Prop where
  len : X.length ≤ 1000
  wf : ∀ x ∈ X, (Lit.int .i64 x).wf = true
theorem sm_one {x : Int} (h : (Lit.int .i64 x).wf = true) : SmX [x] := ⟨by simp, fun y hy => by rw [List.mem_singleton.1 hy]; exact h⟩
structure CusOk : Prop where
  clear : ∀ (b : Nat) (l : List Se) (bag im : Int) (A : Option Addr) (c : Nat) (w : World), ValQ l → SesIn b w A l → l.length ≤ c → Calls Try.prog 11 #[cusV A l.length c, .int .i64 bag, .int .i64 im] w (GivesQ w (clearL l bag im) (clearE l bag im))
  revoke : ∀ (b : Nat) (l : List Se) (bag : Int) (A : Option Addr) (c : Nat) (w : World), ValQ l → SesIn b w A l → l.length ≤ c → Calls Try.prog 13 #[cusV A l.length c, .int .i64 bag] w (GivesQ w (revL l bag) (revE l bag))
  cleared : ∀ (b : Nat) (l : List Se) (A : Option Addr) (c : Nat) (w : World), ValQ l → SesIn b w A l → l.length ≤ c → Calls Try.prog 17 #[cusV A l.length c] w fun e w' => ∃ A c, e = .returned (.slice A l.length c) ∧ (∀ b, b < w.heap.size ∨ w'.heap.size ≤ b → NumsIn b w' A (l.map Se.bag)) ∧ Below w.heap.size w w'
  openv : ∀ (b : Nat) (t s : Int) (X Y : List Int) (A A' : Option Addr) (c c' : Nat) (w : World), SmX X → SmX Y → NumsIn b w A X → NumsIn b w A' Y → Calls Try.prog 20 #[.agg #[.int .i64 t, .int .i64 s, .slice A X.length c, .slice A' Y.length c']] w fun e w' => e = .returned (.tuple #[.int .i64 (openB t s X Y), .bool (openF t s X Y)]) ∧ Below w.heap.size w w'
theorem intsq_list {b : Nat} {w : World} {A : Option Addr} {n : Nat} (h : IntsIn b w A n) (hb : b ≤ w.heap.size) : ∃ l : List Int, l.length = n ∧ NumsIn w.heap.size w A l := by
  rcases Nat.eq_zero_or_pos n with rfl | hp
  · exact ⟨[], rfl, NumsIn.nil _ _ _⟩
  · obtain ⟨g, off, hA, hg, hc⟩ := h hp
    refine ⟨(List.range n).map fun i => if hi : i < n then Classical.choose (hc i hi) else 0, by rw [List.length_map, List.length_range], fun _ => ⟨g, off, hA, by omega, fun i hi => ?_⟩⟩
    rw [List.length_map, List.length_range] at hi
    rw [at_k (by rw [List.length_map, List.length_range]; exact hi), List.getElem_map, List.getElem_range, dif_pos hi]
    exact Classical.choose_spec (hc i hi)
theorem inq_any (b : Nat) (l : List Int) (x : Int) (A : Option Addr) (c : Nat) (w : World) (hz : l.length ≤ 1000000) (h : NumsIn b w A l) :
    Calls Try.prog 23 #[.slice A l.length c, .int .i64 x] w fun e w' => e = .returned (.bool (decide (x ∈ l))) ∧ w = w' := by
  have HL := hide h
  clear h
  go_enter Try.func23, Try.ntmps23
  go_wp2
  go_loop [5] (fun i => ∃ k : Nat, k ≤ l.length ∧ i = .int .i64 k ∧ Hid (∀ j, j < k → l.getD j 0 ≠ x)) (fun i => l.length - (intOf i).toNat)
  case atStart => exact ⟨0, Nat.zero_le _, rfl, Lib.hid fun j hj => absurd hj (Nat.not_lt_zero _)⟩
  case round =>
    obtain ⟨k, hk, rfl, HJ⟩ := hrel
    by_cases hlt : k < l.length
    · obtain ⟨g, off, rfl, _, hc⟩ := (unhide HL) (by omega)
      have c0 := hc k hlt
      have kl : (k : Int) < (l.length : Int) := by omega
      have k0 : (0 : Int) ≤ (k : Int) := by omega
      have HM := hide (show l.getD k 0 ∈ l by rw [at_k hlt]; exact List.getElem_mem _)
      have HN := hide (show l.getD k 0 ≠ x → ∀ j, j < k + 1 → l.getD j 0 ≠ x from fun hn j hj => by
        by_cases e : j = k
        · rw [e]; exact hn
        · exact (unhide HJ) j (by omega))
      generalize l.getD k 0 = y at *
      clear hc
      by_cases he : y = x
      · have hq : (y == x) = true := by rw [beq_iff_eq]; exact he
        have HE := hide he
        clear he
        go_wp2
        go_ret
        exact ⟨ret_bool (by rw [decide_eq_true (by rw [← unhide HE]; exact unhide HM)]), rfl⟩
      · have hq : (y == x) = false := by rw [beq_eq_false_iff_ne]; exact he
        have HE := hide ((unhide HN) he)
        clear he
        go_wp2
        go_round
        case rel => exact ⟨k + 1, by omega, by go_num, Lib.hid (unhide HE)⟩
        case measure => simp [intOf]; omega
    · have kl : ¬ (k : Int) < (l.length : Int) := by omega
      have HM := hide (show x ∉ l from fun hm => by
        obtain ⟨j, hj, e⟩ := List.getElem_of_mem hm
        exact (unhide HJ) j (by omega) (by rw [at_k hj]; exact e))
      go_wp2
      go_ret
      exact ⟨ret_bool (by rw [decide_eq_false (unhide HM)]), rfl⟩
theorem one_in {b : Nat} {w : World} {x : Int} (h : w.heap.size ≠ b) : NumsIn b (w.alloc (.cells #[.int .i64 x] 3)) (some ⟨w.heap.size, 0, none⟩) [x] := fun _ => by
  refine ⟨w.heap.size, 0, rfl, h, fun i hi => ?_⟩
  have hi0 : i = 0 := by simpa using hi
  subst hi0
  rw [Lib.cell_of_heap (heap_alloc_new w _)]; rfl
set_option maxRecDepth 100000 in
set_option maxHeartbeats 2000000 in
theorem awake_cus (P : CusOk) (w : World) : Calls Try.prog 19 #[] w fun e w' => e = .returned (.bool true) ∧ Below w.heap.size w w' := by
  have HP := hide P
  clear P
  go_enter Try.func19, Try.ntmps19
  go_wp2_with fail
  refine ((unhide HP).clear 0 [] 3 9 none 0 w ⟨(fun x hx => by cases hx), List.Pairwise.nil⟩ RowIn.nil (Nat.le_refl _)).mono ?_
  rintro e w1 ⟨A1, c1, rfl, hC, hb1, hc1⟩
  rw [show clearE [] 3 9 = 0 from rfl]
  have hl1 : clearL [] 3 9 = [⟨3, 9⟩] := rfl
  rw [hl1] at hC hc1 ⊢
  have hv1 : ValQ [⟨3, 9⟩] := ⟨fun x hx => by rw [List.mem_singleton.1 hx]; exact ⟨⟨by decide, by decide⟩, by decide, by decide⟩, List.pairwise_singleton _ _⟩
  obtain ⟨w2, hw2⟩ : ∃ w2 : World, w1.alloc (.cells #[.slice A1 1 c1] 27) = w2 := ⟨_, rfl⟩
  have b2 : Below w1.heap.size w1 w2 := by rw [← hw2]; exact (Below.refl _ _).alloc (Nat.le_refl _) _
  have hz2 : w2.heap.size = w1.heap.size + 1 := by rw [← hw2, World.size_alloc]
  have hx2 : w2.heap[w1.heap.size]? = some (.cells #[.slice A1 1 c1] 27) := by rw [← hw2]; exact heap_alloc_new w1 _
  obtain ⟨w3, hw3⟩ : ∃ w3 : World, w2.alloc (.cells #[.int .i64 3] 3) = w3 := ⟨_, rfl⟩
  have b3 : Below w2.heap.size w2 w3 := by rw [← hw3]; exact (Below.refl _ _).alloc (Nat.le_refl _) _
  have hx3 := heap_below hx2 b3
  have z0 : w3.cell? ⟨w1.heap.size, 0, none⟩ = some (.slice A1 1 c1) := by rw [Lib.cell_of_heap hx3]; rfl
  have n3 : NumsIn w1.heap.size w3 (some ⟨w2.heap.size, 0, none⟩) [3] := by rw [← hw3]; exact one_in (by omega)
  have HB3 := hide (onward (onward hb1 b2) b3)
  have HX3 := hide hx3
  have HN3 := hide n3
  have HW2 := hide hw2
  have HC1 := hide hc1
  have HV1 := hide hv1
  have HZ := hide (show w1.heap.size < w3.heap.size by have := b3.size; omega)
  have HCk := hide ((((hC w1.heap.size (.inr (Nat.le_refl _))).keep b2).keep b3))
  clear hb1 b2 b3 hx2 hx3 n3 hc1 hv1 hC hl1
  rw [hz2] at HN3
  have HN3 := hide (unhide HN3)
  go_wp2_with fail
  refine ((unhide HP).cleared w1.heap.size [⟨3, 9⟩] A1 c1 w3 (unhide HV1) (unhide HCk) (unhide HC1)).mono ?_
  rintro e w4 ⟨A4, c4, rfl, hN4, hb4⟩
  have HN4 := hide (hN4 w1.heap.size (.inl (unhide HZ)))
  have HN34 := hide ((unhide HN3).keep hb4)
  have HB4 := hide (onward (unhide HB3) hb4)
  have HX4 := hide (heap_below (unhide HX3) hb4)
  clear hN4 hb4
  go_wp2_with fail
  refine ((unhide HP).openv w1.heap.size 3 3 [3] [3] (some ⟨w1.heap.size + 1, 0, none⟩) A4 1 c4 w4 (sm_one rfl) (sm_one rfl) (unhide HN34) (unhide HN4)).mono ?_
  rintro e w5 ⟨rfl, hb5⟩
  rw [show openB 3 3 [3] [3] = 3 from rfl, show openF 3 3 [3] [3] = true from rfl]
  have hb45 := onward (unhide HB4) hb5
  have hx5 := heap_below (unhide HX4) hb5
  obtain ⟨w6, hw6⟩ : ∃ w6 : World, w5.alloc (.cells #[.int .i64 3] 3) = w6 := ⟨_, rfl⟩
  have b6 : Below w5.heap.size w5 w6 := by rw [← hw6]; exact (Below.refl _ _).alloc (Nat.le_refl _) _
  have hz6 : w6.heap.size = w5.heap.size + 1 := by rw [← hw6, World.size_alloc]
  obtain ⟨w7, hw7⟩ : ∃ w7 : World, w6.alloc (.cells #[.int .i64 3] 3) = w7 := ⟨_, rfl⟩
  have b7 : Below w6.heap.size w6 w7 := by rw [← hw7]; exact (Below.refl _ _).alloc (Nat.le_refl _) _
  have hlt5 := (Array.getElem?_eq_some_iff.1 hx5).1
  have n6 : NumsIn w1.heap.size w7 (some ⟨w5.heap.size, 0, none⟩) [3] := NumsIn.keep (by rw [← hw6]; exact one_in (by omega)) b7
  have n7 : NumsIn w1.heap.size w7 (some ⟨w5.heap.size + 1, 0, none⟩) [3] := by rw [← hz6, ← hw7]; exact one_in (by omega)
  have HN6 := hide n6
  have HN7 := hide n7
  have HB7 := hide (onward (onward hb45 b6) b7)
  have HX7 := hide (heap_below (heap_below hx5 b6) b7)
  clear n6 n7 b6 b7 hx5 hb45 hb5 hlt5
  go_wp2_with fail
  refine ((unhide HP).openv w1.heap.size 3 4 [3] [3] (some ⟨w5.heap.size, 0, none⟩) (some ⟨w5.heap.size + 1, 0, none⟩) 1 1 w7 (sm_one rfl) (sm_one rfl) (unhide HN6) (unhide HN7)).mono ?_
  rintro e w8 ⟨rfl, hb8⟩
  rw [show openB 3 4 [3] [3] = 0 from rfl, show openF 3 4 [3] [3] = false from rfl]
  have z8 : w8.cell? ⟨w1.heap.size, 0, none⟩ = some (.slice A1 1 c1) := by rw [Lib.cell_of_heap (heap_below (unhide HX7) hb8)]; rfl
  have HB8 := hide (onward (unhide HB7) hb8)
  clear hb8
  go_wp2
  go_ret
  exact ⟨rfl, unhide HB8⟩
end Go.Proofs.Ytbjpcajhceapkaa
