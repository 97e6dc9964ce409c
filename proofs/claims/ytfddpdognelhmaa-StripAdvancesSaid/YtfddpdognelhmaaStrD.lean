/-
  Strips (layer 9): contracts of the document's own bags, of putting a bag on a strip, of the statements' windows, and of their sanity check.
-/
import Derived.Test.YtfddpdognelhmaaStrC
import Derived.Test.YtfddpdognelhmaaCpyG
namespace Go.Proofs.Ytfddpdognelhmaa
open Go.RowKit

set_option maxRecDepth 100000 in
set_option maxHeartbeats 2000000 in
theorem rbags_any (b : Nat) (s : List Int) (A : Option Addr) (c : Nat) (w : World) (hz : s.length ≤ 1000000) (h : NumsIn b w A s) :
    Calls Try.prog 18 #[.slice A s.length c] w (IntsO (sBags s) w) := by
  obtain ⟨i0, hi1, hz0, hz1, hz2⟩ := info_parts linfo_int
  have Hi := hide hi1
  have Hz0 := hide hz0
  have Hz1 := hide hz1
  have Hz2 := hide hz2
  have HH := hide h
  have s1 : IntKind.i64.wrap ((s.length : Int) - 1) = (s.length : Int) - 1 := IntWalk.i64_in _ (by omega)
  clear h hi1 hz0 hz1 hz2
  go_enter Try.func18, Try.ntmps18
  go_wp2
  go_loopw [3, 4] (fun v iv wr => ∃ m : Nat, m ≤ s.length ∧ iv = .int .i64 ((m : Int) - 1) ∧ wr.ownsRow w.heap.size 3 1 v (sBk s m).length ((sBk s m).map (Value.int .i64)) ∧ Below w.heap.size w wr) (fun _ iv _ => (intOf iv + 1).toNat)
  case atStart => exact ⟨s.length, Nat.le_refl _, rfl, by rw [sBk_end]; exact World.ownsRow_nil _ _ _ _, Below.refl _ _⟩
  case round =>
    obtain ⟨m, hm, rfl, hown, hb⟩ := hrel
    obtain ⟨wo, rfl⟩ : ∃ wo : World, wo = wr := ⟨_, rfl⟩
    have HO := hide hown
    have HB := hide hb
    have hsz := hb.size
    rcases Nat.eq_zero_or_pos m with rfl | hmp
    · have m0 : ¬ (0 : Int) ≤ ((0 : Nat) : Int) - 1 := by omega
      rw [sBk_all] at HO
      clear hown hb
      go_wp2
      go_ret
      exact ⟨_, rfl, unhide HO, unhide HB⟩
    · obtain ⟨k, rfl⟩ : ∃ k, m = k + 1 := ⟨m - 1, by omega⟩
      have hk : k < s.length := by omega
      have ek : ((k + 1 : Nat) : Int) - 1 = (k : Int) := by omega
      rw [ek]
      obtain ⟨g, off, rfl, _, c0⟩ := num_at ((unhide HH).keep hb) hk
      have kl : (k : Int) < (s.length : Int) := by omega
      have k0 : (0 : Int) ≤ (k : Int) := by omega
      have s2 : IntKind.i64.wrap ((k : Int) - 1) = (k : Int) - 1 := IntWalk.i64_in _ (by omega)
      have hl := sBk_len s (k + 1)
      have HS := hide (sBk_step hk)
      clear hown hb ek hmp
      cases hy : (s.getD k 0 != 0) with
      | false =>
        have HQ := hide (show sBk s k = sBk s (k + 1) from by rw [unhide HS, if_pos (by rwa [bne_eq_false_iff_eq] at hy), List.append_nil])
        generalize s.getD k 0 = y at *
        go_wp2
        go_roundw
        case rel => exact ⟨k, by omega, rfl, by rw [unhide HQ]; exact unhide HO, unhide HB⟩
        case measure => simp [intOf] <;> omega
      | true =>
        have HQ := hide (show sBk s k = sBk s (k + 1) ++ [s.getD k 0] from by rw [unhide HS, if_neg (by rwa [bne_iff_ne] at hy)])
        generalize s.getD k 0 = y at *
        generalize sBk s (k + 1) = xs at *
        go_wp2_with (at_builtin; refine wpList_append_own _ rfl _ _ 22 rfl w.heap.size 3 i0 (.int .i64 0) 1 8 Try.underlying22 (unhide Hi) (unhide Hz0) (unhide Hz1) (unhide Hz2) rfl (by decide) _ _ _ rfl ((unhide HO).alloc _) ⟨wo.heap.size, 0, none⟩ 1 1 [.int .i64 y] rfl rfl ?c1 ?c2 ?c3 ?c4 ?c5 ?_)
        case c1 => exact lone_new wo _ _
        case c2 =>
          intro u hu
          simp at hu
          subst hu
          rfl
        case c3 => unfold maxLen; omega
        case c4 => omega
        case c5 => rw [World.size_alloc]; omega
        intro v' w2 hown2 hgrow _
        have HO2 := hide hown2
        have HB2 := hide (((unhide HB).alloc hsz _).grown hgrow (by rw [World.size_alloc]; omega) (fun g hg => ((unhide HO).lt g hg).1))
        clear hown2 hgrow
        go_wp2
        go_roundw
        case rel =>
          refine ⟨k, by omega, rfl, ?_, unhide HB2⟩
          rw [unhide HQ, List.map_append, List.length_append]
          exact unhide HO2
        case measure => simp [intOf] <;> omega

/-- What is owned reads as its numbers. -/
theorem nums_own {base b n cap : Nat} {w : World} {A : Option Addr} {l : List Int} (h : w.ownsRow base 3 1 (.slice A n cap) n (l.map (Value.int .i64))) (hb : b < base ∨ w.heap.size ≤ b) : NumsIn b w A l := fun hn => by
  have hl : l.length = n := by have := h.1; rw [List.length_map] at this; omega
  rcases h.2 with ⟨_, h0⟩ | ⟨g, cap', cur, hv, hbg, hg, _, _, _, ht⟩
  · omega
  · injection hv with hA
    have hlt := (Array.getElem?_eq_some_iff.1 hg).1
    refine ⟨g, 0, hA, by omega, fun i hi => ?_⟩
    rw [Nat.zero_add, Lib.cell_of_heap hg, ← Array.getElem?_toList]
    have : (cur.toList.take (n * 1))[i]? = some (.int .i64 (l.getD i 0)) := by
      rw [ht, List.getElem?_map, List.getElem?_eq_getElem hi, at_k hi]; rfl
    rw [List.getElem?_take] at this
    split at this
    · exact this
    · cases this

/-- The windows with a bag in the first one, if it can be put there. -/
def sPush (s : List Int) (x : Int) : Option (List Int) := if s.length = 0 ∨ s.getD 0 0 ≠ 0 ∨ x = 0 then none else some (s.set 0 x)
def Pushed (o : Option (List Int)) (w : World) (e : Ending) (w' : World) : Prop :=
  ∃ A n c, e = .returned (.tuple #[.slice A n c, .bool o.isSome]) ∧ n = (o.getD []).length ∧ NumsIn w'.heap.size w' A (o.getD []) ∧ Below w.heap.size w w'
theorem pushed_no (w : World) {s : List Int} {x : Int} (h : s.length = 0 ∨ s.getD 0 0 ≠ 0 ∨ x = 0) : Pushed (sPush s x) w (.returned (.tuple #[.slice none 0 0, .bool false])) w := by
  unfold sPush; rw [if_pos h]
  exact ⟨none, 0, 0, rfl, rfl, NumsIn.nil _ _ _, Below.refl _ _⟩
theorem pushed_yes {w w' : World} {s : List Int} {x : Int} (h : ¬ (s.length = 0 ∨ s.getD 0 0 ≠ 0 ∨ x = 0)) {q cap : Nat} (ho : w'.ownsRow w.heap.size 3 1 (.slice (some ⟨q, 0, none⟩) s.length cap) s.length ((s.map (Value.int .i64)).set 0 (.int .i64 x))) (hb : Below w.heap.size w w') :
    Pushed (sPush s x) w (.returned (.tuple #[.slice (some ⟨q, 0, none⟩) s.length cap, .bool true])) w' := by
  unfold sPush; rw [if_neg h]
  refine ⟨_, s.length, cap, rfl, (List.length_set).symm, ?_, hb⟩
  rw [← List.map_set] at ho
  exact nums_own (l := s.set 0 x) ho (.inr (Nat.le_refl _))
theorem src_nums {b : Nat} {w : World} {A : Option Addr} {s : List Int} (h : NumsIn b w A s) : 0 < s.length → ∃ g off, A = some ⟨g, off, none⟩ ∧ ∀ j u, (s.map (Value.int .i64))[j]? = some u → w.cell? ⟨g, off + j, none⟩ = some u := fun hn => by
  obtain ⟨g, off, hA, _, hc⟩ := h hn
  refine ⟨g, off, hA, fun j u hu => ?_⟩
  rw [List.getElem?_map] at hu
  cases hj : s[j]? with
  | none => rw [hj] at hu; cases hu
  | some v =>
    rw [hj] at hu
    cases hu
    have hlt := (List.getElem?_eq_some_iff.1 hj).1
    have := hc j hlt
    rwa [List.getD_eq_getElem?_getD, hj] at this
theorem own_lit0 (w : World) : (w.alloc (.cells #[] 3)).ownsRow w.heap.size 3 1 (.slice (some ⟨w.heap.size, 0, none⟩) 0 0) 0 [] := World.ownsRow_lit w #[] 0 (Nat.le_refl _) (Nat.zero_le _) rfl
theorem own_some {w : World} {base n c : Nat} {A : Option Addr} {t : TypeId} {xs : List Value} (h : w.ownsRow base t 1 (.slice A n c) n xs) (hn : 0 < n) : ∃ q, A = some ⟨q, 0, none⟩ := by
  rcases h.2 with ⟨_, h0⟩ | ⟨g, cap, cur, hv, _⟩
  · omega
  · injection hv with hA; exact ⟨g, hA⟩
/-- The row of a copy, with a bag in its first window. -/
theorem push_row {w w2 : World} {q cap n : Nat} {xs : List Value} {u : Value} (hown : w2.ownsRow w.heap.size 3 1 (.slice (some ⟨q, 0, none⟩) n cap) n xs) (hb : Below w.heap.size w w2) :
    (w2.setCell ⟨q, 0, none⟩ u).ownsRow w.heap.size 3 1 (.slice (some ⟨q, 0, none⟩) n cap) n (xs.set 0 u) ∧ Below w.heap.size w (w2.setCell ⟨q, 0, none⟩ u) :=
  ⟨own_put hown u, hb.setCell (p := ⟨q, 0, none⟩) (hown.lt q rfl).1 _⟩

set_option maxHeartbeats 2000000 in
theorem clone_any (b : Nat) (s : List Int) (A : Option Addr) (c : Nat) (w : World) (hz : s.length ≤ 1000000) (hp : 0 < s.length) (h : NumsIn b w A s) :
    Calls Try.prog 29 #[.slice A s.length c] w fun e w' => ∃ q cap, e = .returned (.slice (some ⟨q, 0, none⟩) s.length cap) ∧ w'.ownsRow w.heap.size 3 1 (.slice (some ⟨q, 0, none⟩) s.length cap) s.length (s.map (Value.int .i64)) ∧ Below w.heap.size w w' := by
  obtain ⟨i0, hi1, hz0, hz1, hz2⟩ := info_parts linfo_int
  have Hi := hide hi1
  have Hz0 := hide hz0
  have Hz1 := hide hz1
  have Hz2 := hide hz2
  have b1 := (Below.refl w.heap.size w).alloc (Nat.le_refl _) (.cells #[] 3)
  have HSr := hide (src_nums (h.keep b1))
  have HOw := hide (own_lit0 w)
  have HB := hide b1
  have HP := hide hp
  obtain ⟨g, off, hA, _, _⟩ := h hp
  subst hA
  have hnl := fun W : World => Lib.run_eql_slice_nil (P := Try.prog) W 22 3 (some ⟨g, off, none⟩) s.length c 0 0 Try.underlying22
  clear h hi1 hz0 hz1 hz2 b1 hp
  go_enter Try.func29, Try.ntmps29
  go_wp2_with (at_builtin; refine wpList_copyG (H := w.heap.size) (e := w.heap.size) (xs := s.map (Value.int .i64)) (n := s.length) (c := c) (ts := 22) (te := 3) (size := 1) (bytes := 8) rfl _ _ rfl rfl rfl rfl Try.underlying22 (unhide Hi) (unhide Hz0) (unhide Hz1) (unhide Hz2) rfl (by decide) ?e1 ?e2 ?e3 ?e4 ?e5 (unhide HOw) (unhide HSr) ?_)
  case e1 => rw [List.length_map]; omega
  case e2 => unfold maxLen; omega
  case e3 => omega
  case e4 => intro u hu; obtain ⟨z, _, rfl⟩ := List.mem_map.1 hu; rfl
  case e5 => exact (unhide HB).size
  intro A' c' w2 hown hgrow
  obtain ⟨q, rfl⟩ := own_some hown (unhide HP)
  have HO2 := hide hown
  have HB2 := hide ((unhide HB).grown hgrow (unhide HB).size (fun k hk => by injection hk with hk; omega))
  clear hown hgrow
  go_wp2
  go_ret
  exact ⟨q, c', rfl, unhide HO2, unhide HB2⟩

set_option maxHeartbeats 2000000 in
theorem push_any (b : Nat) (s : List Int) (x : Int) (A : Option Addr) (c : Nat) (w : World) (hz : s.length ≤ 1000000) (h : NumsIn b w A s) :
    Calls Try.prog 12 #[.slice A s.length c, .int .i64 x] w (Pushed (sPush s x) w) := by
  by_cases hp : 0 < s.length
  · obtain ⟨g, off, rfl, _, c0⟩ := num_at h hp
    have l0 : ((s.length : Int) == 0) = false := by rw [beq_eq_false_iff_ne]; omega
    have p0 : (0 : Int) < (s.length : Int) := by omega
    rw [Nat.add_zero] at c0
    by_cases hs : s.getD 0 0 = 0
    · rw [hs] at c0
      by_cases hx : x = 0
      · have HR := hide (pushed_no w (s := s) (x := x) (.inr (.inr hx)))
        clear h hs
        subst hx
        go_enter Try.func12, Try.ntmps12
        go_wp2
        go_ret2
        exact unhide HR
      · have z0 : (x == 0) = false := by rw [beq_eq_false_iff_ne]; exact hx
        have HN := hide (show ¬ (s.length = 0 ∨ s.getD 0 0 ≠ 0 ∨ x = 0) by omega)
        have HC := hide (clone_any b s _ c w hz hp h)
        clear h hs hx
        go_enter Try.func12, Try.ntmps12
        go_wp2_with fail
        refine (unhide HC).mono ?_
        rintro e w2 ⟨q, cap, rfl, hown, hb⟩
        have q0 := hown.cellAt 0 (by omega)
        have qf := hown.frozenAt 0
        rw [List.getElem?_map, List.getElem?_eq_getElem hp] at q0
        have HQ := hide (push_row (u := .int .i64 x) hown hb)
        simp only [Option.map_some] at q0
        generalize s[0] = y at *
        clear hown hb c0
        go_wp2
        go_ret2
        exact pushed_yes (unhide HN) (unhide HQ).1 (unhide HQ).2
    · have z0 : (s.getD 0 0 != 0) = true := by rw [bne_iff_ne]; exact hs
      have HR := hide (pushed_no w (s := s) (x := x) (.inr (.inl hs)))
      generalize s.getD 0 0 = y at *
      clear h hs
      go_enter Try.func12, Try.ntmps12
      go_wp2
      go_ret2
      exact unhide HR
  · have h0 : s.length = 0 := by omega
    have HR := hide (pushed_no w (s := s) (x := x) (.inl h0))
    rw [h0]
    clear h h0 hp hz
    go_enter Try.func12, Try.ntmps12
    go_wp2
    go_ret2
    exact unhide HR

set_option maxHeartbeats 2000000 in
theorem rpush_any (b : Nat) (s : List Int) (x : Int) (A : Option Addr) (c : Nat) (w : World) (hz : s.length ≤ 1000000) (h : NumsIn b w A s) :
    Calls Try.prog 13 #[.slice A s.length c, .int .i64 x] w (Pushed (sPush s x) w) := by
  by_cases hp : 0 < s.length
  · have HH := hide h
    obtain ⟨g, off, rfl, _, c0⟩ := num_at h hp
    have l0 : ((s.length : Int) == 0) = false := by rw [beq_eq_false_iff_ne]; omega
    have p0 : (0 : Int) < (s.length : Int) := by omega
    rw [Nat.add_zero] at c0
    by_cases hs : s.getD 0 0 = 0
    · rw [hs] at c0
      by_cases hx : x = 0
      · have HR := hide (pushed_no w (s := s) (x := x) (.inr (.inr hx)))
        clear h hs
        subst hx
        go_enter Try.func13, Try.ntmps13
        go_wp2
        go_ret2
        exact unhide HR
      · have z0 : (x == 0) = false := by rw [beq_eq_false_iff_ne]; exact hx
        have HN := hide (show ¬ (s.length = 0 ∨ s.getD 0 0 ≠ 0 ∨ x = 0) by omega)
        obtain ⟨i0, hi1, hz0, hz1, hz2⟩ := info_parts linfo_int
        have Hi := hide hi1
        have Hz0 := hide hz0
        have Hz1 := hide hz1
        have Hz2 := hide hz2
        have b1 := (Below.refl w.heap.size w).alloc (Nat.le_refl _) (.cells #[] 3)
        have HSr := hide (src_nums ((unhide HH).keep b1))
        have HOw := hide (own_lit0 w)
        have HB := hide b1
        have HP := hide hp
        clear h hs hx hi1 hz0 hz1 hz2 b1
        go_enter Try.func13, Try.ntmps13
        go_wp2_with (at_builtin; refine wpList_copyG (H := w.heap.size) (e := w.heap.size) (xs := s.map (Value.int .i64)) (n := s.length) (c := c) (ts := 22) (te := 3) (size := 1) (bytes := 8) rfl _ _ rfl rfl rfl rfl Try.underlying22 (unhide Hi) (unhide Hz0) (unhide Hz1) (unhide Hz2) rfl (by decide) ?e1 ?e2 ?e3 ?e4 ?e5 (unhide HOw) (unhide HSr) ?_)
        case e1 => rw [List.length_map]; omega
        case e2 => unfold maxLen; omega
        case e3 => omega
        case e4 => intro u hu; obtain ⟨z, _, rfl⟩ := List.mem_map.1 hu; rfl
        case e5 => exact (unhide HB).size
        intro A' c' w2 hown hgrow
        obtain ⟨q, rfl⟩ := own_some hown (unhide HP)
        have hb2 := (unhide HB).grown hgrow (unhide HB).size (fun k hk => by injection hk with hk; omega)
        have q0 := hown.cellAt 0 (by omega)
        have qf := hown.frozenAt 0
        rw [List.getElem?_map, List.getElem?_eq_getElem hp] at q0
        have HQ := hide (push_row (u := .int .i64 x) hown hb2)
        simp only [Option.map_some] at q0
        generalize s[0] = y at *
        clear hown hgrow hb2 c0
        go_wp2
        go_ret2
        exact pushed_yes (unhide HN) (unhide HQ).1 (unhide HQ).2
    · have z0 : (s.getD 0 0 != 0) = true := by rw [bne_iff_ne]; exact hs
      have HR := hide (pushed_no w (s := s) (x := x) (.inr (.inl hs)))
      generalize s.getD 0 0 = y at *
      clear h hs
      go_enter Try.func13, Try.ntmps13
      go_wp2
      go_ret2
      exact unhide HR
  · have h0 : s.length = 0 := by omega
    have HR := hide (pushed_no w (s := s) (x := x) (.inl h0))
    rw [h0]
    clear h h0 hp hz
    go_enter Try.func13, Try.ntmps13
    go_wp2
    go_ret2
    exact unhide HR
end Go.Proofs.Ytfddpdognelhmaa
