/-
  Contract of the document's own Candidates; two equal lists of integers are found equal.
-/
import Derived.Test.YtaimmohfcjoclaaCand
namespace Go.Proofs.Ytaimmohfcjoclaa
open Go.RowKit

set_option maxHeartbeats 1000000 in
theorem rcandidates_any (p : ByteArray) (A : Option Addr) (n c : Nat) (f : Nat → Int × Int × Int) (w : World) (hn : n ≤ 2000) (hA : Plates w A n f) :
    Calls Try.prog 34 #[.string p, .slice A n c] w (IntsOk (candL p f n) w) := by
  obtain ⟨i0, hi, hz0, hz1, hz2⟩ := info_parts info_int
  have Hi := Lib.hid hi
  have Hz0 := Lib.hid hz0
  have Hz1 := Lib.hid hz1
  have Hz2 := Lib.hid hz2
  clear hi hz0 hz1 hz2
  have HA := Lib.hid hA
  clear hA
  go_enter Try.func34, Try.ntmps34
  go_wp2_with fail
  go_loopw [5, 6] (fun v i wr => ∃ k : Nat, k ≤ n ∧ i = .int .i64 k ∧ wr.ownsRow w.heap.size 3 1 v (candL p f k).length ((candL p f k).map (Value.int .i64)) ∧ Below w.heap.size w wr) (fun _ i _ => n - (intOf i).toNat)
  case atStart => exact ⟨0, Nat.zero_le _, rfl, ⟨rfl, .inl ⟨rfl, rfl⟩⟩, Below.refl _ _⟩
  case round =>
    obtain ⟨k, hk, rfl, hown, hb⟩ := hrel
    have HO := Lib.hid hown
    have HB := Lib.hid hb
    have hsz := hb.size
    clear hown hb
    by_cases hlt : k < n
    · obtain ⟨b, off, rfl, hc⟩ := HA.out.keep HB.out (by omega)
      obtain ⟨c0, c1, c2⟩ := hc k hlt
      clear hc
      have i1 : (k : Int) < (n : Int) := by omega
      have z0 : (0 : Int) ≤ (k : Int) := by omega
      have hl := candL_length p f k
      generalize hx : (f k).1 = x at *
      generalize hy : (f k).2.1 = y at *
      generalize hzz : (f k).2.2 = z at *
      cases hm : mat p x y z with
      | true =>
        have hcl := Lib.hid (candL_yes (p := p) (f := f) (k := k) (by rw [hx, hy, hzz]; exact hm))
        clear hx hy hzz
        go_wp2_with (first
          | (go_at_call 31; refine (rmatches_any p x y z _).mono ?_; rintro e w1 ⟨rfl, hb1⟩; have HO1 := Lib.hid (owns_below HO.out hb1); have HB1 := Lib.hid (onward HB.out hb1); clear hb1)
          | (at_builtin; refine wpList_append_own _ rfl _ _ 36 rfl w.heap.size 3 i0 (.int .i64 0) 1 8 Try.underlying36 Hi.out Hz0.out Hz1.out Hz2.out rfl (by decide) _ _ _ rfl (HO1.out.alloc _) ⟨w1.heap.size, 0, none⟩ 1 1 [.int .i64 (k : Int)] rfl rfl ?c1 ?c2 ?c3 ?c4 ?c5 ?_))
        case c1 => exact one_new w1 _ _
        case c2 =>
          intro u hu
          simp at hu
          subst hu
          rfl
        case c3 => unfold maxLen; omega
        case c4 => omega
        case c5 => rw [World.size_alloc]; have := HB1.out.size; omega
        intro v' w2 hown2 hgrow _
        have HO2 := Lib.hid hown2
        have HB2 : Hid (Below w.heap.size w w2) := Lib.hid ((HB1.out.alloc HB1.out.size _).grown hgrow (by rw [World.size_alloc]; have := HB1.out.size; omega) (fun g hg => (HO1.out.lt g hg).1))
        clear hown2 hgrow
        go_wp2
        go_roundw
        case rel =>
          refine ⟨k + 1, by omega, by go_num, ?_, HB2.out⟩
          rw [hcl.out, List.map_append, List.length_append]
          exact HO2.out
        case measure => simp [intOf]; omega
      | false =>
        have hcl := Lib.hid (candL_no (p := p) (f := f) (k := k) (by rw [hx, hy, hzz]; exact hm))
        clear hx hy hzz
        go_wp2_with (first
          | (go_at_call 31; refine (rmatches_any p x y z _).mono ?_; rintro e w1 ⟨rfl, hb1⟩; have HO1 := Lib.hid (owns_below HO.out hb1); have HB1 := Lib.hid (onward HB.out hb1); clear hb1))
        go_roundw
        case rel =>
          refine ⟨k + 1, by omega, by go_num, ?_, HB1.out⟩
          rw [hcl.out]
          exact HO1.out
        case measure => simp [intOf]; omega
    · obtain rfl : k = n := by omega
      go_wp2
      go_ret
      exact ⟨_, rfl, HO.out, HB.out⟩

/-- Two slices of the call's own that hold the same integers are equal. -/
theorem ints_any (xs : List Int) (v1 v2 : Value) (B1 B2 : Nat) (w : World) (hl : xs.length ≤ 2000) (h1 : w.ownsRow B1 3 1 v1 xs.length (xs.map (Value.int .i64))) (h2 : w.ownsRow B2 3 1 v2 xs.length (xs.map (Value.int .i64))) :
    Calls Try.prog 32 #[v1, v2] w fun e w' => e = .returned (.bool true) ∧ Below w.heap.size w w' := by
  obtain ⟨_, ⟨rfl, h0⟩ | ⟨g1, c1, cur1, rfl, r1⟩⟩ := id h1
  · obtain ⟨_, ⟨rfl, _⟩ | ⟨g2, c2, cur2, rfl, r2⟩⟩ := id h2
    all_goals
      try rw [h0]
      go_enter Try.func32, Try.ntmps32
      go_wp2_with fail
      go_rounds 1
      go_ret
      exact ⟨rfl, Below.refl _ _⟩
  · obtain ⟨_, ⟨rfl, h0⟩ | ⟨g2, c2, cur2, rfl, r2⟩⟩ := id h2
    · rw [h0]
      go_enter Try.func32, Try.ntmps32
      go_wp2_with fail
      go_rounds 1
      go_ret
      exact ⟨rfl, Below.refl _ _⟩
    · have H1 := Lib.hid h1
      have H2 := Lib.hid h2
      clear h1 h2 r1 r2
      generalize hn : xs.length = n at *
      have HN := Lib.hid hn
      clear hn
      go_enter Try.func32, Try.ntmps32
      go_wp2_with fail
      go_loopw [5] (fun i wr => ∃ k : Nat, k ≤ n ∧ i = .int .i64 k ∧ Below w.heap.size w wr) (fun i _ => n - (intOf i).toNat)
      case atStart => exact ⟨0, Nat.zero_le _, rfl, Below.refl _ _⟩
      case round =>
        obtain ⟨k, hk, rfl, hb⟩ := hrel
        have HB := Lib.hid hb
        clear hb
        by_cases hlt : k < n
        · have e1 : (xs.map (Value.int .i64))[k]? = some (.int .i64 (xs.getD k 0)) := by
            have hk2 : k < xs.length := by rw [HN.out]; exact hlt
            rw [List.getElem?_map, List.getElem?_eq_getElem hk2, List.getD_eq_getElem?_getD, List.getElem?_eq_getElem hk2]; rfl
          have q1 := kept HB.out ((World.ownsRow.cellAt H1.out k (by omega)).trans e1)
          have q2 := kept HB.out ((World.ownsRow.cellAt H2.out k (by omega)).trans e1)
          generalize xs.getD k 0 = z at *
          have i1 : (k : Int) < (n : Int) := by omega
          have z0 : (0 : Int) ≤ (k : Int) := by omega
          clear e1
          go_wp2_with fail
          go_quiet (fail)
          clear q1 q2
          go_wp2
          go_roundw
          case rel => exact ⟨k + 1, by omega, by go_num, draws HB.out _⟩
          case measure => simp [intOf]; omega
        · obtain rfl : k = n := by omega
          go_wp2
          go_ret
          exact ⟨rfl, HB.out⟩
end Go.Proofs.Ytaimmohfcjoclaa
