/-
  Contracts of Candidates (both).
-/
import Derived.Test.YtaimmohfcjoclaaMatchR
import Derived.Test.YtaimmohfcjoclaaRunR
namespace Go.Proofs.Ytaimmohfcjoclaa
open Go.RowKit

/-- A slice of n plates: the plate i has the parts f i. -/
def Plates (w : World) (A : Option Addr) (n : Nat) (f : Nat → Int × Int × Int) : Prop :=
  0 < n → ∃ b off, A = some ⟨b, off, none⟩ ∧ ∀ i, i < n → w.cell? ⟨b, off + i * 3, none⟩ = some (.int .i64 (f i).1) ∧ w.cell? ⟨b, off + i * 3 + 1, none⟩ = some (.int .i64 (f i).2.1) ∧ w.cell? ⟨b, off + i * 3 + 2, none⟩ = some (.int .i64 (f i).2.2)
theorem Plates.keep {w w1 : World} {A : Option Addr} {n : Nat} {f : Nat → Int × Int × Int} (h : Plates w A n f) (hb : Below w.heap.size w w1) : Plates w1 A n f := fun hn => by
  obtain ⟨b, off, hA, hc⟩ := h hn
  exact ⟨b, off, hA, fun i hi => ⟨kept hb (hc i hi).1, kept hb (hc i hi).2.1, kept hb (hc i hi).2.2⟩⟩

/-- The indices below k of the plates that a pattern allows, ascending. -/
def candL (p : ByteArray) (f : Nat → Int × Int × Int) : Nat → List Int
  | 0 => []
  | k + 1 => if mat p (f k).1 (f k).2.1 (f k).2.2 then candL p f k ++ [(k : Int)] else candL p f k
theorem candL_length (p : ByteArray) (f : Nat → Int × Int × Int) (k : Nat) : (candL p f k).length ≤ k := by
  induction k with
  | zero => exact Nat.le_refl _
  | succ k ih =>
    unfold candL
    split
    · rw [List.length_append, List.length_singleton]; omega
    · omega
theorem candL_yes {p : ByteArray} {f : Nat → Int × Int × Int} {k : Nat} (h : mat p (f k).1 (f k).2.1 (f k).2.2 = true) : candL p f (k + 1) = candL p f k ++ [(k : Int)] := by rw [candL, if_pos h]
theorem candL_no {p : ByteArray} {f : Nat → Int × Int × Int} {k : Nat} (h : mat p (f k).1 (f k).2.1 (f k).2.2 = false) : candL p f (k + 1) = candL p f k := by rw [candL, if_neg (by rw [h]; exact Bool.false_ne_true)]

/-- A slice of integers of the call's own. -/
def IntsOk (xs : List Int) (w : World) (e : Ending) (w' : World) : Prop :=
  ∃ v, e = .returned v ∧ w'.ownsRow w.heap.size 3 1 v xs.length (xs.map (Value.int .i64)) ∧ Below w.heap.size w w'

theorem info_int : (Try.prog.info? 3).map (fun i => (i.zero, i.size, i.bytes)) = some (some (.int .i64 0), 1, 8) := by kernel_rfl
theorem owns_below {w w1 : World} {base : Nat} {e : TypeId} {size : Nat} {v : Value} {n : Nat} {xs : List Value} (h : w.ownsRow base e size v n xs) (hb : Below w.heap.size w w1) : w1.ownsRow base e size v n xs :=
  h.kept (row := none) ⟨hb.os, hb.tape, hb.output, hb.size, fun k hk _ => hb.block k hk⟩ (Classical.em _)
theorem one_new (w : World) (x : Value) (t : TypeId) : ∀ j u, [x][j]? = some u → (w.alloc (.cells #[x] t)).cell? ((⟨w.heap.size, 0, none⟩ : Addr).add j) = some u := by
  intro j u hj
  match j with
  | 0 => simp at hj; subst hj; simp [go_sem, Addr.add]
  | _ + 1 => simp at hj

set_option maxHeartbeats 1000000 in
theorem candidates_any (p : ByteArray) (A : Option Addr) (n c : Nat) (f : Nat → Int × Int × Int) (w : World) (hn : n ≤ 2000) (hA : Plates w A n f) :
    Calls Try.prog 33 #[.string p, .slice A n c] w (IntsOk (candL p f n) w) := by
  obtain ⟨i0, hi, hz0, hz1, hz2⟩ := info_parts info_int
  have Hi := Lib.hid hi
  have Hz0 := Lib.hid hz0
  have Hz1 := Lib.hid hz1
  have Hz2 := Lib.hid hz2
  clear hi hz0 hz1 hz2
  have HA := Lib.hid hA
  clear hA
  go_enter Try.func33, Try.ntmps33
  go_wp2_with fail
  go_loopw [5, 10] (fun v i wr => ∃ k : Nat, k ≤ n ∧ i = .int .i64 k ∧ wr.ownsRow w.heap.size 3 1 v (candL p f k).length ((candL p f k).map (Value.int .i64)) ∧ Below w.heap.size w wr) (fun _ i _ => n - (intOf i).toNat)
  case atStart => exact ⟨0, Nat.zero_le _, rfl, ⟨rfl, .inl ⟨rfl, rfl⟩⟩, Below.refl _ _⟩
  case round =>
    obtain ⟨k, hk, rfl, hown, hb⟩ := hrel
    have HO := Lib.hid hown
    have HB := Lib.hid hb
    have hsz := hb.size
    clear hown hb
    by_cases hlt : k < n
    · obtain ⟨b, off, rfl, hc⟩ := HA.out.keep HB.out (by omega)
      obtain ⟨c0, c1, c2⟩ := hc k hlt
      clear hc
      have i1 : (k : Int) < (n : Int) := by omega
      have z0 : (0 : Int) ≤ (k : Int) := by omega
      have hl := candL_length p f k
      generalize hx : (f k).1 = x at *
      generalize hy : (f k).2.1 = y at *
      generalize hzz : (f k).2.2 = z at *
      cases hm : mat p x y z with
      | true =>
        have hcl := Lib.hid (candL_yes (p := p) (f := f) (k := k) (by rw [hx, hy, hzz]; exact hm))
        clear hx hy hzz
        go_wp2_with (first
          | (go_at_call 30; refine (matches_any p x y z _).mono ?_; rintro e w1 ⟨rfl, hb1⟩; have HO1 := Lib.hid (owns_below (HO.out.alloc _) hb1); have HB1 := Lib.hid (onward HB.out (boxed hb1)); clear hb1)
          | (at_builtin; refine wpList_append_own _ rfl _ _ 36 rfl w.heap.size 3 i0 (.int .i64 0) 1 8 Try.underlying36 Hi.out Hz0.out Hz1.out Hz2.out rfl (by decide) _ _ _ rfl (HO1.out.alloc _) ⟨w1.heap.size, 0, none⟩ 1 1 [.int .i64 (k : Int)] rfl rfl ?c1 ?c2 ?c3 ?c4 ?c5 ?_))
        case c1 => exact one_new w1 _ _
        case c2 =>
          intro u hu
          simp at hu
          subst hu
          rfl
        case c3 => unfold maxLen; omega
        case c4 => omega
        case c5 => rw [World.size_alloc]; have := HB1.out.size; omega
        intro v' w2 hown2 hgrow _
        have HO2 := Lib.hid hown2
        have HB2 : Hid (Below w.heap.size w w2) := Lib.hid ((HB1.out.alloc HB1.out.size _).grown hgrow (by rw [World.size_alloc]; have := HB1.out.size; omega) (fun g hg => (HO1.out.lt g hg).1))
        clear hown2 hgrow
        go_wp2
        go_roundw
        case rel =>
          refine ⟨k + 1, by omega, by go_num, ?_, HB2.out⟩
          rw [hcl.out, List.map_append, List.length_append]
          exact HO2.out
        case measure => simp [intOf]; omega
      | false =>
        have hcl := Lib.hid (candL_no (p := p) (f := f) (k := k) (by rw [hx, hy, hzz]; exact hm))
        clear hx hy hzz
        go_wp2_with (first
          | (go_at_call 30; refine (matches_any p x y z _).mono ?_; rintro e w1 ⟨rfl, hb1⟩; have HO1 := Lib.hid (owns_below (HO.out.alloc _) hb1); have HB1 := Lib.hid (onward HB.out (boxed hb1)); clear hb1))
        go_roundw
        case rel =>
          refine ⟨k + 1, by omega, by go_num, ?_, HB1.out⟩
          rw [hcl.out]
          exact HO1.out
        case measure => simp [intOf]; omega
    · obtain rfl : k = n := by omega
      go_wp2
      go_ret
      exact ⟨_, rfl, HO.out, HB.out⟩
end Go.Proofs.Ytaimmohfcjoclaa
