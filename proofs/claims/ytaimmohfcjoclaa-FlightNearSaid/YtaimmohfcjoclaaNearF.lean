/-
  FlightNear: the walk.
-/
import Derived.Test.YtaimmohfcjoclaaLegsF
import Derived.Lib.ConvBytes
namespace Go.Proofs.Ytaimmohfcjoclaa
open Go.RowKit

/-- N bytes that may be written. -/
def TxtN (N : Nat) (w : World) (b : Nat) (g : Nat → Int) : Prop := ∀ j, j < N → w.cell? ⟨b, j, none⟩ = some (.int .u8 (g j)) ∧ w.frozen? ⟨b, j, none⟩ = false
theorem TxtN.stored {N : Nat} {w : World} {b : Nat} {g : Nat → Int} (h : TxtN N w b g) (k : Nat) (hk : k < N) (x : Int) : TxtN N (w.setCell ⟨b, k, none⟩ (.int .u8 x)) b (fun j => if j = k then x else g j) := fun j hj => by
  refine ⟨?_, ?_⟩
  · show _ = some (Value.int .u8 (if j = k then x else g j))
    by_cases e : j = k
    · subst e
      rw [if_pos rfl]
      exact World.cell?_setCell_same _ _ _ (h j hj).1
    · rw [if_neg e, World.cell?_setCell_other _ _ _ _ (fun e' => e (congrArg Addr.off e').symm)]
      exact (h j hj).1
  · have := (h j hj).2
    simpa [go_sem] using this
theorem TxtN.keep {N : Nat} {w w1 : World} {b : Nat} {g : Nat → Int} (h : TxtN N w b g) (hb : Below w.heap.size w w1) : TxtN N w1 b g := fun j hj => by
  have hl := World.block_lt_of_cell? w _ (h j hj).1
  exact ⟨kept hb (h j hj).1, frz hb hl (h j hj).2⟩
theorem bytes_txtN (w : World) (e : TypeId) (s : ByteArray) : TxtN s.size (Lib.bytesWorld w e s) w.heap.size (fun j => ((s.data.toList.getD j 0).toNat : Int)) := fun j hj => by
  refine ⟨Lib.bytesWorld_cell w e s j (by omega), ?_⟩
  have h := Lib.bytesWorld_at_new w e s
  have hc : s.size ≤ (Lib.bytesCells w e s).size := by
    unfold Lib.bytesCells
    rw [Array.size_append, Array.size_map]
    have : s.data.size = s.size := rfl
    omega
  unfold World.frozen?
  rw [h]
  simp; omega
def strN (N : Nat) (g : Nat → Int) : ByteArray := strOfNums ((List.range N).map g)
theorem strN_size (N : Nat) (g : Nat → Int) : (strN N g).size = N := by unfold strN; rw [strOfNums_size]; simp
theorem conv_txtN {N : Nat} {w : World} {b cap : Nat} {g : Nat → Int} (h : TxtN N w b g) : (convert 48 9 (.slice (some ⟨b, 0, none⟩) N cap)).run Try.prog w = .ok (.string (strN N g)) w := by
  refine run_convert_bytes_arg (P := Try.prog) w 48 5 Try.underlying48 Try.underlying5 b 0 N cap ((List.range N).map g) (by simp) (fun i hi => ?_) 9 Try.underlying9
  rw [Nat.zero_add, (h i hi).1, List.getD_eq_getElem?_getD, List.getElem?_map, List.getElem?_range hi]; rfl

theorem ftxt_size {c s : ByteArray} {n d : Int} (h : fvl c n s d = true) : 9 ≤ (ftxt c n s d).size ∧ (ftxt c n s d).size ≤ 10 := by
  obtain ⟨z1, z2⟩ := fvl_sizes h
  have hT : ftxt c n s d = c ++ strOfNums (dgs n 4) ++ s ++ ⟨#[47]⟩ ++ strOfNums (dgs d 2) := by unfold ftxt; rw [h]; rfl
  have := (parts5 z1 (size_str n 4) z2 (size_str d 2) hT).1
  omega

set_option maxHeartbeats 4000000 in
theorem fnear_short (A : Option Addr) (len cap : Nat) (a x : Int) (tail : ByteArray) (w : World) (hcap : len ≤ cap) (hA : IntsIn w.heap.size w A len) (ht : (tail.size : Int) ≤ 20) :
    Calls Try.prog 11 #[.slice A len cap, .int .i64 a, .int .u8 x, .string tail] w fun e w' => e = .returned (.bool true) ∧ Below w.heap.size w w' := by
  go_enter Try.func11, Try.ntmps11
  go_wp2_with fail
  refine (new_any A len cap w hcap hA).mono ?_
  rintro e w1 ⟨rfl, hs1, hb1⟩
  go_wp2_with fail
  refine (anyflight_any _ _ _ hs1).mono ?_
  rintro e w2 ⟨c, n, s, d, rfl, hF, hs2, hg2⟩
  have hv := few_valid hF
  have B2 := Lib.hid (below_reads hb1 hg2 (Nat.le_refl _) hb1.size)
  clear hs1 hb1 hs2 hg2 hF
  go_wp2_with fail
  refine (rfformat_any _ _ _ _ _).mono ?_
  rintro e w3 ⟨rfl, hb3⟩
  have B3 := Lib.hid (onward B2.out hb3)
  have hz := ftxt_size hv
  have hsz3 := Lib.hid B3.out.size
  clear B2 hb3 hv
  generalize ftxt c n s d = T at *
  obtain ⟨m0, m1⟩ := modN_range a (T.size : Int) (by omega)
  obtain ⟨i, hi⟩ := Int.eq_ofNat_of_zero_le m0
  have hil : i < T.size := by omega
  have hcv := Lib.run_convert_string_bytes (P := Try.prog) w3 9 48 5 T Try.underlying9 Try.underlying48 Try.underlying5
  have q0 : ((T.size : Int) == 0) = false := by rw [beq_eq_false_iff_ne]; omega
  have hmod := fun W => mod_any a (T.size : Int) W (by omega) (by omega)
  rw [hi] at hmod
  have HM := hide hmod
  clear hmod m0 m1 hi
  go_wp2_with fail
  have X := bytes_txtN w3 5 T
  have B4 := onward B3.out (bytes_below w3 5 T)
  clear hcv B3
  generalize Lib.bytesWorld w3 5 T = V at *
  generalize (fun j => ((T.data.toList.getD j 0).toNat : Int)) = g0 at *
  refine (unhide HM _).mono ?_
  rintro e w4 ⟨rfl, rfl⟩
  obtain ⟨x1, x2⟩ := X i hil
  have HX := hide X
  have HB4 := Lib.hid B4
  clear X B4
  have i0 : (0 : Int) ≤ (i : Int) := by omega
  have i1 : (i : Int) < (T.size : Int) := by omega
  have i2 : (i : Int) ≤ (T.size : Int) := by omega
  go_wp2_with fail
  have X5 := TxtN.stored (unhide HX) i hil (bits BinOp.xor IntKind.u8 (g0 i) x)
  have hwb : w.heap.size ≤ w3.heap.size := by have := hsz3.out; omega
  have B5 := Lib.hid (HB4.out.setCell (p := ⟨w3.heap.size, i, none⟩) hwb (.int .u8 (bits BinOp.xor IntKind.u8 (g0 i) x)))
  clear HX HB4 x1 x2
  generalize V.setCell ⟨w3.heap.size, i, none⟩ (.int .u8 (bits BinOp.xor IntKind.u8 (g0 i) x)) = V5 at *
  generalize (fun j => if j = i then bits BinOp.xor IntKind.u8 (g0 i) x else g0 j) = g5 at *
  have hcv : (convert 48 9 (.slice (some ⟨w3.heap.size, 0, none⟩) T.size (grownCap w3 T.size 0 5))).run Try.prog V5.drew = .ok (.string (strN T.size g5)) V5.drew := conv_txtN (w := V5.drew) X5
  have hcvA : ∀ o, (convert 48 9 (.slice (some ⟨w3.heap.size, 0, none⟩) T.size (grownCap w3 T.size 0 5))).run Try.prog (V5.drew.alloc o) = .ok (.string (strN T.size g5)) (V5.drew.alloc o) := fun o => conv_txtN (w := V5.drew.alloc o) (TxtN.keep (w := V5.drew) X5 ((Below.refl _ _).alloc (Nat.le_refl _) o))
  have zb : (strN T.size g5).size = T.size := strN_size _ _
  generalize strN T.size g5 = bs at *
  have zz : ¬ 9223372036854775807 < T.size + tail.size := by omega
  go_region_held3 (fun y => (convert 48 9 (.slice (some ⟨w3.heap.size, 0, none⟩) T.size (grownCap w3 T.size 0 5))).run Try.prog y = .ok (.string bs) y) (first | exact hcv | exact hcvA _) (first | (go_at_call 27; refine (unhide HM _).mono ?_; rintro e w6 ⟨rfl, rfl⟩))
  have B6 : Below w.heap.size w (V5.alloc (.cells #[.string bs, .string (T.extract 0 i), .string (T ++ tail)] 9)).drew := (below_new B5.out _).drew
  obtain ⟨fs, p0, p1, p2, hsz⟩ : ∃ fs : Nat → ByteArray, fs 0 = bs ∧ fs 1 = T.extract 0 i ∧ fs 2 = T ++ tail ∧ ∀ j, (fs j).size ≤ maxLen := by
    refine ⟨fun j => if j = 0 then bs else if j = 1 then T.extract 0 i else T ++ tail, rfl, rfl, rfl, fun j => ?_⟩
    unfold maxLen
    by_cases h0 : j = 0
    · simp only [h0, if_pos]; omega
    · by_cases h1 : j = 1
      · simp only [h1, if_pos]
        rw [if_neg (by decide), size_ext]; omega
      · simp only [h0, h1, if_false]
        rw [ByteArray.size_append]; omega
  have C : ∀ j, j < 3 → (V5.alloc (.cells #[.string bs, .string (T.extract 0 i), .string (T ++ tail)] 9)).drew.cell? ⟨V5.heap.size, j, none⟩ = some (.string (fs j)) := three_strs p0 p1 p2
  have HC := hide C
  have HB6 := Lib.hid B6
  have HS := hide hsz
  clear p0 p1 p2 hcv hcvA C B6 hsz B5 X5
  generalize (V5.alloc (.cells #[.string bs, .string (T.extract 0 i), .string (T ++ tail)] 9)).drew = W6 at *
  generalize V5.heap.size = B at *
  go_wp2_with fail
  go_loopw [53] (fun iv wr => ∃ k : Nat, k ≤ 3 ∧ iv = .int .i64 k ∧ Below w.heap.size w wr ∧ (∀ j, j < 3 → wr.cell? ⟨B, j, none⟩ = some (.string (fs j)))) (fun iv _ => 3 - (intOf iv).toNat)
  case atStart => exact ⟨0, Nat.zero_le _, rfl, HB6.out, unhide HC⟩
  case round =>
    obtain ⟨k, hk, rfl, hbk, hck⟩ := hrel
    have HBK := Lib.hid hbk
    have HCK := hide hck
    clear hbk hck
    by_cases hlt : k < 3
    · have q := unhide HCK k hlt
      have hX := unhide HS k
      have k0 : (0 : Int) ≤ (k : Int) := by omega
      have k3 : (k : Int) < 3 := by omega
      generalize fs k = X at *
      go_wp2_with fail
      refine (fparse_any X _ hX).mono ?_
      rintro e w7 ⟨rfl, hb7⟩
      have HB7 := Lib.hid (below_new hb7 (.cells #[.string (fC X), .int .i64 (fN X), .string (fS X), .int .i64 (fD X)] 53))
      have F7 := Four.new w7 (fC X) (fN X) (fS X) (fD X) 53
      clear hb7 q
      go_wp2_with fail
      refine (rfparse_any X _).mono ?_
      rintro e w8 ⟨rfl, hb8⟩
      have HB8 := Lib.hid (below_new (onward HB7.out hb8) (.cells #[.string (fC X), .int .i64 (fN X), .string (fS X), .int .i64 (fD X)] 53))
      obtain ⟨c0, c1, c2, c3⟩ := (F7.keep hb8).alloc (.cells #[.string (fC X), .int .i64 (fN X), .string (fS X), .int .i64 (fD X)] 53)
      clear hb8 HB7 F7
      go_wp2
      go_roundw
      case rel => exact ⟨k + 1, by omega, by go_num, onward HBK.out HB8.out, fun j hj => kept HB8.out (unhide HCK j hj)⟩
      case measure => simp [intOf]; omega
    · obtain rfl : k = 3 := by omega
      go_wp2_with (go_at_call 41; refine (fawake_any _).mono ?_; rintro e w9 ⟨rfl, hb9⟩)
      go_ret
      exact ⟨rfl, onward HBK.out hb9⟩

set_option maxHeartbeats 400000 in
theorem fnear_long (A : Option Addr) (len cap : Nat) (a x : Int) (tail : ByteArray) (w : World) (ht : (20 : Int) < (tail.size : Int)) :
    Calls Try.prog 11 #[.slice A len cap, .int .i64 a, .int .u8 x, .string tail] w fun e w' => e = .returned (.bool true) ∧ Below w.heap.size w w' := by
  go_enter Try.func11, Try.ntmps11
  go_wp2_with (go_at_call 41; refine (fawake_any _).mono ?_; rintro e w9 ⟨rfl, hb9⟩)
  go_ret
  exact ⟨rfl, hb9⟩

theorem fnear_law (A : Option Addr) (len cap : Nat) (hcap : len ≤ cap) {w : World} (hA : IntsIn w.heap.size w A len) (a : Int) (_wa : (Lit.int .i64 a).wf = true) (x : Int) (_wx : (Lit.int .u8 x).wf = true) (tail : ByteArray) (_ht : tail.size ≤ maxLen) :
    Calls Try.prog 11 #[.slice A len cap, .int .i64 a, .int .u8 x, .string tail] w fun e w' => e = .returned (.bool true) ∧ Below w.heap.size w w' := by
  by_cases h : (20 : Int) < (tail.size : Int)
  · exact fnear_long A len cap a x tail w h
  · exact fnear_short A len cap a x tail w hcap hA (by omega)
end Go.Proofs.Ytaimmohfcjoclaa
