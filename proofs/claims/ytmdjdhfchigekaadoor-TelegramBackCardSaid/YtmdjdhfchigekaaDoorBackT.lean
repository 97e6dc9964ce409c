/-
  TelegramBack: the walk.
-/
import Derived.Test.YtmdjdhfchigekaaDoorTelO
import Derived.Test.YtmdjdhfchigekaaDoorTelV
namespace Go.Proofs.YtmdjdhfchigekaaDoor
open Go.RowKit

theorem format_back {s : ByteArray} (b : Nat) (A : Option Addr) (c : Nat) (w : World) (h : (parse s).err = 0) (hE : ElsIn b w A (parse s).tel.els) :
    Calls Tryd.prog 14 #[.agg #[.string (parse s).tel.kind, .string (parse s).tel.change, .slice A (parse s).tel.els.length c]] w fun e w' => e = .returned (.tuple #[.string s, .int .i64 0]) ∧ Below w.heap.size w w' := by
  obtain ⟨h1, h2, _, _⟩ := parse_back h
  have := format_ok b (parse s).tel A c w h1 hE
  rw [h2] at this
  exact this

set_option maxHeartbeats 2000000 in
theorem tback_any (A : Option Addr) (len cap : Nat) (x : ByteArray) (w : World) (hcap : len ≤ cap) (hA : IntsIn w.heap.size w A len) :
    Calls Tryd.prog 4 #[.slice A len cap, .string x] w fun e w' => e = .returned (.bool true) ∧ Below w.heap.size w w' := by
  go_enter Tryd.func4, Tryd.ntmps4
  go_wp2_with fail
  refine (new_any A len cap w hcap hA).mono ?_
  rintro e w1 ⟨rfl, hs1, hb1⟩
  go_wp2_with fail
  refine (telegram_any _ _ _ hs1).mono ?_
  rintro e w2 ⟨t, T, c, rfl, hF, hE2, hs2, hg2⟩
  have B1 := below_reads hb1 hg2 (Nat.le_refl _) hb1.size
  have hlt2 : w.heap.size < w2.heap.size := hs2.lt
  have B2 := Lib.hid (below_new B1 (.cells #[.string t.kind, .string t.change, .slice T t.els.length c] 24))
  have X2 := TBox.new w2 t.kind t.change (.slice T t.els.length c) 24
  have E2 := Lib.hid (hE2.keep ((Below.refl w2.heap.size w2).alloc (Nat.le_refl _) (.cells #[.string t.kind, .string t.change, .slice T t.els.length c] 24)))
  have V := Lib.hid (few_ok hF)
  have hlt2' : w.heap.size < (w2.alloc (.cells #[.string t.kind, .string t.change, .slice T t.els.length c] 24)).heap.size := by rw [World.size_alloc]; omega
  have L2 := Lib.hid hlt2'
  clear hb1 hs1 hs2 hg2 hE2 hF B1 hlt2 hlt2'
  go_wp2_with fail
  refine (format_ok _ _ _ _ _ V.out E2.out).mono ?_
  rintro e w3 ⟨rfl, hb3⟩
  have X3 := X2.keep hb3
  have E3 := Lib.hid (E2.out.keep hb3)
  have B3 := Lib.hid (onward B2.out hb3)
  have L3 := Lib.hid (Nat.lt_of_lt_of_le L2.out hb3.size)
  clear X2 E2 B2 L2 hb3
  go_wp2_with fail
  refine (parse_ok w.heap.size _ V.out L3.out).mono ?_
  rintro e w4 ⟨U, c', rfl, hU, hb4⟩
  have b4 := (Below.refl w4.heap.size w4).alloc (Nat.le_refl _) (.cells #[.string t.kind, .string t.change, .slice U t.els.length c'] 24)
  have B4 := Lib.hid (below_new (onward B3.out hb4) (.cells #[.string t.kind, .string t.change, .slice U t.els.length c'] 24))
  have X4 := (X3.keep hb4).keep b4
  have Y4 := TBox.new w4 t.kind t.change (.slice U t.els.length c') 24
  have E4 := Lib.hid ((E3.out.keep hb4).keep b4)
  have U4 := Lib.hid (hU.keep b4)
  have L4 := Lib.hid (Nat.lt_of_lt_of_le (Nat.lt_of_lt_of_le L3.out hb4.size) b4.size)
  clear X3 E3 B3 L3 hU b4 hb4
  obtain ⟨x0, x1, x2⟩ := X4
  obtain ⟨y0, y1, y2⟩ := Y4
  go_wp2_with fail
  refine (rsame_ok _ _ _ _ _ _ _ (ok_small V.out) E4.out U4.out).mono ?_
  rintro e w5 ⟨rfl, hb5⟩
  have z0 := kept hb5 x0
  have z1 := kept hb5 x1
  have z2 := kept hb5 x2
  have u0 := kept hb5 y0
  have u1 := kept hb5 y1
  have u2 := kept hb5 y2
  have E5 := Lib.hid (E4.out.keep hb5)
  have U5 := Lib.hid (U4.out.keep hb5)
  have B5 := Lib.hid (onward B4.out hb5)
  have L5 := Lib.hid (Nat.lt_of_lt_of_le L4.out hb5.size)
  clear x0 x1 x2 y0 y1 y2 E4 U4 B4 L4 hb5
  go_wp2_with fail
  refine (same_ok _ _ _ _ _ _ _ (ok_small V.out) E5.out U5.out).mono ?_
  rintro e w6 ⟨rfl, hb6⟩
  have B6 := Lib.hid (onward B5.out hb6)
  have L6 := Lib.hid (Nat.lt_of_lt_of_le L5.out hb6.size)
  clear z0 z1 z2 u0 u1 u2 E5 U5 B5 L5 hb6
  go_wp2_with fail
  refine (parse_any w.heap.size x _ L6.out).mono ?_
  rintro e w7 ⟨P, d, rfl, hP, hb7⟩
  have b7 := (Below.refl w7.heap.size w7).alloc (Nat.le_refl _) (.cells #[.string (parse x).tel.kind, .string (parse x).tel.change, .slice P (parse x).tel.els.length d] 24)
  have B7 := Lib.hid (below_new (onward B6.out hb7) (.cells #[.string (parse x).tel.kind, .string (parse x).tel.change, .slice P (parse x).tel.els.length d] 24))
  have P7 := Lib.hid (hP.keep b7)
  clear B6 L6 hb7 hP b7 V
  by_cases he : (parse x).err = 0
  · have h0 : ((parse x).err != 0) = false := by rw [he]; rfl
    have hsz : ¬ (3000 : Int) < (x.size : Int) := by have := (parse_back he).2.2.2; omega
    have HE := Lib.hid he
    clear he
    go_wp2_with fail
    refine (format_back _ _ _ _ HE.out P7.out).mono ?_
    rintro e w8 ⟨rfl, hb8⟩
    have B8 := Lib.hid (onward B7.out hb8)
    clear hb8
    go_wp2_with fail
    refine (tawake_any _).mono ?_
    rintro e w9 ⟨rfl, hb9⟩
    go_wp2
    go_ret
    exact ⟨rfl, onward B8.out hb9⟩
  · have h0 : ((parse x).err != 0) = true := by rw [bne_iff_ne]; exact he
    by_cases hsz : (3000 : Int) < (x.size : Int)
    all_goals
      go_wp2_with fail
      refine (tawake_any _).mono ?_
      rintro e w9 ⟨rfl, hb9⟩
      go_wp2
      go_ret
      exact ⟨rfl, onward B7.out hb9⟩

theorem tback_law (A : Option Addr) (len cap : Nat) (hcap : len ≤ cap) {w : World} (hA : IntsIn w.heap.size w A len) (x : ByteArray) (_hx : x.size ≤ maxLen) :
    Calls Tryd.prog 4 #[.slice A len cap, .string x] w fun e w' => e = .returned (.bool true) ∧ Below w.heap.size w w' := tback_any A len cap x w hcap hA
end Go.Proofs.YtmdjdhfchigekaaDoor
