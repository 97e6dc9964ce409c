/-
  TelegramSame: the walk.
-/
import Derived.Test.YtmdjdhfchigekaaDoorTelO
import Derived.Test.YtmdjdhfchigekaaDoorTelV
import Derived.Test.YtmdjdhfchigekaaDoorOpenT
namespace Go.Proofs.YtmdjdhfchigekaaDoor
open Go.RowKit

theorem IntsIn.later {w w' : World} {A : Option Addr} {n : Nat} (h : IntsIn w.heap.size w A n) (hb : Below w.heap.size w w') : IntsIn w'.heap.size w' A n := fun hn => by
  obtain ⟨g, off, hA, hg, hx⟩ := h hn
  have := hb.size
  refine ⟨g, off, hA, by omega, fun i hi => ?_⟩
  obtain ⟨x, hx⟩ := hx i hi
  exact ⟨x, kept hb hx⟩
theorem TBox.grown {w w1 : World} {b g : Nat} {K C : ByteArray} {v : Value} (h : TBox w b K C v) (hg : w.grownBy w1 (some g)) (hn : b ≠ g) : TBox w1 b K C v :=
  ⟨hg.cell h.1 (by simpa using hn), hg.cell h.2.1 (by simpa using hn), hg.cell h.2.2 (by simpa using hn)⟩
theorem same_after {b : Nat} {t u : Tel} {A A' : Option Addr} {c c' : Nat} {W : World} (hS : SmallT t) (h : ElsIn b W A t.els) (h' : ElsIn b W A' u.els) {x : Bool} (hx : sameT t u = x) (s : After W) :
    Calls Tryd.prog 20 #[.agg #[.string t.kind, .string t.change, .slice A t.els.length c], .agg #[.string u.kind, .string u.change, .slice A' u.els.length c']] s.to fun e w' => e = .returned (.bool x) ∧ Below s.to.heap.size s.to w' := by
  subst hx
  exact same_tel b t u A A' c c' s.to hS (h.keep s.is) (h'.keep s.is)
theorem rsame_after {b : Nat} {t u : Tel} {A A' : Option Addr} {c c' : Nat} {W : World} (hS : SmallT t) (h : ElsIn b W A t.els) (h' : ElsIn b W A' u.els) {x : Bool} (hx : sameT t u = x) (s : After W) :
    Calls Tryd.prog 19 #[.agg #[.string t.kind, .string t.change, .slice A t.els.length c], .agg #[.string u.kind, .string u.change, .slice A' u.els.length c']] s.to fun e w' => e = .returned (.bool x) ∧ Below s.to.heap.size s.to w' := by
  subst hx
  exact rsame_any b t u A A' c c' s.to hS (h.keep s.is) (h'.keep s.is)

set_option maxHeartbeats 4000000 in
theorem tsame_any (A : Option Addr) (len cap : Nat) (A' : Option Addr) (len' cap' : Nat) (a b : Tel) (P Q : Option Addr) (c d : Nat) (w : World) (hcap : len ≤ cap) (hA : IntsIn w.heap.size w A len) (hcap' : len' ≤ cap') (hA' : IntsIn w.heap.size w A' len')
    (hP : ∀ b', w.heap.size ≤ b' → ElsIn b' w P a.els) (hQ : ∀ b', w.heap.size ≤ b' → ElsIn b' w Q b.els) :
    Calls Tryd.prog 7 #[.slice A len cap, .slice A' len' cap', .agg #[.string a.kind, .string a.change, .slice P a.els.length c], .agg #[.string b.kind, .string b.change, .slice Q b.els.length d]] w fun e w' => e = .returned (.bool true) ∧ Below w.heap.size w w' := by
  have b1 := (Below.refl w.heap.size w).alloc (Nat.le_refl _) (.cells #[.string a.kind, .string a.change, .slice P a.els.length c] 24)
  have b0 := b1.alloc (by rw [World.size_alloc]; omega) (.cells #[.string b.kind, .string b.change, .slice Q b.els.length d] 24)
  have X := (TBox.new w a.kind a.change (.slice P a.els.length c) 24).alloc (.cells #[.string b.kind, .string b.change, .slice Q b.els.length d] 24)
  have Y := TBox.new (w.alloc (.cells #[.string a.kind, .string a.change, .slice P a.els.length c] 24)) b.kind b.change (.slice Q b.els.length d) 24
  rw [World.size_alloc] at Y
  have hz0 : ((w.alloc (.cells #[.string a.kind, .string a.change, .slice P a.els.length c] 24)).alloc (.cells #[.string b.kind, .string b.change, .slice Q b.els.length d] 24)).heap.size = w.heap.size + 1 + 1 := by rw [World.size_alloc, World.size_alloc]
  have HP := hide fun b' (h : w.heap.size ≤ b') => (hP b' h).keep b0
  have HQ := hide fun b' (h : w.heap.size ≤ b') => (hQ b' h).keep b0
  have I1 := Lib.hid (hA.later b0)
  have I2 := Lib.hid (hA'.later b0)
  have B0 := Lib.hid b0
  clear hP hQ hA hA' b0 b1
  go_enter Tryd.func7, Tryd.ntmps7
  obtain ⟨x0, x1, x2⟩ := X
  obtain ⟨y0, y1, y2⟩ := Y
  go_wp2_with fail
  generalize (w.alloc (.cells #[.string a.kind, .string a.change, .slice P a.els.length c] 24)).alloc (.cells #[.string b.kind, .string b.change, .slice Q b.els.length d] 24) = W0 at *
  refine (light_any w.heap.size a P c W0 (unhide HP _ (Nat.le_refl _))).mono ?_
  rintro e w1 ⟨rfl, hb1⟩
  have X1 : TBox w1 w.heap.size a.kind a.change (.slice P a.els.length c) := ⟨kept hb1 x0, kept hb1 x1, kept hb1 x2⟩
  have Y1 : TBox w1 (w.heap.size + 1) b.kind b.change (.slice Q b.els.length d) := ⟨kept hb1 y0, kept hb1 y1, kept hb1 y2⟩
  have HP1 := hide fun b' (h : w.heap.size ≤ b') => (unhide HP b' h).keep hb1
  have HQ1 := hide fun b' (h : w.heap.size ≤ b') => (unhide HQ b' h).keep hb1
  have J1 := Lib.hid (I1.out.later hb1)
  have J2 := Lib.hid (I2.out.later hb1)
  have B1 := Lib.hid (onward B0.out hb1)
  have Z1 := Lib.hid (show w.heap.size + 1 + 1 ≤ w1.heap.size by have := hb1.size; omega)
  clear x0 x1 x2 y0 y1 y2 HP HQ I1 I2 B0 hb1 hz0
  cases hla : lightB a with
  | false =>
    go_wp2_with fail
    refine (tawake_any _).mono ?_
    rintro e w9 ⟨rfl, hb9⟩
    go_wp2
    go_ret
    exact ⟨rfl, onward B1.out hb9⟩
  | true =>
  have SA := hide (light_small hla)
  clear hla
  obtain ⟨x0, x1, x2⟩ := X1
  obtain ⟨y0, y1, y2⟩ := Y1
  go_wp2_with fail
  refine (light_any w.heap.size b Q d w1 (unhide HQ1 _ (Nat.le_refl _))).mono ?_
  rintro e w2 ⟨rfl, hb2⟩
  have X2 : TBox w2 w.heap.size a.kind a.change (.slice P a.els.length c) := ⟨kept hb2 x0, kept hb2 x1, kept hb2 x2⟩
  have Y2 : TBox w2 (w.heap.size + 1) b.kind b.change (.slice Q b.els.length d) := ⟨kept hb2 y0, kept hb2 y1, kept hb2 y2⟩
  have HP2 := hide fun b' (h : w.heap.size ≤ b') => (unhide HP1 b' h).keep hb2
  have HQ2 := hide fun b' (h : w.heap.size ≤ b') => (unhide HQ1 b' h).keep hb2
  have K1 := Lib.hid (J1.out.later hb2)
  have K2 := Lib.hid (J2.out.later hb2)
  have B2 := Lib.hid (onward B1.out hb2)
  have Z2 := Lib.hid (show w.heap.size + 1 + 1 ≤ w2.heap.size by have := hb2.size; have := Z1.out; omega)
  clear x0 x1 x2 y0 y1 y2 HP1 HQ1 J1 J2 B1 hb2 Z1
  cases hlb : lightB b with
  | false =>
    go_wp2_with fail
    refine (tawake_any _).mono ?_
    rintro e w9 ⟨rfl, hb9⟩
    go_wp2
    go_ret
    exact ⟨rfl, onward B2.out hb9⟩
  | true =>
  have SB := hide (light_small hlb)
  clear hlb
  go_wp2_with fail
  refine (new_any A len cap w2 hcap K1.out).mono ?_
  rintro e w3 ⟨rfl, hs3, hb3⟩
  go_wp2_with fail
  refine (telegram_any _ _ _ hs3).mono ?_
  rintro e w4 ⟨t, T, k, rfl, hF, hE4, hs4, hg4⟩
  have ne0 : w.heap.size ≠ w2.heap.size := by have := Z2.out; omega
  have ne1 : w.heap.size + 1 ≠ w2.heap.size := by have := Z2.out; omega
  have bb := below_reads hb3 hg4 (Nat.le_refl _) hb3.size
  have X4 := (X2.keep hb3).grown hg4 ne0
  have Y4 := (Y2.keep hb3).grown hg4 ne1
  have hle2 : w.heap.size ≤ w2.heap.size := by have := Z2.out; omega
  have P4 := Lib.hid (((unhide HP2 _ hle2).keep hb3).grown hg4)
  have Q4 := Lib.hid (((unhide HQ2 _ hle2).keep hb3).grown hg4)
  have E4 := Lib.hid hE4
  have M2 := Lib.hid (K2.out.later bb)
  have B4 := Lib.hid (onward B2.out bb)
  have V := Lib.hid hF
  have Z4 := Lib.hid (show w.heap.size + 1 + 1 ≤ w4.heap.size by have := bb.size; have := Z2.out; omega)
  clear X2 Y2 HP2 HQ2 K1 K2 B2 hs3 hb3 hs4 hg4 hE4 hF ne0 ne1 bb Z2 hle2
  go_wp2_with fail
  refine (new_any A' len' cap' w4 hcap' M2.out).mono ?_
  rintro e w5 ⟨rfl, hs5, hb5⟩
  go_wp2_with fail
  refine (telegram_any _ _ _ hs5).mono ?_
  rintro e w6 ⟨u, U, l, rfl, hF, hE6, hs6, hg6⟩
  have ne0 : w.heap.size ≠ w4.heap.size := by have := Z4.out; omega
  have ne1 : w.heap.size + 1 ≠ w4.heap.size := by have := Z4.out; omega
  have bb := below_reads hb5 hg6 (Nat.le_refl _) hb5.size
  have bo := (Below.refl w6.heap.size w6).alloc (Nat.le_refl _) (.cells #[.string t.kind, .string t.change, .slice T t.els.length k] 24)
  have bp := bo.alloc (by rw [World.size_alloc]; omega) (.cells #[.string u.kind, .string u.change, .slice U u.els.length l] 24)
  have X6 := ((X4.keep hb5).grown hg6 ne0).keep bp
  have Y6 := ((Y4.keep hb5).grown hg6 ne1).keep bp
  have P6 := Lib.hid ((((P4.out.other (Nat.le_refl _)).keep hb5).grown hg6).keep bp)
  have Q6 := Lib.hid ((((Q4.out.other (Nat.le_refl _)).keep hb5).grown hg6).keep bp)
  have E6 := Lib.hid ((((E4.out.other (Nat.le_refl _)).keep hb5).grown hg6).keep bp)
  have U6 := Lib.hid (hE6.keep bp)
  have B6 := Lib.hid (onward (onward B4.out bb) bp)
  have S6 := (TBox.new w6 t.kind t.change (.slice T t.els.length k) 24).alloc (.cells #[.string u.kind, .string u.change, .slice U u.els.length l] 24)
  have R6 := TBox.new (w6.alloc (.cells #[.string t.kind, .string t.change, .slice T t.els.length k] 24)) u.kind u.change (.slice U u.els.length l) 24
  rw [World.size_alloc] at R6
  have V' := Lib.hid (few_small V.out)
  clear X4 Y4 P4 Q4 E4 M2 B4 hs5 hb5 hs6 hg6 hE6 hF ne0 ne1 bb bo bp V Z4
  go_wp2_with fail
  generalize (w6.alloc (.cells #[.string t.kind, .string t.change, .slice T t.els.length k] 24)).alloc (.cells #[.string u.kind, .string u.change, .slice U u.els.length l] 24) = W at *
  obtain ⟨x, hx⟩ : ∃ x, sameT t u = x := ⟨_, rfl⟩
  obtain ⟨y, hy⟩ : ∃ y, sameT a b = y := ⟨_, rfl⟩
  have T1 := hide fun s => same_after (c := k) (c' := l) V'.out E6.out U6.out hx s
  have T2 := hide fun s => rsame_after (c := k) (c' := l) V'.out E6.out U6.out hx s
  have T3 := hide fun s => same_after (c := c) (c' := d) (unhide SA) P6.out Q6.out hy s
  have T4 := hide fun s => rsame_after (c := c) (c' := d) (unhide SA) P6.out Q6.out hy s
  have T5 := hide fun s => same_after (c := c) (c' := c) (unhide SA) P6.out P6.out (sameT_iff.2 rfl) s
  have T6 := hide fun s => same_after (c := k) (c' := k) V'.out E6.out E6.out (sameT_iff.2 rfl) s
  clear hx hy P6 Q6 E6 U6 V' SA SB
  obtain ⟨a0, a1, a2⟩ := X6
  obtain ⟨b0, b1, b2⟩ := Y6
  obtain ⟨e0, e1, e2⟩ := S6
  obtain ⟨f0, f1, f2⟩ := R6
  replace a0 := After.cell a0
  replace a1 := After.cell a1
  replace a2 := After.cell a2
  replace b0 := After.cell b0
  replace b1 := After.cell b1
  replace b2 := After.cell b2
  replace e0 := After.cell e0
  replace e1 := After.cell e1
  replace e2 := After.cell e2
  replace f0 := After.cell f0
  replace f1 := After.cell f1
  replace f2 := After.cell f2
  cases x <;> cases y
  all_goals
    refine wp_region_after (by kernel_rfl) (by kernel_rfl) ?_
    repeat (go_big_quiet_step ((first
      | (go_at_call 20; (first | (with_reducible exact After.call (unhide T1 _)) | (with_reducible exact After.call (unhide T3 _)) | (with_reducible exact After.call (unhide T5 _)) | (with_reducible exact After.call (unhide T6 _))))
      | (go_at_call 19; (first | (with_reducible exact After.call (unhide T2 _)) | (with_reducible exact After.call (unhide T4 _))))
      | (go_at_call 9; exact After.call (tawake_any _)))))
    refine wpQuiet_nil ?_
    rintro _ ⟨t, rfl⟩
    go_wp2
    go_ret
    exact ⟨rfl, onward B6.out t.is⟩

theorem tsame_law (A : Option Addr) (len cap : Nat) (hcap : len ≤ cap) {w : World} (hA : IntsIn w.heap.size w A len) (A' : Option Addr) (len' cap' : Nat) (hcap' : len' ≤ cap') (hA' : IntsIn w.heap.size w A' len')
    (a : Tel) (P : Option Addr) (c : Nat) (hP : ∀ b', w.heap.size ≤ b' → ElsIn b' w P a.els) (b : Tel) (Q : Option Addr) (d : Nat) (hQ : ∀ b', w.heap.size ≤ b' → ElsIn b' w Q b.els) :
    Calls Tryd.prog 7 #[.slice A len cap, .slice A' len' cap', .agg #[.string a.kind, .string a.change, .slice P a.els.length c], .agg #[.string b.kind, .string b.change, .slice Q b.els.length d]] w fun e w' => e = .returned (.bool true) ∧ Below w.heap.size w w' :=
  tsame_any A len cap A' len' cap' a b P Q c d w hcap hA hcap' hA' hP hQ
end Go.Proofs.YtmdjdhfchigekaaDoor
