/-
  Readers that choose (Text, Pick, AnyFlight, Leg); texts and valid flights correspond.
-/
import Derived.Test.YtglgobmmmghdoaaGreatDoorNumR
import Derived.Test.YtglgobmmmghdoaaGreatDoorLibA
import Derived.Test.YtglgobmmmghdoaaGreatDoorLibF
import Derived.Lib.BufferOwn
import Derived.Test.YtglgobmmmghdoaaGreatDoorLibP

/- Few: Contracts of the readers that choose: Text, Pick, AnyFlight, Leg. -/
namespace Go.Proofs.YtglgobmmmghdoaaGreatDoor
open Go.RowKit

/-- One of the few flights. -/
def Few (c : ByteArray) (n : Int) (s : ByteArray) (d : Int) : Prop :=
  (c = ⟨#[83, 75]⟩ ∨ c = ⟨#[65, 89]⟩ ∨ c = ⟨#[52, 85]⟩) ∧ (n = 1 ∨ n = 123 ∨ n = 9999) ∧ (s = ByteArray.empty ∨ s = ⟨#[65]⟩) ∧ (d = 7 ∨ d = 8 ∨ d = 0 ∨ d = 99)
def fewC (i : Nat) : ByteArray := if i = 0 then ⟨#[83, 75]⟩ else if i = 1 then ⟨#[65, 89]⟩ else ⟨#[52, 85]⟩
def fewN (i : Nat) : Int := if i = 0 then 1 else if i = 1 then 123 else 9999
def fewS (i : Nat) : ByteArray := if i = 0 then ByteArray.empty else if i = 1 then ByteArray.empty else ⟨#[65]⟩
def fewD (i : Nat) : Int := if i = 0 then 7 else if i = 1 then 8 else if i = 2 then 0 else 99
theorem few_of (i j k l : Nat) : Few (fewC i) (fewN j) (fewS k) (fewD l) := by
  unfold Few fewC fewN fewS fewD
  refine ⟨?_, ?_, ?_, ?_⟩
  · by_cases h : i = 0 <;> by_cases h' : i = 1 <;> simp [*]
  · by_cases h : j = 0 <;> by_cases h' : j = 1 <;> simp [*]
  · by_cases h : k = 0 <;> by_cases h' : k = 1 <;> simp [*]
  · by_cases h : l = 0 <;> by_cases h' : l = 1 <;> by_cases h'' : l = 2 <;> simp [*]

set_option maxHeartbeats 1000000 in
theorem anyflight_any (B b : Nat) (w : World) (hS : Src B b w) :
    Calls Tryz.prog 40 #[.pointer (some ⟨b, 0, none⟩)] w fun e w' => ∃ c n s d, e = .returned (.agg #[.string c, .int .i64 n, .string s, .int .i64 d]) ∧ Few c n s d ∧ Src B b w' ∧ w.grownBy w' (some b) := by
  have R := (Rd.start (hS.keep ((Below.refl _ _).alloc (Nat.le_refl _) (.cells #[.string ⟨#[]⟩, .int .i64 0, .string ⟨#[]⟩, .int .i64 0] 28)))).alloc (.cells #[.string ⟨#[83, 75]⟩, .string ⟨#[65, 89]⟩, .string ⟨#[52, 85]⟩] 9)
  go_enter Tryz.func40, Tryz.ntmps40
  go_wp2_with fail
  have q := three_strs (w := w.alloc (.cells #[.string ⟨#[]⟩, .int .i64 0, .string ⟨#[]⟩, .int .i64 0] 28)) (f := fewC) (t := 9) rfl rfl rfl
  have hne : some (w.heap.size + 1) ≠ some b := by have := hS.lt; simp; omega
  rw [World.size_alloc] at q
  refine (text_any B b _ 3 fewC _ R.src (by omega) (by omega) hne q).mono ?_
  rintro e w1 ⟨i, _, rfl, hs1, hg1⟩
  have R1 := R.step hs1 hg1
  clear q R hs1 hg1 hne
  go_wp2_with fail
  have q := three_ints (w := w1) (f := fewN) (t := 3) (x := 1) (y := 123) (z := 9999) rfl rfl rfl
  have R2 := R1.alloc (.cells #[.int .i64 1, .int .i64 123, .int .i64 9999] 3)
  refine (pick_any B b _ 3 fewN _ R2.src (by omega) (by omega) R1.ne q).mono ?_
  rintro e w2 ⟨j, _, rfl, hs1, hg1⟩
  have R3 := R2.step hs1 hg1
  clear q R1 R2 hs1 hg1
  go_wp2_with fail
  have q := three_strs (w := w2) (f := fewS) (t := 9) (x := ⟨#[]⟩) (y := ⟨#[]⟩) (z := ⟨#[65]⟩) rfl rfl rfl
  have R4 := R3.alloc (.cells #[.string ⟨#[]⟩, .string ⟨#[]⟩, .string ⟨#[65]⟩] 9)
  refine (text_any B b _ 3 fewS _ R4.src (by omega) (by omega) R3.ne q).mono ?_
  rintro e w3 ⟨k, _, rfl, hs1, hg1⟩
  have R5 := R4.step hs1 hg1
  clear q R3 R4 hs1 hg1
  go_wp2_with fail
  have q := four_ints (w := w3) (f := fewD) (t := 3) (x := 7) (y := 8) (z := 0) (q := 99) rfl rfl rfl rfl
  have R6 := R5.alloc (.cells #[.int .i64 7, .int .i64 8, .int .i64 0, .int .i64 99] 3)
  refine (pick_any B b _ 4 fewD _ R6.src (by omega) (by omega) R5.ne q).mono ?_
  rintro e w4 ⟨l, _, rfl, hs1, hg1⟩
  have R7 := R6.step hs1 hg1
  clear q R5 R6 hs1 hg1
  have hne : some w.heap.size ≠ some b := by have := hS.lt; simp; omega
  have F := (Four.new w ⟨#[]⟩ 0 ⟨#[]⟩ 0 28).grown R7.gr hne
  have f0 : w4.frozen? ⟨w.heap.size, 0, none⟩ = false := by
    rw [World.frozen?_of_block (R7.gr.block w.heap.size (by simp) hne)]; simp [go_sem]
  have f1 : w4.frozen? ⟨w.heap.size, 1, none⟩ = false := by
    rw [World.frozen?_of_block (R7.gr.block w.heap.size (by simp) hne)]; simp [go_sem]
  have f2 : w4.frozen? ⟨w.heap.size, 2, none⟩ = false := by
    rw [World.frozen?_of_block (R7.gr.block w.heap.size (by simp) hne)]; simp [go_sem]
  have f3 : w4.frozen? ⟨w.heap.size, 3, none⟩ = false := by
    rw [World.frozen?_of_block (R7.gr.block w.heap.size (by simp) hne)]; simp [go_sem]
  obtain ⟨c0, c1, c2, c3⟩ := F
  go_wp2
  refine bodyPost_ret (v := .agg #[.string (fewC i), .int .i64 (fewN j), .string (fewS k), .int .i64 (fewD l)]) (by simp [results, go_sem, c0, c1, c2, c3]) rfl ?_
  have hg := Lib.grownBy_trans (World.grownBy_alloc w (.cells #[.string ⟨#[]⟩, .int .i64 0, .string ⟨#[]⟩, .int .i64 0] 28) (some b)) R7.gr
  refine ⟨_, _, _, _, rfl, few_of i j k l, R7.src.grown (row := some w.heap.size) (Lib.grownBy_setB (Lib.grownBy_setB (Lib.grownBy_setB (Lib.grownBy_setB (World.grownBy.refl _ _) _ _) _ _) _ _) _ _) (fun k hk => by have := hS.lt; injection hk with hk; omega), ?_⟩
  exact ((hg.setNew (Nat.le_refl _) 0 _).setNew (Nat.le_refl _) 1 _).setNew (Nat.le_refl _) 2 _ |>.setNew (Nat.le_refl _) 3 _
end Go.Proofs.YtglgobmmmghdoaaGreatDoor

/- FewL: Contract of Leg: one of a few legs. -/
namespace Go.Proofs.YtglgobmmmghdoaaGreatDoor
open Go.RowKit

def FewP (p k : ByteArray) : Prop := (p = ⟨#[67, 80, 72]⟩ ∨ p = ⟨#[65, 82, 78]⟩ ∨ p = ⟨#[79, 83, 76]⟩) ∧ (k = ⟨#[89]⟩ ∨ k = ⟨#[67]⟩ ∨ k = ⟨#[70]⟩)
def fewP (i : Nat) : ByteArray := if i = 0 then ⟨#[67, 80, 72]⟩ else if i = 1 then ⟨#[65, 82, 78]⟩ else ⟨#[79, 83, 76]⟩
def fewK (i : Nat) : ByteArray := if i = 0 then ⟨#[89]⟩ else if i = 1 then ⟨#[67]⟩ else ⟨#[70]⟩
theorem fewp_of (i j : Nat) : FewP (fewP i) (fewK j) := by
  unfold FewP fewP fewK
  refine ⟨?_, ?_⟩
  · by_cases h : i = 0 <;> by_cases h' : i = 1 <;> simp [*]
  · by_cases h : j = 0 <;> by_cases h' : j = 1 <;> simp [*]

/-- The cells of a new block of six, in a world that has grown. -/
theorem six_new {w w1 : World} {c s p k : ByteArray} {n d : Int} {t : TypeId} {b : Nat} (hg : (w.alloc (.cells #[.string c, .int .i64 n, .string s, .int .i64 d, .string p, .string k] t)).grownBy w1 (some b)) (hne : some w.heap.size ≠ some b) :
    (w1.cell? ⟨w.heap.size, 0, none⟩ = some (.string c) ∧ w1.cell? ⟨w.heap.size, 1, none⟩ = some (.int .i64 n) ∧ w1.cell? ⟨w.heap.size, 2, none⟩ = some (.string s) ∧ w1.cell? ⟨w.heap.size, 3, none⟩ = some (.int .i64 d) ∧ w1.cell? ⟨w.heap.size, 4, none⟩ = some (.string p) ∧ w1.cell? ⟨w.heap.size, 5, none⟩ = some (.string k)) ∧
    ∀ i, w1.frozen? ⟨w.heap.size, i, none⟩ = false := by
  refine ⟨⟨?_, ?_, ?_, ?_, ?_, ?_⟩, fun i => ?_⟩
  any_goals exact hg.cell (by simp [go_sem]) hne
  rw [World.frozen?_of_block (hg.block w.heap.size (by simp) hne)]; simp [go_sem]

set_option maxHeartbeats 1000000 in
theorem legs_any (B b : Nat) (w : World) (hS : Src B b w) :
    Calls Tryz.prog 19 #[.pointer (some ⟨b, 0, none⟩)] w fun e w' => ∃ c n s d p k, e = .returned (.agg #[.string c, .int .i64 n, .string s, .int .i64 d, .string p, .string k]) ∧ Few c n s d ∧ FewP p k ∧ Src B b w' ∧ w.grownBy w' (some b) := by
  have R := Rd.start (hS.keep ((Below.refl _ _).alloc (Nat.le_refl _) (.cells #[.string ⟨#[]⟩, .int .i64 0, .string ⟨#[]⟩, .int .i64 0, .string ⟨#[]⟩, .string ⟨#[]⟩] 30)))
  go_enter Tryz.func19, Tryz.ntmps19
  go_wp2_with fail
  refine (anyflight_any B b _ R.src).mono ?_
  rintro e w1 ⟨c, n, s, d, rfl, hF, hs1, hg1⟩
  have R1 := R.step hs1 hg1
  clear R hs1 hg1
  go_wp2_with fail
  have q := three_strs (w := w1) (f := fewP) (t := 9) (x := ⟨#[67, 80, 72]⟩) (y := ⟨#[65, 82, 78]⟩) (z := ⟨#[79, 83, 76]⟩) rfl rfl rfl
  have R2 := R1.alloc (.cells #[.string ⟨#[67, 80, 72]⟩, .string ⟨#[65, 82, 78]⟩, .string ⟨#[79, 83, 76]⟩] 9)
  refine (text_any B b _ 3 fewP _ R2.src (by omega) (by omega) R1.ne q).mono ?_
  rintro e w2 ⟨i, _, rfl, hs1, hg1⟩
  have R3 := R2.step hs1 hg1
  clear q R1 R2 hs1 hg1
  go_wp2_with fail
  have q := three_strs (w := w2) (f := fewK) (t := 9) (x := ⟨#[89]⟩) (y := ⟨#[67]⟩) (z := ⟨#[70]⟩) rfl rfl rfl
  have R4 := R3.alloc (.cells #[.string ⟨#[89]⟩, .string ⟨#[67]⟩, .string ⟨#[70]⟩] 9)
  refine (text_any B b _ 3 fewK _ R4.src (by omega) (by omega) R3.ne q).mono ?_
  rintro e w4 ⟨j, _, rfl, hs1, hg1⟩
  have R7 := R4.step hs1 hg1
  clear q R3 R4 hs1 hg1
  have hne : some w.heap.size ≠ some b := by have := hS.lt; simp; omega
  obtain ⟨⟨c0, c1, c2, c3, c4, c5⟩, hf⟩ := six_new R7.gr hne
  have f0 := hf 0
  have f1 := hf 1
  have f2 := hf 2
  have f3 := hf 3
  have f4 := hf 4
  have f5 := hf 5
  clear hf
  go_wp2
  refine bodyPost_ret (v := .agg #[.string c, .int .i64 n, .string s, .int .i64 d, .string (fewP i), .string (fewK j)]) (by simp [results, go_sem, c0, c1, c2, c3, c4, c5]) rfl ?_
  have hg := Lib.grownBy_trans (World.grownBy_alloc w (.cells #[.string ⟨#[]⟩, .int .i64 0, .string ⟨#[]⟩, .int .i64 0, .string ⟨#[]⟩, .string ⟨#[]⟩] 30) (some b)) R7.gr
  refine ⟨_, _, _, _, _, _, rfl, hF, fewp_of i j, R7.src.grown (row := some w.heap.size) (Lib.grownBy_setB (Lib.grownBy_setB (Lib.grownBy_setB (Lib.grownBy_setB (Lib.grownBy_setB (Lib.grownBy_setB (World.grownBy.refl _ _) _ _) _ _) _ _) _ _) _ _) _ _) (fun k hk => by have := hS.lt; injection hk with hk; omega), ?_⟩
  exact ((((hg.setNew (Nat.le_refl _) 0 _).setNew (Nat.le_refl _) 1 _).setNew (Nat.le_refl _) 2 _).setNew (Nat.le_refl _) 3 _).setNew (Nat.le_refl _) 4 _ |>.setNew (Nat.le_refl _) 5 _
end Go.Proofs.YtglgobmmmghdoaaGreatDoor

/- MathH: Plain mathematics: texts and valid flights correspond to each other; the few flights. -/
namespace Go.Proofs.YtglgobmmmghdoaaGreatDoor

theorem dgs_str {e : ByteArray} (h : allDig e.data.toList = true) {k : Nat} (hk : e.size = k) : strOfNums (dgs (valN e.data.toList) k) = e := by
  have q := dgs_val e h k (by omega)
  rw [List.take_of_length_le (by rw [data_len]; omega)] at q
  rw [q]
  apply ByteArray.ext
  apply Array.toList_inj.1
  rw [strOfNums_data, List.map_map]
  conv => rhs; rw [← List.map_id e.data.toList]
  apply List.map_congr_left
  intro x _
  simp
theorem list2 {α : Type} {l : List α} (h : l.length = 2) : ∃ a b, l = [a, b] := by
  match l, h with
  | [a, b], _ => exact ⟨a, b, rfl⟩
theorem list4 {α : Type} {l : List α} (h : l.length = 4) : ∃ a b c d, l = [a, b, c, d] := by
  match l, h with
  | [a, b, c, d], _ => exact ⟨a, b, c, d, rfl⟩
theorem list1 {α : Type} {l : List α} (h : l.length ≤ 1) : l = [] ∨ ∃ a, l = [a] := by
  match l, h with
  | [], _ => exact .inl rfl
  | [a], _ => exact .inr ⟨a, rfl⟩
theorem ext_is {s e : ByteArray} {a b : Nat} (h : (s.data.toList.drop a).take (b - a) = e.data.toList) : s.extract a b = e := by
  apply ByteArray.ext
  apply Array.toList_inj.1
  rw [ext_data]; exact h
theorem bat_of {s : ByteArray} {k : Nat} {c : UInt8} (h : s.data.toList.getD k 0 = c) : bat s k = (c.toNat : Int) := by unfold bat; rw [h]

/-- The parts of a text of five parts. -/
theorem parts5 {c x s y : ByteArray} (hc : c.size = 2) (hx : x.size = 4) (hs : s.size ≤ 1) (hy : y.size = 2) {T : ByteArray} (hT : T = c ++ x ++ s ++ ⟨#[47]⟩ ++ y) :
    T.size = 9 + s.size ∧ T.extract 0 2 = c ∧ T.extract 2 6 = x ∧ T.extract 6 (T.size - 3) = s ∧ T.extract (T.size - 2) T.size = y ∧ bat T (T.size - 3) = 47 := by
  have hz : T.size = 9 + s.size := by
    rw [hT]; simp only [ByteArray.size_append]
    have : (⟨#[47]⟩ : ByteArray).size = 1 := rfl
    omega
  have hl : T.data.toList = c.data.toList ++ x.data.toList ++ s.data.toList ++ [47] ++ y.data.toList := by
    rw [hT]; simp only [ByteArray.data_append, Array.toList_append]
  obtain ⟨c0, c1, ec⟩ := list2 (l := c.data.toList) (by rw [data_len]; exact hc)
  obtain ⟨x0, x1, x2, x3, ex⟩ := list4 (l := x.data.toList) (by rw [data_len]; exact hx)
  obtain ⟨y0, y1, ey⟩ := list2 (l := y.data.toList) (by rw [data_len]; exact hy)
  have hsl : s.data.toList.length = s.size := data_len s
  refine ⟨hz, ?_⟩
  rcases list1 (l := s.data.toList) (by rw [data_len]; exact hs) with es | ⟨s0, es⟩
  · rw [es] at hsl
    have hz9 : T.size = 9 := by rw [hz]; simp at hsl; omega
    rw [ec, ex, es, ey] at hl
    rw [hz9]
    refine ⟨ext_is (by rw [hl, ec]; rfl), ext_is (by rw [hl, ex]; rfl), ext_is (by rw [hl, es]; rfl), ext_is (by rw [hl, ey]; rfl), bat_of (c := 47) (by rw [hl]; rfl)⟩
  · rw [es] at hsl
    have hz9 : T.size = 10 := by rw [hz]; simp at hsl; omega
    rw [ec, ex, es, ey] at hl
    rw [hz9]
    refine ⟨ext_is (by rw [hl, ec]; rfl), ext_is (by rw [hl, ex]; rfl), ext_is (by rw [hl, es]; rfl), ext_is (by rw [hl, ey]; rfl), bat_of (c := 47) (by rw [hl]; rfl)⟩

theorem dig_str (n : Int) (k : Nat) : allDig (strOfNums (dgs n k)).data.toList = true := allDig_ofNums _ (dgs_mem _ _)
theorem val_str (n : Int) (k : Nat) (h0 : 0 ≤ n) (h1 : n < ((10 ^ k : Nat) : Int)) : valN (strOfNums (dgs n k)).data.toList = n := by
  rw [valN_ofNums _ (dgs_mem _ _)]; exact valI_dgs k n h0 h1
theorem size_str (n : Int) (k : Nat) : (strOfNums (dgs n k)).size = k := by rw [strOfNums_size, dgs_length]

/-- Every valid flight is read back from its text. -/
theorem fback {c s : ByteArray} {n d : Int} (h : fvl c n s d = true) : fC (ftxt c n s d) = c ∧ fN (ftxt c n s d) = n ∧ fS (ftxt c n s d) = s ∧ fD (ftxt c n s d) = d ∧ fE (ftxt c n s d) = 0 ∧ (ftxt c n s d).size ≤ 10 := by
  obtain ⟨h1, ⟨h2, h3⟩, h4, h5, h6⟩ := fvl_iff.1 h
  obtain ⟨z1, z2⟩ := fvl_sizes h
  have hT : ftxt c n s d = c ++ strOfNums (dgs n 4) ++ s ++ ⟨#[47]⟩ ++ strOfNums (dgs d 2) := by unfold ftxt; rw [h]; rfl
  generalize ftxt c n s d = T at *
  obtain ⟨p0, p1, p2, p3, p4, p5⟩ := parts5 z1 (size_str n 4) z2 (size_str d 2) hT
  have hf : fForm T = true := fForm_iff.2 ⟨by omega, p5, by rw [p1]; exact h1, by rw [p2]; exact dig_str n 4, by rw [p3]; exact h4, by rw [p4]; exact dig_str d 2⟩
  have en : fN0 T = n := by unfold fN0; rw [p2]; exact val_str n 4 (by omega) (by omega)
  have ed : fD0 T = d := by unfold fD0; rw [p4]; exact val_str d 2 (by omega) (by omega)
  obtain ⟨k1, k2, k3, k4, k5⟩ := f_yes hf (by rw [en]; omega)
  exact ⟨by rw [k1]; exact p1, by rw [k2]; exact en, by rw [k3]; exact p3, by rw [k4]; exact ed, k5, by omega⟩

/-- A text that is accepted is the text of the result. -/
theorem ftxt_back {s : ByteArray} (h : fE s = 0) : ftxt (fC s) (fN s) (fS s) (fD s) = s := by
  have hf : fForm s = true := by
    cases e : fForm s with
    | true => rfl
    | false => have := (f_no e).2.2.2.2; omega
  have hn : fN0 s ≠ 0 := fun e => by have := (f_range hf e).2.2.2.2; omega
  obtain ⟨k1, k2, k3, k4, _⟩ := f_yes hf hn
  have hv := fvl_form hf
  rw [decide_eq_true hn] at hv
  rw [k1, k2, k3, k4]
  obtain ⟨h1, h2, h3, h4, h5, h6⟩ := fForm_iff.1 hf
  have e4 : strOfNums (dgs (fN0 s) 4) = s.extract 2 6 := dgs_str h4 (by rw [size_ext]; omega)
  have e2 : strOfNums (dgs (fD0 s) 2) = s.extract (s.size - 2) s.size := dgs_str h6 (by rw [size_ext]; omega)
  have e1 : (⟨#[47]⟩ : ByteArray) = s.extract (s.size - 3) (s.size - 2) := by
    symm
    apply ext_is
    have hl : s.size - 3 < s.data.toList.length := by rw [data_len]; omega
    have g := some_bat (s := s) (k := s.size - 3) (by omega) h2
    rw [List.getElem?_eq_getElem hl] at g
    rw [show s.size - 2 - (s.size - 3) = 1 by omega, List.drop_eq_getElem_cons hl]
    injection g with g
    rw [g]
    rfl
  unfold ftxt
  rw [hv, if_pos rfl, e4, e2, e1]
  unfold fC0 fS0
  have join : ∀ i j k, i ≤ j → j ≤ k → s.extract i j ++ s.extract j k = s.extract i k := fun i j k a b => (ByteArray.extract_eq_extract_append_extract j a b).symm
  rw [join 0 2 6 (by omega) (by omega), join 0 6 _ (by omega) (by omega), join 0 (s.size - 3) _ (by omega) (by omega), join 0 (s.size - 2) _ (by omega) (by omega)]
  exact ByteArray.extract_zero_size

theorem few_valid {c s : ByteArray} {n d : Int} (h : Few c n s d) : fvl c n s d = true := by
  obtain ⟨hc, hn, hs, hd⟩ := h
  refine fvl_iff.2 ⟨?_, by omega, ?_, by omega⟩
  · rcases hc with rfl | rfl | rfl <;> decide +kernel
  · rcases hs with rfl | rfl <;> decide +kernel
theorem few_day {c s : ByteArray} {n d : Int} (h : Few c n s d) {d' : Int} (h0 : 0 ≤ d') (h1 : d' ≤ 99) : fvl c n s d' = true := by
  obtain ⟨a, b, e, _⟩ := fvl_iff.1 (few_valid h)
  exact fvl_iff.2 ⟨a, b, e, h0, h1⟩
end Go.Proofs.YtglgobmmmghdoaaGreatDoor
