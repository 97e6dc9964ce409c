/-
  Screening (layer 15): awake of the statements; ScreenBound: its mathematics and its walk.
-/
import Derived.Test.YtdhkhkcijffbiaaScrP
namespace Go.Proofs.Ytdhkhkcijffbiaa
open Go.RowKit

section
variable {ops : Array Oper} {rest : List Oper} {o : Oper} {a : Act} {W : World} {Q : Exit → Act → World → Prop}
/-- A whole screening is loaded, is stored into its box. -/
theorem wpList_loadS {s : Scr} {A : Option Addr} {c g : Nat} (hg : W.heap[g]? = some (scrO s A c)) (hgd : o.guard = none) (x : Operand) (ho : o.op = .load 28 x) (hx : a.eval x = .pointer (some ⟨g, 0, none⟩))
    (h : wpList Try.prog ops Q rest (a.put o.dst (scrV s A c)) W) : wpList Try.prog ops Q (o :: rest) a W :=
  wpList_load_row hgd _ x ho g hx 28 _ (0, 0) _ hg Try.underlying28 rfl infoS h
theorem wpList_loadS_w {s : Scr} {A : Option Addr} {c g : Nat} (hg : W.heap[g]? = some (scrO s A c)) (x : Operand) (ho : o.op = .load 28 x) (hx : a.eval x = .pointer (some ⟨g, 0, none⟩)) (hw : Region.wanted o (yielded ops a.tmps) = true)
    (h : wpList Try.prog ops Q rest (a.put o.dst (scrV s A c)) W) : wpList Try.prog ops Q (o :: rest) a W :=
  BigFrame.wpList_want hw fun _ hK => wp_load_row _ x ho g hx 28 _ (0, 0) _ hg Try.underlying28 rfl infoS (hK _ _ h)
theorem wpList_storeS {s s' : Scr} {A A' : Option Addr} {c c' g : Nat} (hg : W.heap[g]? = some (scrO s' A' c')) (hgd : o.guard = none) (x y : Operand) (ho : o.op = .store 28 x y) (hx : a.eval x = .pointer (some ⟨g, 0, none⟩)) (hy : a.eval y = scrV s A c)
    (h : wpList Try.prog ops Q rest (a.put o.dst undef) (W.setRow g (scrA s A c))) : wpList Try.prog ops Q (o :: rest) a W :=
  wpList_store_row hgd _ x y ho g _ hx hy 28 _ hg infoS rfl (scr_all _ _ _) h
end
theorem grown_row (w : World) (g : Nat) (cs : Array Value) : w.grownBy (w.setRow g cs) (some g) := ⟨rfl, rfl, rfl, by simp [World.setRow], fun k hk hne => setRow_other _ _ _ _ (by simpa using hne)⟩
/-- A row that is not block g stays as it was when block g is written. -/
theorem RowIn.apart {α : Type} {f : α → List Value} {b g : Nat} {w : World} {A : Option Addr} {xs : List α} (h : RowIn f b w A xs) (hg : ∀ q off, A = some ⟨q, off, none⟩ → q ≠ g) (cs : Array Value) : RowIn f b (w.setRow g cs) A xs := fun hn => by
  obtain ⟨q, off, hA, hb, hc⟩ := h hn
  refine ⟨q, off, hA, hb, fun j u hu => ?_⟩
  have hq := hg q off hA
  simp only [World.cell?] at hc ⊢
  rw [setRow_other w g q cs hq]
  exact hc j u hu

/-- The example. -/
def xs1 : Scr := ⟨5, 5, 5, 5, 1, []⟩
def xs2 : Scr := ⟨5, 5, 5, 5, 2, [⟨3, 1, 10, 1, 1⟩]⟩
def xs3 : Scr := ⟨5, 5, 5, 5, 3, [⟨3, 2, 16, 2, 1⟩]⟩
theorem xs1_new : newS 5 5 5 5 = xs1 ∧ newE 5 5 5 5 = 0 := ⟨rfl, rfl⟩
theorem xs2_start : startS xs1 3 10 = xs2 ∧ startE xs1 3 10 = 0 := ⟨rfl, rfl⟩
theorem xs2_ver : verE xs2 1 true 15 = 0 ∧ verBag xs2 1 true 15 = 3 := ⟨rfl, rfl⟩
theorem xs3_exp : expS xs2 16 = xs3 ∧ expE xs2 16 = 0 := ⟨rfl, rfl⟩
theorem xs3_find : findX xs3 3 = ⟨3, 2, 16, 2, 1⟩ ∧ findB xs3 3 = true := ⟨rfl, rfl⟩
theorem xs1_valid : ValS xs1 := newS_valid (a := 5) (b := 5) (c := 5) (d := 5) rfl
theorem xs2_valid : ValS xs2 := startS_valid (s := xs1) (bag := 3) (now := 10) xs1_valid rfl
theorem xs3_valid : ValS xs3 := expS_valid (s := xs2) (now := 16) xs2_valid rfl
theorem RowIn.box {α : Type} {f : α → List Value} {b : Nat} {w : World} {A : Option Addr} {xs : List α} (h : RowIn f b w A xs) (cs : Array Value) : RowIn f b (w.setRow b cs) A xs := fun hn => by
  obtain ⟨q, off, hA, hb, hc⟩ := h hn
  refine ⟨q, off, hA, hb, fun j u hu => ?_⟩
  simp only [World.cell?] at hc ⊢
  rw [setRow_other w b q cs hb]
  exact hc j u hu

set_option maxRecDepth 100000 in
set_option maxHeartbeats 4000000 in
theorem awake_scr (P : ScrOk) (w : World) : Calls Try.prog 29 #[] w fun e w' => e = .returned (.bool true) ∧ Below w.heap.size w w' := by
  have HP := hide P
  clear P
  go_enter Try.func29, Try.ntmps29
  go_wp2_with fail
  refine ((unhide HP).new 5 5 5 5 _).mono ?_
  rw [xs1_new.1, xs1_new.2]
  rintro e w1 ⟨A1, k1, rfl, hb1⟩
  have HB2 := hide (below_new hb1 (scrO xs1 A1 k1))
  have HX2 := hide (heap_alloc_new w1 (scrO xs1 A1 k1))
  have HZ := hide hb1.size
  clear hb1
  go_wp2_with (refine wpList_loadS (unhide HX2) rfl _ rfl rfl ?_)
  refine ((unhide HP).start w1.heap.size xs1 3 10 A1 k1 _ xs1_valid RowIn.nil (Nat.zero_le _)).mono ?_
  rw [xs2_start.1, xs2_start.2]
  rintro e w3 ⟨A3, c3, rfl, hC3', hb3, hc3⟩
  have hC3 := hC3' w1.heap.size (by rw [World.size_alloc]; omega)
  have HX3 := hide (heap_below (unhide HX2) hb3)
  have HX4 := hide (setRow_heap w3 w1.heap.size _ (scrA xs2 A3 c3) _ _ (unhide HX3))
  have HC4 := hide (RowIn.box hC3 (scrA xs2 A3 c3))
  have HB4 := hide (show Below w.heap.size w (w3.setRow w1.heap.size (scrA xs2 A3 c3)) from below_row (onward (unhide HB2) hb3) (unhide HZ) _)
  have HK := hide hc3
  clear hC3 hC3' hb3 hc3
  go_wp2_with (first
    | (refine wpList_storeS (unhide HX3) rfl _ _ rfl rfl rfl ?_)
    | (refine wpList_loadS (unhide HX4) rfl _ rfl rfl ?_))
  refine ((unhide HP).verdict w1.heap.size xs2 1 true 15 A3 c3 _ xs2_valid (unhide HC4) (unhide HK)).mono ?_
  rw [xs2_ver.1, xs2_ver.2]
  rintro e w5 ⟨A5, c5, rfl, -, hb5, -⟩
  obtain ⟨s5, hs5⟩ : ∃ s5, verS xs2 1 true 15 = s5 := ⟨_, rfl⟩
  rw [hs5]
  have b6 := (Below.refl w5.heap.size w5).alloc (Nat.le_refl _) (scrO s5 A5 c5)
  have hb6 := onward hb5 b6
  have HX6 := hide (heap_below (unhide HX4) hb6)
  have HC6 := hide ((unhide HC4).keep hb6)
  have HB6 := hide (onward (unhide HB4) hb6)
  clear hb5 b6 hb6 hs5
  go_wp2_with (refine wpList_loadS (unhide HX6) rfl _ rfl rfl ?_)
  refine ((unhide HP).expire w1.heap.size xs2 16 A3 c3 _ xs2_valid (unhide HC6) (unhide HK)).mono ?_
  rw [xs3_exp.1, xs3_exp.2]
  rintro e w7 ⟨A7, c7, rfl, hC7', hb7, hc7⟩
  have hC7 := hC7' w1.heap.size (Array.getElem?_eq_some_iff.1 (unhide HX6)).1
  have b8 := (Below.refl w7.heap.size w7).alloc (Nat.le_refl _) (scrO xs3 A7 c7)
  have HX8 := hide (heap_alloc_new w7 (scrO xs3 A7 c7))
  have HC8 := hide (hC7.keep b8)
  have HK8 := hide hc7
  have HB8 := hide (onward (onward (unhide HB6) hb7) b8)
  clear hC7 hC7' hb7 hc7 b8
  go_wp2_with (refine wpList_loadS (unhide HX8) rfl _ rfl rfl ?_)
  refine ((unhide HP).find w1.heap.size xs3 3 A7 c7 _ xs3_valid (unhide HC8) (unhide HK8)).mono ?_
  rw [xs3_find.1, xs3_find.2]
  rintro e w9 ⟨rfl, hb9⟩
  have HB9 := hide (below_new (onward (unhide HB8) hb9) (.cells #[.int .i64 3, .int .i64 2, .int .i64 16, .int .i64 2, .int .i64 1] 42))
  clear hb9
  go_wp2
  go_ret
  exact ⟨rfl, unhide HB9⟩
end Go.Proofs.Ytdhkhkcijffbiaa
