/-
  TelegramFormats: the walk.
-/
import Derived.Test.YtmdjdhfchigekaaDoorFmtC
import Derived.Test.YtmdjdhfchigekaaDoorLimA
import Derived.Test.YtmdjdhfchigekaaDoorLawT
import Derived.Deep.RegionLaw
import Derived.Deep.CutRange
namespace Go.Proofs.YtmdjdhfchigekaaDoor
open Go.RowKit

theorem few_len {t : Tel} (h : FewT t) : t.els.length ≤ 4 := by obtain ⟨_, _, h4, _⟩ := h; omega
theorem small_kind {t : Tel} (h : SmallT t) {x : ByteArray} (hx : x.size ≤ 60) : SmallT ⟨x, t.change, t.els⟩ := ⟨h.1, by show x.size ≤ 3000; omega, h.2.2.1, h.2.2.2⟩
theorem small_change {t : Tel} (h : SmallT t) {x : ByteArray} (hx : x.size ≤ 60) : SmallT ⟨t.kind, x, t.els⟩ := ⟨h.1, h.2.1, by show x.size ≤ 3000; omega, h.2.2.2⟩
theorem small_app {t : Tel} (h : SmallT t) (h4 : t.els.length ≤ 4) {fs : List El} (hf : fs.length ≤ 100) (hs : ∀ e ∈ fs, SmallE e) : SmallT ⟨t.kind, t.change, t.els ++ fs⟩ :=
  ⟨by show (t.els ++ fs).length ≤ 3000; rw [List.length_append]; omega, h.2.1, h.2.2.1, fun e he => by
    rcases List.mem_append.1 he with he | he
    · exact h.2.2.2 e he
    · exact hs e he⟩
theorem small_one {k p : ByteArray} (hk : k.size ≤ 60) (hp : p.size ≤ 60) : SmallE (k, [p]) :=
  ⟨by show 1 ≤ 3000; omega, by show k.size ≤ 3000; omega, fun q hq => by rw [List.mem_singleton.1 hq]; omega⟩
theorem one_row {b : Nat} {w : World} {g : Nat} {p : ByteArray} (hne : g ≠ b) (h : w.heap[g]? = some (.cells #[.string p] 9 (0, 0))) : StrRow b w (some ⟨g, 0, none⟩) [p] := fun _ =>
  ⟨g, _, _, rfl, hne, h, fun i hi => by
    have hi' : i < 1 := hi
    obtain rfl : i = 0 := by omega
    rfl⟩
theorem made_row {b : Nat} {w : World} {g N : Nat} (hne : g ≠ b) (h : w.heap[g]? = some (.cells (madeCells #[.string ByteArray.empty] N) 9 (0, 0))) : StrRow b w (some ⟨g, 0, none⟩) (List.replicate N ByteArray.empty) := fun _ =>
  ⟨g, _, _, rfl, hne, h, fun i hi => by
    have hi' : i < N := by simpa using hi
    rw [← Array.getElem?_toList, toList_madeCells_one]
    simp [List.getD_eq_getElem?_getD, hi']⟩
theorem small_empty {N : Nat} (h : N ≤ 100) : SmallE ((⟨#[65]⟩ : ByteArray), List.replicate N ByteArray.empty) :=
  ⟨by rw [List.length_replicate]; omega, by show 1 ≤ 3000; omega, fun p hp => by rw [List.eq_of_mem_replicate hp]; exact Nat.zero_le _⟩
theorem elCells_rep (N g : Nat) : elCells (((⟨#[65]⟩ : ByteArray), List.replicate N ByteArray.empty), some ⟨g, 0, none⟩, N) = [.string ⟨#[65]⟩, .slice (some ⟨g, 0, none⟩) N N] := by simp [elCells]
theorem valid_after {b : Nat} {t : Tel} {A : Option Addr} {c : Nat} {W : World} (hS : SmallT t) (h : ElsIn b W A t.els) (s : After W) :
    Calls Tryd.prog 16 #[.agg #[.string t.kind, .string t.change, .slice A t.els.length c]] s.to fun e w' => e = .returned (.int .i64 (telE t)) ∧ Below s.to.heap.size s.to w' :=
  validate_tel b t A c s.to hS (h.keep s.is)
theorem rvalid_after {b : Nat} {t : Tel} {A : Option Addr} {c : Nat} {W : World} (hS : SmallT t) (h : ElsIn b W A t.els) (s : After W) :
    Calls Tryd.prog 17 #[.agg #[.string t.kind, .string t.change, .slice A t.els.length c]] s.to fun e w' => e = .returned (.int .i64 (telE t)) ∧ Below s.to.heap.size s.to w' :=
  rvalid_any b t A c s.to hS (h.keep s.is)

def lenAt (b : Nat) (w : World) : Nat := match w.cell? ⟨b, 2, none⟩ with
  | some (.slice _ n _) => n
  | _ => 0
theorem lenAt_of {b n c : Nat} {w : World} {K C : ByteArray} {A : Option Addr} (h : w.heap[b]? = some (.cells #[.string K, .string C, .slice A n c] 24 (0, 0))) : lenAt b w = n := by
  have : w.cell? ⟨b, 2, none⟩ = some (.slice A n c) := by rw [Lib.cell_of_heap h]; rfl
  unfold lenAt; rw [this]

set_option maxRecDepth 20000 in
set_option maxHeartbeats 16000000 in
theorem tfmt_any (raw : Tel) (P : Option Addr) (cr : Nat) (A : Option Addr) (len cap : Nat) (x : ByteArray) (w : World) (hcap : len ≤ cap) (hA : IntsIn w.heap.size w A len)
    (hP : ∀ b', w.heap.size ≤ b' → ElsIn b' w P raw.els) :
    Calls Tryd.prog 3 #[.agg #[.string raw.kind, .string raw.change, .slice P raw.els.length cr], .slice A len cap, .string x] w fun e w' => e = .returned (.bool true) ∧ Below w.heap.size w w' := by
  have b0 := (Below.refl w.heap.size w).alloc (Nat.le_refl _) (.cells #[.string raw.kind, .string raw.change, .slice P raw.els.length cr] 24)
  have X := TBox.new w raw.kind raw.change (.slice P raw.els.length cr) 24
  have hz0 : (w.alloc (.cells #[.string raw.kind, .string raw.change, .slice P raw.els.length cr] 24)).heap.size = w.heap.size + 1 := by rw [World.size_alloc]
  have HP := hide fun b' (h : w.heap.size ≤ b') => (hP b' h).keep b0
  have I1 := Lib.hid (hA.later b0)
  have B0 := Lib.hid b0
  clear hP hA b0
  go_enter Tryd.func3, Tryd.ntmps3
  obtain ⟨x0, x1, x2⟩ := X
  go_wp2_with fail
  generalize w.alloc (.cells #[.string raw.kind, .string raw.change, .slice P raw.els.length cr] 24) = W0 at *
  refine (light_any w.heap.size raw P cr W0 (unhide HP _ (Nat.le_refl _))).mono ?_
  rintro e w1 ⟨rfl, hb1⟩
  have X1 : TBox w1 w.heap.size raw.kind raw.change (.slice P raw.els.length cr) := ⟨kept hb1 x0, kept hb1 x1, kept hb1 x2⟩
  have HP1 := hide fun b' (h : w.heap.size ≤ b') => (unhide HP b' h).keep hb1
  have J1 := Lib.hid (I1.out.later hb1)
  have B1 := Lib.hid (onward B0.out hb1)
  have Z1 := Lib.hid (show w.heap.size + 1 ≤ w1.heap.size by have := hb1.size; omega)
  clear x0 x1 x2 HP I1 B0 hb1 hz0
  cases hla : lightB raw with
  | false =>
    go_wp2_with fail
    refine (tawake_any _).mono ?_
    rintro e w9 ⟨rfl, hb9⟩
    go_wp2
    go_ret
    exact ⟨rfl, onward B1.out hb9⟩
  | true =>
  have SR := hide (light_small hla)
  clear hla
  by_cases hxz : (60 : Int) < (x.size : Int)
  · go_wp2_with fail
    refine (tawake_any _).mono ?_
    rintro e w9 ⟨rfl, hb9⟩
    go_wp2
    go_ret
    exact ⟨rfl, onward B1.out hb9⟩
  have hx60 : x.size ≤ 60 := by omega
  obtain ⟨i2, ki, kz0, kz1, kz2⟩ := info_parts info_el
  have KI0 := hide ki
  have KZ0 := hide kz0
  have KZ1 := hide kz1
  have KZ2 := hide kz2
  clear ki kz0 kz1 kz2
  have HX1 := hide X1
  clear X1
  go_wp2_with fail
  refine (new_any A len cap w1 hcap J1.out).mono ?_
  rintro e w2 ⟨rfl, hs2, hb2⟩
  go_wp2_with fail
  refine (telegram_any _ _ _ hs2).mono ?_
  rintro e w3 ⟨t, T, c, rfl, hF, hE3, hs3, hg3⟩
  have hle1 : w.heap.size ≤ w1.heap.size := by have := Z1.out; omega
  have hne1 : w.heap.size ≠ w1.heap.size := by have := Z1.out; omega
  have B3 := Lib.hid (onward B1.out (below_reads hb2 hg3 (Nat.le_refl _) hb2.size))
  have XR := hide (((unhide HX1).keep hb2).grown hg3 hne1)
  have ER := hide (((unhide HP1 _ hle1).keep hb2).grown hg3)
  have ET := hide hE3
  have S3 := hide hs3
  have ST := hide (few_small hF)
  have h4 := few_len hF
  obtain ⟨xs, hxs, hfin, hsrc⟩ := choose_els hE3
  have hn : xs.length = t.els.length := by rw [← hxs, List.length_map]
  have HXS := hide hxs
  have HFin := hide hfin
  have b6 := ((((Below.refl w3.heap.size w3).alloc (Nat.le_refl _) (.cells #[.string t.kind, .string t.change, .slice T t.els.length c] 24)).alloc (by rw [World.size_alloc]; omega) (.cells #[.string t.kind, .string t.change, .slice T t.els.length c] 24)).alloc (by rw [World.size_alloc, World.size_alloc]; omega) (.cells #[] 34))
  have HSrc := hide (show 0 < t.els.length → ∃ g off, T = some ⟨g, off, none⟩ ∧ ∀ j u, (xs.flatMap elCells)[j]? = some u → (((w3.alloc (.cells #[.string t.kind, .string t.change, .slice T t.els.length c] 24)).alloc (.cells #[.string t.kind, .string t.change, .slice T t.els.length c] 24)).alloc (.cells #[] 34)).cell? ⟨g, off + j, none⟩ = some u from fun h0 => by
    obtain ⟨g, off, hT, hc⟩ := hsrc h0
    exact ⟨g, off, hT, fun j u hu => kept b6 (hc j u hu)⟩)
  have hom := World.ownsRow_made (base := w3.heap.size + 2) (e := 34) (size := 2) ((w3.alloc (.cells #[.string t.kind, .string t.change, .slice T t.els.length c] 24)).alloc (.cells #[.string t.kind, .string t.change, .slice T t.els.length c] 24)) #[] 0 (by rw [World.size_alloc, World.size_alloc]; omega) (by unfold maxLen; omega) (by simp)
  rw [World.size_alloc, World.size_alloc] at hom
  have HOM := hide hom
  have hz6 : w3.heap.size + 2 ≤ (((w3.alloc (.cells #[.string t.kind, .string t.change, .slice T t.els.length c] 24)).alloc (.cells #[.string t.kind, .string t.change, .slice T t.els.length c] 24)).alloc (.cells #[] 34)).heap.size := by rw [World.size_alloc, World.size_alloc, World.size_alloc]; omega
  have HN := Lib.hid hn
  have HLE := Lib.hid hle1
  have HNE := Lib.hid hne1
  clear hsrc hxs hfin hom hF hE3 hs3 hg3 hs2 hb2 B1 HX1 HP1 J1 Z1 b6 hn hle1 hne1
  have G4 := Lib.hid h4
  clear h4
  go_wp2_with (at_builtin; refine wpList_copy (H := w3.heap.size + 2) (xs := xs) rfl _ _ rfl rfl rfl rfl HN.out (by have := G4.out; omega) hz6 (unhide HOM) (unhide HSrc) ?_)
  intro A1 c1 w7 hown7 hgrow7
  have SS := Stt.start B3.out (unhide S3) HLE.out HN.out (unhide HFin) hown7 hgrow7
  have hU7 := (hgrow7.block (w3.heap.size + 1) (by omega) (by simp)).trans ((heap_alloc_old _ _ (by rw [World.size_alloc, World.size_alloc]; omega)).trans (show ((w3.alloc (.cells #[.string t.kind, .string t.change, .slice T t.els.length c] 24)).alloc (.cells #[.string t.kind, .string t.change, .slice T t.els.length c] 24)).heap[w3.heap.size + 1]? = some (.cells #[.string t.kind, .string t.change, .slice T t.els.length c] 24 (0, 0)) from by
    have := heap_alloc_new (w3.alloc (.cells #[.string t.kind, .string t.change, .slice T t.els.length c] 24)) (.cells #[.string t.kind, .string t.change, .slice T t.els.length c] 24)
    rwa [World.size_alloc] at this))
  have u2c := Lib.cell_of_heap hU7 2
  have u2f := Lib.frozen_of_heap hU7 2
  have HSS := hide SS
  clear hown7 hgrow7 hU7 SS HSrc HOM hz6 S3 HFin B3
  go_wp2_with fail
  generalize hW8 : w7.setCell ⟨w3.heap.size + 1, 2, none⟩ (.slice A1 t.els.length c1) = W8 at *
  clear hW8 u2c u2f
  refine (n_any _ _ 6 _ (unhide HSS).src (by omega) (by omega)).mono ?_
  rintro e w8 ⟨y, rfl, hy1, hy2, hs8, hg8⟩
  have SS := (unhide HSS).reads hs8 hg8
  have ub := SS.ub
  have d0 := Lib.cell_of_heap ub 0
  have d1 := Lib.cell_of_heap ub 1
  have d2 : w8.cell? ⟨w3.heap.size + 1, 2, none⟩ = some (.slice A1 xs.length c1) := by rw [Lib.cell_of_heap ub]; rfl
  have f0 := Lib.frozen_of_heap ub 0
  have f1 := Lib.frozen_of_heap ub 1
  have f2 := Lib.frozen_of_heap ub 2
  have HS8 := hide SS
  clear SS ub hs8 hg8 HSS
  rcases (by omega : y = 0 ∨ y = 1 ∨ y = 2 ∨ y = 3 ∨ y = 4 ∨ y = 5) with rfl | rfl | rfl | rfl | rfl | rfl
  · go_upto_region 21 with fail
    have HSF := hide ((unhide HS8).kind x)
    obtain ⟨u, hu⟩ : ∃ u : Tel, u = ⟨x, t.change, t.els⟩ := ⟨_, rfl⟩
    have HSU := hide (show SmallT u by rw [hu]; exact small_kind (unhide ST) hx60)
    have HUE := Lib.hid (show xs.map (·.1) = u.els by rw [hu]; exact unhide HXS)
    have huk : x = u.kind := by rw [hu]
    have huc : t.change = u.change := by rw [hu]
    generalize w8.setCell ⟨w3.heap.size + 1, 0, none⟩ (.string x) = Wf at *
    rw [huk, huc] at HSF
    clear huk huc hu d0 d1 d2 f0 f1 f2 HS8
    obtain ⟨xr, xt, xu, er, et, eu⟩ := (unhide HSF).tail (unhide XR) HNE.out (unhide ER) (unhide ET)
    rw [HUE.out] at eu
    have hul : (xs.length) = u.els.length := by rw [← HUE.out, List.length_map]
    rw [hul] at xu
    have BF := Lib.hid (unhide HSF).bel
    obtain ⟨V, hV⟩ : ∃ V : World, V = Wf.alloc (.cells #[.string raw.kind, .string raw.change, .slice P raw.els.length cr, .string t.kind, .string t.change, .slice T t.els.length c, .string u.kind, .string u.change, .slice A1 u.els.length c1] 24) := ⟨_, rfl⟩
    have hv := heap_alloc_new Wf (.cells #[.string raw.kind, .string raw.change, .slice P raw.els.length cr, .string t.kind, .string t.change, .slice T t.els.length c, .string u.kind, .string u.change, .slice A1 u.els.length c1] 24)
    have bv := (Below.refl Wf.heap.size Wf).alloc (Nat.le_refl _) (.cells #[.string raw.kind, .string raw.change, .slice P raw.els.length cr, .string t.kind, .string t.change, .slice T t.els.length c, .string u.kind, .string u.change, .slice A1 u.els.length c1] 24)
    rw [← hV] at hv bv
    have HX := hide (And.intro (show V.cell? ⟨Wf.heap.size, 0, none⟩ = some (.string raw.kind) by rw [Lib.cell_of_heap hv]; rfl) (And.intro (show V.cell? ⟨Wf.heap.size, 1, none⟩ = some (.string raw.change) by rw [Lib.cell_of_heap hv]; rfl) (And.intro (show V.cell? ⟨Wf.heap.size, 2, none⟩ = some (.slice P raw.els.length cr) by rw [Lib.cell_of_heap hv]; rfl)
      (And.intro (show V.cell? ⟨Wf.heap.size, 3, none⟩ = some (.string t.kind) by rw [Lib.cell_of_heap hv]; rfl) (And.intro (show V.cell? ⟨Wf.heap.size, 4, none⟩ = some (.string t.change) by rw [Lib.cell_of_heap hv]; rfl) (And.intro (show V.cell? ⟨Wf.heap.size, 5, none⟩ = some (.slice T t.els.length c) by rw [Lib.cell_of_heap hv]; rfl)
      (And.intro (show V.cell? ⟨Wf.heap.size, 6, none⟩ = some (.string u.kind) by rw [Lib.cell_of_heap hv]; rfl) (And.intro (show V.cell? ⟨Wf.heap.size, 7, none⟩ = some (.string u.change) by rw [Lib.cell_of_heap hv]; rfl) (show V.cell? ⟨Wf.heap.size, 8, none⟩ = some (.slice A1 u.els.length c1) by rw [Lib.cell_of_heap hv]; rfl)))))))))
    have L1 := hide (er.keep bv)
    have L2 := hide (et.keep bv)
    have L3 := hide (eu.keep bv)
    have BV := Lib.hid (onward BF.out bv)
    have HV := Lib.hid hV
    obtain ⟨r0, r1, r2⟩ := xr
    obtain ⟨s0, s1, s2⟩ := xt
    obtain ⟨v0, v1, v2⟩ := xu
    clear er et eu bv hv hV hul
    go_wp2_with fail
    go_loopw [96] (fun i wr => ∃ j : Nat, j ≤ 3 ∧ i = .int .i64 j ∧ Below V.heap.size V wr) (fun i _ => 3 - (intOf i).toNat)
    case atStart => exact ⟨0, by omega, rfl, by rw [HV.out]; exact Below.refl _ _⟩
    case round =>
      obtain ⟨j, hj3, rfl, hb⟩ := hrel
      obtain ⟨wi, rfl⟩ : ∃ wi : World, wi = wr := ⟨_, rfl⟩
      have HB := Lib.hid hb
      clear hb r0 r1 r2 s0 s1 s2 v0 v1 v2
      rcases (by omega : j = 0 ∨ j = 1 ∨ j = 2 ∨ j = 3) with rfl | rfl | rfl | rfl
      · have bn := Lib.hid ((Below.refl wi.heap.size wi).alloc (Nat.le_refl _) (.cells #[.string raw.kind, .string raw.change, .slice P raw.els.length cr] 24))
        obtain ⟨q0, q1, q2, _⟩ := unhide HX
        have y0 := kept HB.out q0
        have y1 := kept HB.out q1
        have y2 := kept HB.out q2
        clear q0 q1 q2
        have E5 := hide ((((unhide L1).keep HB.out).keep bn.out))
        have z := TBox.new wi raw.kind raw.change (.slice P raw.els.length cr) 24
        have HZ := hide z
        clear z
        go_wp2_with fail
        refine (format_tel _ raw P cr _ (unhide SR) (unhide E5)).mono ?_
        rintro e w5 ⟨rfl, hb5⟩
        obtain ⟨z0, z1, z2⟩ := (unhide HZ).keep hb5
        have E6 := hide ((unhide E5).keep hb5)
        have B5 := Lib.hid ((onward HB.out bn.out).trans (hb5.mono (onward HB.out bn.out).size))
        clear hb5
        go_wp2_with fail
        refine (rformat_any _ raw P cr _ (unhide SR) (unhide E6)).mono ?_
        rintro e w6 ⟨rfl, hb6⟩
        have k0 := kept hb6 z0
        have k1 := kept hb6 z1
        have k2 := kept hb6 z2
        have V1 := hide fun s => valid_after (c := cr) (unhide SR) ((unhide E6).keep hb6) s
        have V2 := hide fun s => rvalid_after (c := cr) (unhide SR) ((unhide E6).keep hb6) s
        have B6 := Lib.hid (onward B5.out hb6)
        clear z0 z1 z2 hb6
        replace k0 := After.cell k0
        replace k1 := After.cell k1
        replace k2 := After.cell k2
        go_wp2_with fail
        refine wp_region_after (by kernel_rfl) (by kernel_rfl) ?_
        repeat (go_big_quiet_step ((first
          | (go_at_call 16; exact After.call (unhide V1 _))
          | (go_at_call 17; exact After.call (unhide V2 _)))))
        refine wpQuiet_nil ?_
        rintro _ ⟨s, rfl⟩
        have B7 := Lib.hid (onward B6.out s.is)
        clear k0 k1 k2
        go_wp2
        go_roundw
        case rel => exact ⟨0 + 1, by omega, by go_num, B7.out⟩
        case measure => simp [intOf]
      · have bn := Lib.hid ((Below.refl wi.heap.size wi).alloc (Nat.le_refl _) (.cells #[.string t.kind, .string t.change, .slice T t.els.length c] 24))
        obtain ⟨_, _, _, q0, q1, q2, _⟩ := unhide HX
        have y0 := kept HB.out q0
        have y1 := kept HB.out q1
        have y2 := kept HB.out q2
        clear q0 q1 q2
        have E5 := hide ((((unhide L2).keep HB.out).keep bn.out))
        have z := TBox.new wi t.kind t.change (.slice T t.els.length c) 24
        have HZ := hide z
        clear z
        go_wp2_with fail
        refine (format_tel _ t T c _ (unhide ST) (unhide E5)).mono ?_
        rintro e w5 ⟨rfl, hb5⟩
        obtain ⟨z0, z1, z2⟩ := (unhide HZ).keep hb5
        have E6 := hide ((unhide E5).keep hb5)
        have B5 := Lib.hid ((onward HB.out bn.out).trans (hb5.mono (onward HB.out bn.out).size))
        clear hb5
        go_wp2_with fail
        refine (rformat_any _ t T c _ (unhide ST) (unhide E6)).mono ?_
        rintro e w6 ⟨rfl, hb6⟩
        have k0 := kept hb6 z0
        have k1 := kept hb6 z1
        have k2 := kept hb6 z2
        have V1 := hide fun s => valid_after (c := c) (unhide ST) ((unhide E6).keep hb6) s
        have V2 := hide fun s => rvalid_after (c := c) (unhide ST) ((unhide E6).keep hb6) s
        have B6 := Lib.hid (onward B5.out hb6)
        clear z0 z1 z2 hb6
        replace k0 := After.cell k0
        replace k1 := After.cell k1
        replace k2 := After.cell k2
        go_wp2_with fail
        refine wp_region_after (by kernel_rfl) (by kernel_rfl) ?_
        repeat (go_big_quiet_step ((first
          | (go_at_call 16; exact After.call (unhide V1 _))
          | (go_at_call 17; exact After.call (unhide V2 _)))))
        refine wpQuiet_nil ?_
        rintro _ ⟨s, rfl⟩
        have B7 := Lib.hid (onward B6.out s.is)
        clear k0 k1 k2
        go_wp2
        go_roundw
        case rel => exact ⟨1 + 1, by omega, by go_num, B7.out⟩
        case measure => simp [intOf]
      · have bn := Lib.hid ((Below.refl wi.heap.size wi).alloc (Nat.le_refl _) (.cells #[.string u.kind, .string u.change, .slice A1 u.els.length c1] 24))
        obtain ⟨_, _, _, _, _, _, q0, q1, q2⟩ := unhide HX
        have y0 := kept HB.out q0
        have y1 := kept HB.out q1
        have y2 := kept HB.out q2
        clear q0 q1 q2
        have E5 := hide ((((unhide L3).keep HB.out).keep bn.out))
        have z := TBox.new wi u.kind u.change (.slice A1 u.els.length c1) 24
        have HZ := hide z
        clear z
        go_wp2_with fail
        refine (format_tel _ u A1 c1 _ (unhide HSU) (unhide E5)).mono ?_
        rintro e w5 ⟨rfl, hb5⟩
        obtain ⟨z0, z1, z2⟩ := (unhide HZ).keep hb5
        have E6 := hide ((unhide E5).keep hb5)
        have B5 := Lib.hid ((onward HB.out bn.out).trans (hb5.mono (onward HB.out bn.out).size))
        clear hb5
        go_wp2_with fail
        refine (rformat_any _ u A1 c1 _ (unhide HSU) (unhide E6)).mono ?_
        rintro e w6 ⟨rfl, hb6⟩
        have k0 := kept hb6 z0
        have k1 := kept hb6 z1
        have k2 := kept hb6 z2
        have V1 := hide fun s => valid_after (c := c1) (unhide HSU) ((unhide E6).keep hb6) s
        have V2 := hide fun s => rvalid_after (c := c1) (unhide HSU) ((unhide E6).keep hb6) s
        have B6 := Lib.hid (onward B5.out hb6)
        clear z0 z1 z2 hb6
        replace k0 := After.cell k0
        replace k1 := After.cell k1
        replace k2 := After.cell k2
        go_wp2_with fail
        refine wp_region_after (by kernel_rfl) (by kernel_rfl) ?_
        repeat (go_big_quiet_step ((first
          | (go_at_call 16; exact After.call (unhide V1 _))
          | (go_at_call 17; exact After.call (unhide V2 _)))))
        refine wpQuiet_nil ?_
        rintro _ ⟨s, rfl⟩
        have B7 := Lib.hid (onward B6.out s.is)
        clear k0 k1 k2
        go_wp2
        go_roundw
        case rel => exact ⟨2 + 1, by omega, by go_num, B7.out⟩
        case measure => simp [intOf]
      · go_wp2_with fail
        refine (tawake_any _).mono ?_
        rintro e w9 ⟨rfl, hb9⟩
        go_wp2
        go_ret
        exact ⟨rfl, onward (onward BV.out HB.out) hb9⟩
  · go_upto_region 21 with fail
    have HSF := hide ((unhide HS8).change x)
    obtain ⟨u, hu⟩ : ∃ u : Tel, u = ⟨t.kind, x, t.els⟩ := ⟨_, rfl⟩
    have HSU := hide (show SmallT u by rw [hu]; exact small_change (unhide ST) hx60)
    have HUE := Lib.hid (show xs.map (·.1) = u.els by rw [hu]; exact unhide HXS)
    have huk : t.kind = u.kind := by rw [hu]
    have huc : x = u.change := by rw [hu]
    generalize w8.setCell ⟨w3.heap.size + 1, 1, none⟩ (.string x) = Wf at *
    rw [huk, huc] at HSF
    clear huk huc hu d0 d1 d2 f0 f1 f2 HS8
    obtain ⟨xr, xt, xu, er, et, eu⟩ := (unhide HSF).tail (unhide XR) HNE.out (unhide ER) (unhide ET)
    rw [HUE.out] at eu
    have hul : (xs.length) = u.els.length := by rw [← HUE.out, List.length_map]
    rw [hul] at xu
    have BF := Lib.hid (unhide HSF).bel
    obtain ⟨V, hV⟩ : ∃ V : World, V = Wf.alloc (.cells #[.string raw.kind, .string raw.change, .slice P raw.els.length cr, .string t.kind, .string t.change, .slice T t.els.length c, .string u.kind, .string u.change, .slice A1 u.els.length c1] 24) := ⟨_, rfl⟩
    have hv := heap_alloc_new Wf (.cells #[.string raw.kind, .string raw.change, .slice P raw.els.length cr, .string t.kind, .string t.change, .slice T t.els.length c, .string u.kind, .string u.change, .slice A1 u.els.length c1] 24)
    have bv := (Below.refl Wf.heap.size Wf).alloc (Nat.le_refl _) (.cells #[.string raw.kind, .string raw.change, .slice P raw.els.length cr, .string t.kind, .string t.change, .slice T t.els.length c, .string u.kind, .string u.change, .slice A1 u.els.length c1] 24)
    rw [← hV] at hv bv
    have HX := hide (And.intro (show V.cell? ⟨Wf.heap.size, 0, none⟩ = some (.string raw.kind) by rw [Lib.cell_of_heap hv]; rfl) (And.intro (show V.cell? ⟨Wf.heap.size, 1, none⟩ = some (.string raw.change) by rw [Lib.cell_of_heap hv]; rfl) (And.intro (show V.cell? ⟨Wf.heap.size, 2, none⟩ = some (.slice P raw.els.length cr) by rw [Lib.cell_of_heap hv]; rfl)
      (And.intro (show V.cell? ⟨Wf.heap.size, 3, none⟩ = some (.string t.kind) by rw [Lib.cell_of_heap hv]; rfl) (And.intro (show V.cell? ⟨Wf.heap.size, 4, none⟩ = some (.string t.change) by rw [Lib.cell_of_heap hv]; rfl) (And.intro (show V.cell? ⟨Wf.heap.size, 5, none⟩ = some (.slice T t.els.length c) by rw [Lib.cell_of_heap hv]; rfl)
      (And.intro (show V.cell? ⟨Wf.heap.size, 6, none⟩ = some (.string u.kind) by rw [Lib.cell_of_heap hv]; rfl) (And.intro (show V.cell? ⟨Wf.heap.size, 7, none⟩ = some (.string u.change) by rw [Lib.cell_of_heap hv]; rfl) (show V.cell? ⟨Wf.heap.size, 8, none⟩ = some (.slice A1 u.els.length c1) by rw [Lib.cell_of_heap hv]; rfl)))))))))
    have L1 := hide (er.keep bv)
    have L2 := hide (et.keep bv)
    have L3 := hide (eu.keep bv)
    have BV := Lib.hid (onward BF.out bv)
    have HV := Lib.hid hV
    obtain ⟨r0, r1, r2⟩ := xr
    obtain ⟨s0, s1, s2⟩ := xt
    obtain ⟨v0, v1, v2⟩ := xu
    clear er et eu bv hv hV hul
    go_wp2_with fail
    go_loopw [96] (fun i wr => ∃ j : Nat, j ≤ 3 ∧ i = .int .i64 j ∧ Below V.heap.size V wr) (fun i _ => 3 - (intOf i).toNat)
    case atStart => exact ⟨0, by omega, rfl, by rw [HV.out]; exact Below.refl _ _⟩
    case round =>
      obtain ⟨j, hj3, rfl, hb⟩ := hrel
      obtain ⟨wi, rfl⟩ : ∃ wi : World, wi = wr := ⟨_, rfl⟩
      have HB := Lib.hid hb
      clear hb r0 r1 r2 s0 s1 s2 v0 v1 v2
      rcases (by omega : j = 0 ∨ j = 1 ∨ j = 2 ∨ j = 3) with rfl | rfl | rfl | rfl
      · have bn := Lib.hid ((Below.refl wi.heap.size wi).alloc (Nat.le_refl _) (.cells #[.string raw.kind, .string raw.change, .slice P raw.els.length cr] 24))
        obtain ⟨q0, q1, q2, _⟩ := unhide HX
        have y0 := kept HB.out q0
        have y1 := kept HB.out q1
        have y2 := kept HB.out q2
        clear q0 q1 q2
        have E5 := hide ((((unhide L1).keep HB.out).keep bn.out))
        have z := TBox.new wi raw.kind raw.change (.slice P raw.els.length cr) 24
        have HZ := hide z
        clear z
        go_wp2_with fail
        refine (format_tel _ raw P cr _ (unhide SR) (unhide E5)).mono ?_
        rintro e w5 ⟨rfl, hb5⟩
        obtain ⟨z0, z1, z2⟩ := (unhide HZ).keep hb5
        have E6 := hide ((unhide E5).keep hb5)
        have B5 := Lib.hid ((onward HB.out bn.out).trans (hb5.mono (onward HB.out bn.out).size))
        clear hb5
        go_wp2_with fail
        refine (rformat_any _ raw P cr _ (unhide SR) (unhide E6)).mono ?_
        rintro e w6 ⟨rfl, hb6⟩
        have k0 := kept hb6 z0
        have k1 := kept hb6 z1
        have k2 := kept hb6 z2
        have V1 := hide fun s => valid_after (c := cr) (unhide SR) ((unhide E6).keep hb6) s
        have V2 := hide fun s => rvalid_after (c := cr) (unhide SR) ((unhide E6).keep hb6) s
        have B6 := Lib.hid (onward B5.out hb6)
        clear z0 z1 z2 hb6
        replace k0 := After.cell k0
        replace k1 := After.cell k1
        replace k2 := After.cell k2
        go_wp2_with fail
        refine wp_region_after (by kernel_rfl) (by kernel_rfl) ?_
        repeat (go_big_quiet_step ((first
          | (go_at_call 16; exact After.call (unhide V1 _))
          | (go_at_call 17; exact After.call (unhide V2 _)))))
        refine wpQuiet_nil ?_
        rintro _ ⟨s, rfl⟩
        have B7 := Lib.hid (onward B6.out s.is)
        clear k0 k1 k2
        go_wp2
        go_roundw
        case rel => exact ⟨0 + 1, by omega, by go_num, B7.out⟩
        case measure => simp [intOf]
      · have bn := Lib.hid ((Below.refl wi.heap.size wi).alloc (Nat.le_refl _) (.cells #[.string t.kind, .string t.change, .slice T t.els.length c] 24))
        obtain ⟨_, _, _, q0, q1, q2, _⟩ := unhide HX
        have y0 := kept HB.out q0
        have y1 := kept HB.out q1
        have y2 := kept HB.out q2
        clear q0 q1 q2
        have E5 := hide ((((unhide L2).keep HB.out).keep bn.out))
        have z := TBox.new wi t.kind t.change (.slice T t.els.length c) 24
        have HZ := hide z
        clear z
        go_wp2_with fail
        refine (format_tel _ t T c _ (unhide ST) (unhide E5)).mono ?_
        rintro e w5 ⟨rfl, hb5⟩
        obtain ⟨z0, z1, z2⟩ := (unhide HZ).keep hb5
        have E6 := hide ((unhide E5).keep hb5)
        have B5 := Lib.hid ((onward HB.out bn.out).trans (hb5.mono (onward HB.out bn.out).size))
        clear hb5
        go_wp2_with fail
        refine (rformat_any _ t T c _ (unhide ST) (unhide E6)).mono ?_
        rintro e w6 ⟨rfl, hb6⟩
        have k0 := kept hb6 z0
        have k1 := kept hb6 z1
        have k2 := kept hb6 z2
        have V1 := hide fun s => valid_after (c := c) (unhide ST) ((unhide E6).keep hb6) s
        have V2 := hide fun s => rvalid_after (c := c) (unhide ST) ((unhide E6).keep hb6) s
        have B6 := Lib.hid (onward B5.out hb6)
        clear z0 z1 z2 hb6
        replace k0 := After.cell k0
        replace k1 := After.cell k1
        replace k2 := After.cell k2
        go_wp2_with fail
        refine wp_region_after (by kernel_rfl) (by kernel_rfl) ?_
        repeat (go_big_quiet_step ((first
          | (go_at_call 16; exact After.call (unhide V1 _))
          | (go_at_call 17; exact After.call (unhide V2 _)))))
        refine wpQuiet_nil ?_
        rintro _ ⟨s, rfl⟩
        have B7 := Lib.hid (onward B6.out s.is)
        clear k0 k1 k2
        go_wp2
        go_roundw
        case rel => exact ⟨1 + 1, by omega, by go_num, B7.out⟩
        case measure => simp [intOf]
      · have bn := Lib.hid ((Below.refl wi.heap.size wi).alloc (Nat.le_refl _) (.cells #[.string u.kind, .string u.change, .slice A1 u.els.length c1] 24))
        obtain ⟨_, _, _, _, _, _, q0, q1, q2⟩ := unhide HX
        have y0 := kept HB.out q0
        have y1 := kept HB.out q1
        have y2 := kept HB.out q2
        clear q0 q1 q2
        have E5 := hide ((((unhide L3).keep HB.out).keep bn.out))
        have z := TBox.new wi u.kind u.change (.slice A1 u.els.length c1) 24
        have HZ := hide z
        clear z
        go_wp2_with fail
        refine (format_tel _ u A1 c1 _ (unhide HSU) (unhide E5)).mono ?_
        rintro e w5 ⟨rfl, hb5⟩
        obtain ⟨z0, z1, z2⟩ := (unhide HZ).keep hb5
        have E6 := hide ((unhide E5).keep hb5)
        have B5 := Lib.hid ((onward HB.out bn.out).trans (hb5.mono (onward HB.out bn.out).size))
        clear hb5
        go_wp2_with fail
        refine (rformat_any _ u A1 c1 _ (unhide HSU) (unhide E6)).mono ?_
        rintro e w6 ⟨rfl, hb6⟩
        have k0 := kept hb6 z0
        have k1 := kept hb6 z1
        have k2 := kept hb6 z2
        have V1 := hide fun s => valid_after (c := c1) (unhide HSU) ((unhide E6).keep hb6) s
        have V2 := hide fun s => rvalid_after (c := c1) (unhide HSU) ((unhide E6).keep hb6) s
        have B6 := Lib.hid (onward B5.out hb6)
        clear z0 z1 z2 hb6
        replace k0 := After.cell k0
        replace k1 := After.cell k1
        replace k2 := After.cell k2
        go_wp2_with fail
        refine wp_region_after (by kernel_rfl) (by kernel_rfl) ?_
        repeat (go_big_quiet_step ((first
          | (go_at_call 16; exact After.call (unhide V1 _))
          | (go_at_call 17; exact After.call (unhide V2 _)))))
        refine wpQuiet_nil ?_
        rintro _ ⟨s, rfl⟩
        have B7 := Lib.hid (onward B6.out s.is)
        clear k0 k1 k2
        go_wp2
        go_roundw
        case rel => exact ⟨2 + 1, by omega, by go_num, B7.out⟩
        case measure => simp [intOf]
      · go_wp2_with fail
        refine (tawake_any _).mono ?_
        rintro e w9 ⟨rfl, hb9⟩
        go_wp2
        go_ret
        exact ⟨rfl, onward (onward BV.out HB.out) hb9⟩
  · have hx4 : xs.length ≤ 4 := by have := HN.out; have := G4.out; omega
    have SS := unhide HS8
    have bq := ((Below.refl w8.heap.size w8).alloc (Nat.le_refl _) (.cells #[.string x] 9)).alloc (by rw [World.size_alloc]; omega) (.cells #[.string ⟨#[65]⟩, .slice (some ⟨w8.heap.size, 0, none⟩) 1 1] 34)
    have hY : ((w8.alloc (.cells #[.string x] 9)).alloc (.cells #[.string ⟨#[65]⟩, .slice (some ⟨w8.heap.size, 0, none⟩) 1 1] 34)).heap[w8.heap.size + 1]? = some (.cells #[.string ⟨#[65]⟩, .slice (some ⟨w8.heap.size, 0, none⟩) 1 1] 34 (0, 0)) := by
      have := heap_alloc_new (w8.alloc (.cells #[.string x] 9)) (.cells #[.string ⟨#[65]⟩, .slice (some ⟨w8.heap.size, 0, none⟩) 1 1] 34)
      rwa [World.size_alloc] at this
    have hX : ((w8.alloc (.cells #[.string x] 9)).alloc (.cells #[.string ⟨#[65]⟩, .slice (some ⟨w8.heap.size, 0, none⟩) 1 1] 34)).heap[w8.heap.size]? = some (.cells #[.string x] 9 (0, 0)) :=
      (heap_alloc_old _ _ (by rw [World.size_alloc]; omega)).trans (heap_alloc_new _ _)
    have SB := SS.below bq
    have HP1 := hide (one_row (b := w1.heap.size) (by have := SS.src.lt; omega) hX)
    have HO1 := hide SB.own
    have hsz1 := SB.sz
    have HSB := hide SB
    have HY1 := hide hY
    clear bq hY hX SB SS
    go_wp2_with (at_builtin; refine wpList_append_lies _ rfl _ _ 22 rfl (w3.heap.size + 2) 34 i2 (.agg #[.string ByteArray.empty, .slice none 0 0]) 2 40 Tryd.underlying22 (unhide KI0) (unhide KZ0) (unhide KZ1) (unhide KZ2) rfl (by decide) _ _ _ rfl (unhide HO1) ⟨w8.heap.size + 1, 0, none⟩ 1 1 [.string ⟨#[65]⟩, .slice (some ⟨w8.heap.size, 0, none⟩) 1 1] rfl rfl (World.news_of_block (unhide HY1)) (by
            intro u hu
            simp at hu
            rcases hu with rfl | rfl <;> rfl) (by omega) (by unfold maxLen; omega) (by omega) hsz1 _ rfl ?_)
    intro g cap w9 hown9 hgrow9 hat9 hlt9
    have hU9 := (hgrow9.block _ (Array.getElem?_eq_some_iff.1 (unhide HSB).ub).1 (own_ne (unhide HO1) (unhide HSB).ub (by decide))).trans (unhide HSB).ub
    have u29 := Lib.cell_of_heap hU9 2
    have uf9 := Lib.frozen_of_heap hU9 2
    have HSF := hide ((unhide HSB).push (x := ((⟨#[65]⟩, [x]), some ⟨w8.heap.size, 0, none⟩, 1)) (.inr (unhide HP1)) hown9 hgrow9)
    clear hown9 hgrow9 hat9 hlt9 hU9 HSB HO1 HY1 HP1 hsz1
    go_upto_region 21 with fail
    generalize w9.setCell ⟨w3.heap.size + 1, 2, none⟩ (.slice (some ⟨g, 0, none⟩) (xs.length + 1) cap) = Wf at *
    obtain ⟨ys, hys⟩ : ∃ ys : List ElS, ys = xs ++ [((⟨#[65]⟩, [x]), some ⟨w8.heap.size, 0, none⟩, 1)] := ⟨_, rfl⟩
    obtain ⟨u, hu⟩ : ∃ u : Tel, u = ⟨t.kind, t.change, t.els ++ [(⟨#[65]⟩, [x])]⟩ := ⟨_, rfl⟩
    have HSU := hide (show SmallT u by rw [hu]; exact small_app (unhide ST) G4.out (by show 1 ≤ 100; omega) (fun e he => by rw [List.mem_singleton.1 he]; exact small_one (by show 1 ≤ 60; omega) hx60))
    have HUE := Lib.hid (show ys.map (·.1) = u.els by rw [hu, hys, List.map_append, unhide HXS]; rfl)
    have huk : t.kind = u.kind := by rw [hu]
    have huc : t.change = u.change := by rw [hu]
    rw [← hys, huk, huc] at HSF
    clear huk huc hu hys d0 d1 d2 f0 f1 f2 HS8 u29 uf9 hx4
    obtain ⟨xr, xt, xu, er, et, eu⟩ := (unhide HSF).tail (unhide XR) HNE.out (unhide ER) (unhide ET)
    rw [HUE.out] at eu
    have hul : (ys.length) = u.els.length := by rw [← HUE.out, List.length_map]
    rw [hul] at xu
    have BF := Lib.hid (unhide HSF).bel
    obtain ⟨V, hV⟩ : ∃ V : World, V = Wf.alloc (.cells #[.string raw.kind, .string raw.change, .slice P raw.els.length cr, .string t.kind, .string t.change, .slice T t.els.length c, .string u.kind, .string u.change, .slice (some ⟨g, 0, none⟩) u.els.length cap] 24) := ⟨_, rfl⟩
    have hv := heap_alloc_new Wf (.cells #[.string raw.kind, .string raw.change, .slice P raw.els.length cr, .string t.kind, .string t.change, .slice T t.els.length c, .string u.kind, .string u.change, .slice (some ⟨g, 0, none⟩) u.els.length cap] 24)
    have bv := (Below.refl Wf.heap.size Wf).alloc (Nat.le_refl _) (.cells #[.string raw.kind, .string raw.change, .slice P raw.els.length cr, .string t.kind, .string t.change, .slice T t.els.length c, .string u.kind, .string u.change, .slice (some ⟨g, 0, none⟩) u.els.length cap] 24)
    rw [← hV] at hv bv
    have HX := hide (And.intro (show V.cell? ⟨Wf.heap.size, 0, none⟩ = some (.string raw.kind) by rw [Lib.cell_of_heap hv]; rfl) (And.intro (show V.cell? ⟨Wf.heap.size, 1, none⟩ = some (.string raw.change) by rw [Lib.cell_of_heap hv]; rfl) (And.intro (show V.cell? ⟨Wf.heap.size, 2, none⟩ = some (.slice P raw.els.length cr) by rw [Lib.cell_of_heap hv]; rfl)
      (And.intro (show V.cell? ⟨Wf.heap.size, 3, none⟩ = some (.string t.kind) by rw [Lib.cell_of_heap hv]; rfl) (And.intro (show V.cell? ⟨Wf.heap.size, 4, none⟩ = some (.string t.change) by rw [Lib.cell_of_heap hv]; rfl) (And.intro (show V.cell? ⟨Wf.heap.size, 5, none⟩ = some (.slice T t.els.length c) by rw [Lib.cell_of_heap hv]; rfl)
      (And.intro (show V.cell? ⟨Wf.heap.size, 6, none⟩ = some (.string u.kind) by rw [Lib.cell_of_heap hv]; rfl) (And.intro (show V.cell? ⟨Wf.heap.size, 7, none⟩ = some (.string u.change) by rw [Lib.cell_of_heap hv]; rfl) (show V.cell? ⟨Wf.heap.size, 8, none⟩ = some (.slice (some ⟨g, 0, none⟩) u.els.length cap) by rw [Lib.cell_of_heap hv]; rfl)))))))))
    have L1 := hide (er.keep bv)
    have L2 := hide (et.keep bv)
    have L3 := hide (eu.keep bv)
    have BV := Lib.hid (onward BF.out bv)
    have HV := Lib.hid hV
    obtain ⟨r0, r1, r2⟩ := xr
    obtain ⟨s0, s1, s2⟩ := xt
    obtain ⟨v0, v1, v2⟩ := xu
    clear er et eu bv hv hV hul
    go_wp2_with fail
    go_loopw [96] (fun i wr => ∃ j : Nat, j ≤ 3 ∧ i = .int .i64 j ∧ Below V.heap.size V wr) (fun i _ => 3 - (intOf i).toNat)
    case atStart => exact ⟨0, by omega, rfl, by rw [HV.out]; exact Below.refl _ _⟩
    case round =>
      obtain ⟨j, hj3, rfl, hb⟩ := hrel
      obtain ⟨wi, rfl⟩ : ∃ wi : World, wi = wr := ⟨_, rfl⟩
      have HB := Lib.hid hb
      clear hb r0 r1 r2 s0 s1 s2 v0 v1 v2
      rcases (by omega : j = 0 ∨ j = 1 ∨ j = 2 ∨ j = 3) with rfl | rfl | rfl | rfl
      · have bn := Lib.hid ((Below.refl wi.heap.size wi).alloc (Nat.le_refl _) (.cells #[.string raw.kind, .string raw.change, .slice P raw.els.length cr] 24))
        obtain ⟨q0, q1, q2, _⟩ := unhide HX
        have y0 := kept HB.out q0
        have y1 := kept HB.out q1
        have y2 := kept HB.out q2
        clear q0 q1 q2
        have E5 := hide ((((unhide L1).keep HB.out).keep bn.out))
        have z := TBox.new wi raw.kind raw.change (.slice P raw.els.length cr) 24
        have HZ := hide z
        clear z
        go_wp2_with fail
        refine (format_tel _ raw P cr _ (unhide SR) (unhide E5)).mono ?_
        rintro e w5 ⟨rfl, hb5⟩
        obtain ⟨z0, z1, z2⟩ := (unhide HZ).keep hb5
        have E6 := hide ((unhide E5).keep hb5)
        have B5 := Lib.hid ((onward HB.out bn.out).trans (hb5.mono (onward HB.out bn.out).size))
        clear hb5
        go_wp2_with fail
        refine (rformat_any _ raw P cr _ (unhide SR) (unhide E6)).mono ?_
        rintro e w6 ⟨rfl, hb6⟩
        have k0 := kept hb6 z0
        have k1 := kept hb6 z1
        have k2 := kept hb6 z2
        have V1 := hide fun s => valid_after (c := cr) (unhide SR) ((unhide E6).keep hb6) s
        have V2 := hide fun s => rvalid_after (c := cr) (unhide SR) ((unhide E6).keep hb6) s
        have B6 := Lib.hid (onward B5.out hb6)
        clear z0 z1 z2 hb6
        replace k0 := After.cell k0
        replace k1 := After.cell k1
        replace k2 := After.cell k2
        go_wp2_with fail
        refine wp_region_after (by kernel_rfl) (by kernel_rfl) ?_
        repeat (go_big_quiet_step ((first
          | (go_at_call 16; exact After.call (unhide V1 _))
          | (go_at_call 17; exact After.call (unhide V2 _)))))
        refine wpQuiet_nil ?_
        rintro _ ⟨s, rfl⟩
        have B7 := Lib.hid (onward B6.out s.is)
        clear k0 k1 k2
        go_wp2
        go_roundw
        case rel => exact ⟨0 + 1, by omega, by go_num, B7.out⟩
        case measure => simp [intOf]
      · have bn := Lib.hid ((Below.refl wi.heap.size wi).alloc (Nat.le_refl _) (.cells #[.string t.kind, .string t.change, .slice T t.els.length c] 24))
        obtain ⟨_, _, _, q0, q1, q2, _⟩ := unhide HX
        have y0 := kept HB.out q0
        have y1 := kept HB.out q1
        have y2 := kept HB.out q2
        clear q0 q1 q2
        have E5 := hide ((((unhide L2).keep HB.out).keep bn.out))
        have z := TBox.new wi t.kind t.change (.slice T t.els.length c) 24
        have HZ := hide z
        clear z
        go_wp2_with fail
        refine (format_tel _ t T c _ (unhide ST) (unhide E5)).mono ?_
        rintro e w5 ⟨rfl, hb5⟩
        obtain ⟨z0, z1, z2⟩ := (unhide HZ).keep hb5
        have E6 := hide ((unhide E5).keep hb5)
        have B5 := Lib.hid ((onward HB.out bn.out).trans (hb5.mono (onward HB.out bn.out).size))
        clear hb5
        go_wp2_with fail
        refine (rformat_any _ t T c _ (unhide ST) (unhide E6)).mono ?_
        rintro e w6 ⟨rfl, hb6⟩
        have k0 := kept hb6 z0
        have k1 := kept hb6 z1
        have k2 := kept hb6 z2
        have V1 := hide fun s => valid_after (c := c) (unhide ST) ((unhide E6).keep hb6) s
        have V2 := hide fun s => rvalid_after (c := c) (unhide ST) ((unhide E6).keep hb6) s
        have B6 := Lib.hid (onward B5.out hb6)
        clear z0 z1 z2 hb6
        replace k0 := After.cell k0
        replace k1 := After.cell k1
        replace k2 := After.cell k2
        go_wp2_with fail
        refine wp_region_after (by kernel_rfl) (by kernel_rfl) ?_
        repeat (go_big_quiet_step ((first
          | (go_at_call 16; exact After.call (unhide V1 _))
          | (go_at_call 17; exact After.call (unhide V2 _)))))
        refine wpQuiet_nil ?_
        rintro _ ⟨s, rfl⟩
        have B7 := Lib.hid (onward B6.out s.is)
        clear k0 k1 k2
        go_wp2
        go_roundw
        case rel => exact ⟨1 + 1, by omega, by go_num, B7.out⟩
        case measure => simp [intOf]
      · have bn := Lib.hid ((Below.refl wi.heap.size wi).alloc (Nat.le_refl _) (.cells #[.string u.kind, .string u.change, .slice (some ⟨g, 0, none⟩) u.els.length cap] 24))
        obtain ⟨_, _, _, _, _, _, q0, q1, q2⟩ := unhide HX
        have y0 := kept HB.out q0
        have y1 := kept HB.out q1
        have y2 := kept HB.out q2
        clear q0 q1 q2
        have E5 := hide ((((unhide L3).keep HB.out).keep bn.out))
        have z := TBox.new wi u.kind u.change (.slice (some ⟨g, 0, none⟩) u.els.length cap) 24
        have HZ := hide z
        clear z
        go_wp2_with fail
        refine (format_tel _ u (some ⟨g, 0, none⟩) cap _ (unhide HSU) (unhide E5)).mono ?_
        rintro e w5 ⟨rfl, hb5⟩
        obtain ⟨z0, z1, z2⟩ := (unhide HZ).keep hb5
        have E6 := hide ((unhide E5).keep hb5)
        have B5 := Lib.hid ((onward HB.out bn.out).trans (hb5.mono (onward HB.out bn.out).size))
        clear hb5
        go_wp2_with fail
        refine (rformat_any _ u (some ⟨g, 0, none⟩) cap _ (unhide HSU) (unhide E6)).mono ?_
        rintro e w6 ⟨rfl, hb6⟩
        have k0 := kept hb6 z0
        have k1 := kept hb6 z1
        have k2 := kept hb6 z2
        have V1 := hide fun s => valid_after (c := cap) (unhide HSU) ((unhide E6).keep hb6) s
        have V2 := hide fun s => rvalid_after (c := cap) (unhide HSU) ((unhide E6).keep hb6) s
        have B6 := Lib.hid (onward B5.out hb6)
        clear z0 z1 z2 hb6
        replace k0 := After.cell k0
        replace k1 := After.cell k1
        replace k2 := After.cell k2
        go_wp2_with fail
        refine wp_region_after (by kernel_rfl) (by kernel_rfl) ?_
        repeat (go_big_quiet_step ((first
          | (go_at_call 16; exact After.call (unhide V1 _))
          | (go_at_call 17; exact After.call (unhide V2 _)))))
        refine wpQuiet_nil ?_
        rintro _ ⟨s, rfl⟩
        have B7 := Lib.hid (onward B6.out s.is)
        clear k0 k1 k2
        go_wp2
        go_roundw
        case rel => exact ⟨2 + 1, by omega, by go_num, B7.out⟩
        case measure => simp [intOf]
      · go_wp2_with fail
        refine (tawake_any _).mono ?_
        rintro e w9 ⟨rfl, hb9⟩
        go_wp2
        go_ret
        exact ⟨rfl, onward (onward BV.out HB.out) hb9⟩
  · have hx4 : xs.length ≤ 4 := by have := HN.out; have := G4.out; omega
    have SS := unhide HS8
    have bq := ((Below.refl w8.heap.size w8).alloc (Nat.le_refl _) (.cells #[.string ⟨#[65]⟩] 9)).alloc (by rw [World.size_alloc]; omega) (.cells #[.string x, .slice (some ⟨w8.heap.size, 0, none⟩) 1 1] 34)
    have hY : ((w8.alloc (.cells #[.string ⟨#[65]⟩] 9)).alloc (.cells #[.string x, .slice (some ⟨w8.heap.size, 0, none⟩) 1 1] 34)).heap[w8.heap.size + 1]? = some (.cells #[.string x, .slice (some ⟨w8.heap.size, 0, none⟩) 1 1] 34 (0, 0)) := by
      have := heap_alloc_new (w8.alloc (.cells #[.string ⟨#[65]⟩] 9)) (.cells #[.string x, .slice (some ⟨w8.heap.size, 0, none⟩) 1 1] 34)
      rwa [World.size_alloc] at this
    have hX : ((w8.alloc (.cells #[.string ⟨#[65]⟩] 9)).alloc (.cells #[.string x, .slice (some ⟨w8.heap.size, 0, none⟩) 1 1] 34)).heap[w8.heap.size]? = some (.cells #[.string ⟨#[65]⟩] 9 (0, 0)) :=
      (heap_alloc_old _ _ (by rw [World.size_alloc]; omega)).trans (heap_alloc_new _ _)
    have SB := SS.below bq
    have HP1 := hide (one_row (b := w1.heap.size) (by have := SS.src.lt; omega) hX)
    have HO1 := hide SB.own
    have hsz1 := SB.sz
    have HSB := hide SB
    have HY1 := hide hY
    clear bq hY hX SB SS
    go_wp2_with (at_builtin; refine wpList_append_lies _ rfl _ _ 22 rfl (w3.heap.size + 2) 34 i2 (.agg #[.string ByteArray.empty, .slice none 0 0]) 2 40 Tryd.underlying22 (unhide KI0) (unhide KZ0) (unhide KZ1) (unhide KZ2) rfl (by decide) _ _ _ rfl (unhide HO1) ⟨w8.heap.size + 1, 0, none⟩ 1 1 [.string x, .slice (some ⟨w8.heap.size, 0, none⟩) 1 1] rfl rfl (World.news_of_block (unhide HY1)) (by
            intro u hu
            simp at hu
            rcases hu with rfl | rfl <;> rfl) (by omega) (by unfold maxLen; omega) (by omega) hsz1 _ rfl ?_)
    intro g cap w9 hown9 hgrow9 hat9 hlt9
    have hU9 := (hgrow9.block _ (Array.getElem?_eq_some_iff.1 (unhide HSB).ub).1 (own_ne (unhide HO1) (unhide HSB).ub (by decide))).trans (unhide HSB).ub
    have u29 := Lib.cell_of_heap hU9 2
    have uf9 := Lib.frozen_of_heap hU9 2
    have HSF := hide ((unhide HSB).push (x := ((x, [⟨#[65]⟩]), some ⟨w8.heap.size, 0, none⟩, 1)) (.inr (unhide HP1)) hown9 hgrow9)
    clear hown9 hgrow9 hat9 hlt9 hU9 HSB HO1 HY1 HP1 hsz1
    go_upto_region 21 with fail
    generalize w9.setCell ⟨w3.heap.size + 1, 2, none⟩ (.slice (some ⟨g, 0, none⟩) (xs.length + 1) cap) = Wf at *
    obtain ⟨ys, hys⟩ : ∃ ys : List ElS, ys = xs ++ [((x, [⟨#[65]⟩]), some ⟨w8.heap.size, 0, none⟩, 1)] := ⟨_, rfl⟩
    obtain ⟨u, hu⟩ : ∃ u : Tel, u = ⟨t.kind, t.change, t.els ++ [(x, [⟨#[65]⟩])]⟩ := ⟨_, rfl⟩
    have HSU := hide (show SmallT u by rw [hu]; exact small_app (unhide ST) G4.out (by show 1 ≤ 100; omega) (fun e he => by rw [List.mem_singleton.1 he]; exact small_one hx60 (by show 1 ≤ 60; omega)))
    have HUE := Lib.hid (show ys.map (·.1) = u.els by rw [hu, hys, List.map_append, unhide HXS]; rfl)
    have huk : t.kind = u.kind := by rw [hu]
    have huc : t.change = u.change := by rw [hu]
    rw [← hys, huk, huc] at HSF
    clear huk huc hu hys d0 d1 d2 f0 f1 f2 HS8 u29 uf9 hx4
    obtain ⟨xr, xt, xu, er, et, eu⟩ := (unhide HSF).tail (unhide XR) HNE.out (unhide ER) (unhide ET)
    rw [HUE.out] at eu
    have hul : (ys.length) = u.els.length := by rw [← HUE.out, List.length_map]
    rw [hul] at xu
    have BF := Lib.hid (unhide HSF).bel
    obtain ⟨V, hV⟩ : ∃ V : World, V = Wf.alloc (.cells #[.string raw.kind, .string raw.change, .slice P raw.els.length cr, .string t.kind, .string t.change, .slice T t.els.length c, .string u.kind, .string u.change, .slice (some ⟨g, 0, none⟩) u.els.length cap] 24) := ⟨_, rfl⟩
    have hv := heap_alloc_new Wf (.cells #[.string raw.kind, .string raw.change, .slice P raw.els.length cr, .string t.kind, .string t.change, .slice T t.els.length c, .string u.kind, .string u.change, .slice (some ⟨g, 0, none⟩) u.els.length cap] 24)
    have bv := (Below.refl Wf.heap.size Wf).alloc (Nat.le_refl _) (.cells #[.string raw.kind, .string raw.change, .slice P raw.els.length cr, .string t.kind, .string t.change, .slice T t.els.length c, .string u.kind, .string u.change, .slice (some ⟨g, 0, none⟩) u.els.length cap] 24)
    rw [← hV] at hv bv
    have HX := hide (And.intro (show V.cell? ⟨Wf.heap.size, 0, none⟩ = some (.string raw.kind) by rw [Lib.cell_of_heap hv]; rfl) (And.intro (show V.cell? ⟨Wf.heap.size, 1, none⟩ = some (.string raw.change) by rw [Lib.cell_of_heap hv]; rfl) (And.intro (show V.cell? ⟨Wf.heap.size, 2, none⟩ = some (.slice P raw.els.length cr) by rw [Lib.cell_of_heap hv]; rfl)
      (And.intro (show V.cell? ⟨Wf.heap.size, 3, none⟩ = some (.string t.kind) by rw [Lib.cell_of_heap hv]; rfl) (And.intro (show V.cell? ⟨Wf.heap.size, 4, none⟩ = some (.string t.change) by rw [Lib.cell_of_heap hv]; rfl) (And.intro (show V.cell? ⟨Wf.heap.size, 5, none⟩ = some (.slice T t.els.length c) by rw [Lib.cell_of_heap hv]; rfl)
      (And.intro (show V.cell? ⟨Wf.heap.size, 6, none⟩ = some (.string u.kind) by rw [Lib.cell_of_heap hv]; rfl) (And.intro (show V.cell? ⟨Wf.heap.size, 7, none⟩ = some (.string u.change) by rw [Lib.cell_of_heap hv]; rfl) (show V.cell? ⟨Wf.heap.size, 8, none⟩ = some (.slice (some ⟨g, 0, none⟩) u.els.length cap) by rw [Lib.cell_of_heap hv]; rfl)))))))))
    have L1 := hide (er.keep bv)
    have L2 := hide (et.keep bv)
    have L3 := hide (eu.keep bv)
    have BV := Lib.hid (onward BF.out bv)
    have HV := Lib.hid hV
    obtain ⟨r0, r1, r2⟩ := xr
    obtain ⟨s0, s1, s2⟩ := xt
    obtain ⟨v0, v1, v2⟩ := xu
    clear er et eu bv hv hV hul
    go_wp2_with fail
    go_loopw [96] (fun i wr => ∃ j : Nat, j ≤ 3 ∧ i = .int .i64 j ∧ Below V.heap.size V wr) (fun i _ => 3 - (intOf i).toNat)
    case atStart => exact ⟨0, by omega, rfl, by rw [HV.out]; exact Below.refl _ _⟩
    case round =>
      obtain ⟨j, hj3, rfl, hb⟩ := hrel
      obtain ⟨wi, rfl⟩ : ∃ wi : World, wi = wr := ⟨_, rfl⟩
      have HB := Lib.hid hb
      clear hb r0 r1 r2 s0 s1 s2 v0 v1 v2
      rcases (by omega : j = 0 ∨ j = 1 ∨ j = 2 ∨ j = 3) with rfl | rfl | rfl | rfl
      · have bn := Lib.hid ((Below.refl wi.heap.size wi).alloc (Nat.le_refl _) (.cells #[.string raw.kind, .string raw.change, .slice P raw.els.length cr] 24))
        obtain ⟨q0, q1, q2, _⟩ := unhide HX
        have y0 := kept HB.out q0
        have y1 := kept HB.out q1
        have y2 := kept HB.out q2
        clear q0 q1 q2
        have E5 := hide ((((unhide L1).keep HB.out).keep bn.out))
        have z := TBox.new wi raw.kind raw.change (.slice P raw.els.length cr) 24
        have HZ := hide z
        clear z
        go_wp2_with fail
        refine (format_tel _ raw P cr _ (unhide SR) (unhide E5)).mono ?_
        rintro e w5 ⟨rfl, hb5⟩
        obtain ⟨z0, z1, z2⟩ := (unhide HZ).keep hb5
        have E6 := hide ((unhide E5).keep hb5)
        have B5 := Lib.hid ((onward HB.out bn.out).trans (hb5.mono (onward HB.out bn.out).size))
        clear hb5
        go_wp2_with fail
        refine (rformat_any _ raw P cr _ (unhide SR) (unhide E6)).mono ?_
        rintro e w6 ⟨rfl, hb6⟩
        have k0 := kept hb6 z0
        have k1 := kept hb6 z1
        have k2 := kept hb6 z2
        have V1 := hide fun s => valid_after (c := cr) (unhide SR) ((unhide E6).keep hb6) s
        have V2 := hide fun s => rvalid_after (c := cr) (unhide SR) ((unhide E6).keep hb6) s
        have B6 := Lib.hid (onward B5.out hb6)
        clear z0 z1 z2 hb6
        replace k0 := After.cell k0
        replace k1 := After.cell k1
        replace k2 := After.cell k2
        go_wp2_with fail
        refine wp_region_after (by kernel_rfl) (by kernel_rfl) ?_
        repeat (go_big_quiet_step ((first
          | (go_at_call 16; exact After.call (unhide V1 _))
          | (go_at_call 17; exact After.call (unhide V2 _)))))
        refine wpQuiet_nil ?_
        rintro _ ⟨s, rfl⟩
        have B7 := Lib.hid (onward B6.out s.is)
        clear k0 k1 k2
        go_wp2
        go_roundw
        case rel => exact ⟨0 + 1, by omega, by go_num, B7.out⟩
        case measure => simp [intOf]
      · have bn := Lib.hid ((Below.refl wi.heap.size wi).alloc (Nat.le_refl _) (.cells #[.string t.kind, .string t.change, .slice T t.els.length c] 24))
        obtain ⟨_, _, _, q0, q1, q2, _⟩ := unhide HX
        have y0 := kept HB.out q0
        have y1 := kept HB.out q1
        have y2 := kept HB.out q2
        clear q0 q1 q2
        have E5 := hide ((((unhide L2).keep HB.out).keep bn.out))
        have z := TBox.new wi t.kind t.change (.slice T t.els.length c) 24
        have HZ := hide z
        clear z
        go_wp2_with fail
        refine (format_tel _ t T c _ (unhide ST) (unhide E5)).mono ?_
        rintro e w5 ⟨rfl, hb5⟩
        obtain ⟨z0, z1, z2⟩ := (unhide HZ).keep hb5
        have E6 := hide ((unhide E5).keep hb5)
        have B5 := Lib.hid ((onward HB.out bn.out).trans (hb5.mono (onward HB.out bn.out).size))
        clear hb5
        go_wp2_with fail
        refine (rformat_any _ t T c _ (unhide ST) (unhide E6)).mono ?_
        rintro e w6 ⟨rfl, hb6⟩
        have k0 := kept hb6 z0
        have k1 := kept hb6 z1
        have k2 := kept hb6 z2
        have V1 := hide fun s => valid_after (c := c) (unhide ST) ((unhide E6).keep hb6) s
        have V2 := hide fun s => rvalid_after (c := c) (unhide ST) ((unhide E6).keep hb6) s
        have B6 := Lib.hid (onward B5.out hb6)
        clear z0 z1 z2 hb6
        replace k0 := After.cell k0
        replace k1 := After.cell k1
        replace k2 := After.cell k2
        go_wp2_with fail
        refine wp_region_after (by kernel_rfl) (by kernel_rfl) ?_
        repeat (go_big_quiet_step ((first
          | (go_at_call 16; exact After.call (unhide V1 _))
          | (go_at_call 17; exact After.call (unhide V2 _)))))
        refine wpQuiet_nil ?_
        rintro _ ⟨s, rfl⟩
        have B7 := Lib.hid (onward B6.out s.is)
        clear k0 k1 k2
        go_wp2
        go_roundw
        case rel => exact ⟨1 + 1, by omega, by go_num, B7.out⟩
        case measure => simp [intOf]
      · have bn := Lib.hid ((Below.refl wi.heap.size wi).alloc (Nat.le_refl _) (.cells #[.string u.kind, .string u.change, .slice (some ⟨g, 0, none⟩) u.els.length cap] 24))
        obtain ⟨_, _, _, _, _, _, q0, q1, q2⟩ := unhide HX
        have y0 := kept HB.out q0
        have y1 := kept HB.out q1
        have y2 := kept HB.out q2
        clear q0 q1 q2
        have E5 := hide ((((unhide L3).keep HB.out).keep bn.out))
        have z := TBox.new wi u.kind u.change (.slice (some ⟨g, 0, none⟩) u.els.length cap) 24
        have HZ := hide z
        clear z
        go_wp2_with fail
        refine (format_tel _ u (some ⟨g, 0, none⟩) cap _ (unhide HSU) (unhide E5)).mono ?_
        rintro e w5 ⟨rfl, hb5⟩
        obtain ⟨z0, z1, z2⟩ := (unhide HZ).keep hb5
        have E6 := hide ((unhide E5).keep hb5)
        have B5 := Lib.hid ((onward HB.out bn.out).trans (hb5.mono (onward HB.out bn.out).size))
        clear hb5
        go_wp2_with fail
        refine (rformat_any _ u (some ⟨g, 0, none⟩) cap _ (unhide HSU) (unhide E6)).mono ?_
        rintro e w6 ⟨rfl, hb6⟩
        have k0 := kept hb6 z0
        have k1 := kept hb6 z1
        have k2 := kept hb6 z2
        have V1 := hide fun s => valid_after (c := cap) (unhide HSU) ((unhide E6).keep hb6) s
        have V2 := hide fun s => rvalid_after (c := cap) (unhide HSU) ((unhide E6).keep hb6) s
        have B6 := Lib.hid (onward B5.out hb6)
        clear z0 z1 z2 hb6
        replace k0 := After.cell k0
        replace k1 := After.cell k1
        replace k2 := After.cell k2
        go_wp2_with fail
        refine wp_region_after (by kernel_rfl) (by kernel_rfl) ?_
        repeat (go_big_quiet_step ((first
          | (go_at_call 16; exact After.call (unhide V1 _))
          | (go_at_call 17; exact After.call (unhide V2 _)))))
        refine wpQuiet_nil ?_
        rintro _ ⟨s, rfl⟩
        have B7 := Lib.hid (onward B6.out s.is)
        clear k0 k1 k2
        go_wp2
        go_roundw
        case rel => exact ⟨2 + 1, by omega, by go_num, B7.out⟩
        case measure => simp [intOf]
      · go_wp2_with fail
        refine (tawake_any _).mono ?_
        rintro e w9 ⟨rfl, hb9⟩
        go_wp2
        go_ret
        exact ⟨rfl, onward (onward BV.out HB.out) hb9⟩
  · have hx4 : xs.length ≤ 4 := by have := HN.out; have := G4.out; omega
    have HS5 := hide ((unhide HS8).below ((Below.refl w8.heap.size w8).drew))
    clear d0 d1 f0 f1
    go_wp2_with fail
    go_region_law
      (first
        | (refine step_append_lies _ rfl _ _ 22 rfl (w3.heap.size + 2) 34 i2 (.agg #[.string ByteArray.empty, .slice none 0 0]) 2 40 Tryd.underlying22 (unhide KI0) (unhide KZ0) (unhide KZ1) (unhide KZ2) rfl (by decide) _ _ _ rfl (unhide HO6) ⟨wp.heap.size + 1, 0, none⟩ 1 1 [.string ⟨#[65]⟩, .slice (some ⟨wp.heap.size, 0, none⟩) N N] rfl rfl (World.news_of_block (unhide HY6)) (by
              intro u hu
              simp at hu
              rcases hu with rfl | rfl <;> rfl) (by omega) (by unfold maxLen; omega) (by omega) hsz6 _ rfl ?_
           intro g cap w9 hown9 hgrow9 hat9 hlt9
           have hU9 := (hgrow9.block _ (Array.getElem?_eq_some_iff.1 (unhide HSB).ub).1 (own_ne (unhide HO6) (unhide HSB).ub (by decide))).trans (unhide HSB).ub
           have u29 := Lib.cell_of_heap hU9 2
           have uf9 := Lib.frozen_of_heap hU9 2
           have HSF := hide ((unhide HSB).push (x := (((⟨#[65]⟩ : ByteArray), List.replicate N ByteArray.empty), some ⟨wp.heap.size, 0, none⟩, N)) (.inr (unhide HP6)) (by rw [elCells_rep]; exact hown9) hgrow9)
           clear hown9 hgrow9 hat9 hlt9 hU9)
        | (go_simp; go_at_call 12
           refine (n_any _ _ 11 _ (unhide HS5).src (by omega) (by omega)).mono ?_
           rintro e wp ⟨z, rfl, hz1, hz2, hsp, hgp⟩
           obtain ⟨N, rfl⟩ := Int.eq_ofNat_of_zero_le hz1
           have hN10 : N ≤ 10 := by omega
           have SSp := (unhide HS5).reads hsp hgp
           have d2p : wp.cell? ⟨w3.heap.size + 1, 2, none⟩ = some (.slice A1 xs.length c1) := by rw [Lib.cell_of_heap SSp.ub]; rfl
           have hmk := run_make_row' (P := Tryd.prog) 32 9 (.string ByteArray.empty) 16 Tryd.underlying32 info_strE rfl .i64 .i64 N (by omega) (by omega)
           have bm := (Below.refl wp.heap.size wp).alloc (Nat.le_refl _) (.cells (madeCells #[.string ByteArray.empty] N) 9)
           have bq := bm.alloc (by rw [World.size_alloc]; omega) (.cells #[.string ⟨#[65]⟩, .slice (some ⟨wp.heap.size, 0, none⟩) N N] 34)
           have hY6 : ((wp.alloc (.cells (madeCells #[.string ByteArray.empty] N) 9)).alloc (.cells #[.string ⟨#[65]⟩, .slice (some ⟨wp.heap.size, 0, none⟩) N N] 34)).heap[wp.heap.size + 1]? = some (.cells #[.string ⟨#[65]⟩, .slice (some ⟨wp.heap.size, 0, none⟩) N N] 34 (0, 0)) := by
             have := heap_alloc_new (wp.alloc (.cells (madeCells #[.string ByteArray.empty] N) 9)) (.cells #[.string ⟨#[65]⟩, .slice (some ⟨wp.heap.size, 0, none⟩) N N] 34)
             rwa [World.size_alloc] at this
           have hX6 : ((wp.alloc (.cells (madeCells #[.string ByteArray.empty] N) 9)).alloc (.cells #[.string ⟨#[65]⟩, .slice (some ⟨wp.heap.size, 0, none⟩) N N] 34)).heap[wp.heap.size]? = some (.cells (madeCells #[.string ByteArray.empty] N) 9 (0, 0)) :=
             (heap_alloc_old _ _ (by rw [World.size_alloc]; omega)).trans (heap_alloc_new _ _)
           have SSm := SSp.below bm
           have d2m := Lib.cell_of_heap SSm.ub 2
           have SB := SSp.below bq
           have d2q := Lib.cell_of_heap SB.ub 2
           have HP6 := hide (made_row (b := w1.heap.size) (by have := SSp.src.lt; omega) hX6)
           have HO6 := hide SB.own
           have hsz6 := SB.sz
           have HSB := hide SB
           have HY6 := hide hY6
           clear hsp hgp hz1 hz2 SSp bm bq hY6 hX6 SSm SB))
    all_goals
      go_upto_region 21 with fail
      generalize w9.setCell ⟨w3.heap.size + 1, 2, none⟩ (.slice (some ⟨g, 0, none⟩) (xs.length + 1) cap) = Wf at *
      obtain ⟨ys, hys⟩ : ∃ ys : List ElS, ys = xs ++ [(((⟨#[65]⟩ : ByteArray), List.replicate N ByteArray.empty), some ⟨wp.heap.size, 0, none⟩, N)] := ⟨_, rfl⟩
      obtain ⟨u, hu⟩ : ∃ u : Tel, u = ⟨t.kind, t.change, t.els ++ [((⟨#[65]⟩ : ByteArray), List.replicate N ByteArray.empty)]⟩ := ⟨_, rfl⟩
      have HSU := hide (show SmallT u by rw [hu]; exact small_app (unhide ST) G4.out (by show 1 ≤ 100; omega) (fun e he => by rw [List.mem_singleton.1 he]; exact small_empty (by omega)))
      have HUE := Lib.hid (show ys.map (·.1) = u.els by rw [hu, hys, List.map_append, unhide HXS]; rfl)
      have huk : t.kind = u.kind := by rw [hu]
      have huc : t.change = u.change := by rw [hu]
      rw [← hys, huk, huc] at HSF
      clear huk huc hu hys d2 f2 HS8 HS5 u29 uf9 hx4 d2p d2m d2q hmk HSB HO6 HY6 HP6 hsz6
      obtain ⟨xr, xt, xu, er, et, eu⟩ := (unhide HSF).tail (unhide XR) HNE.out (unhide ER) (unhide ET)
      rw [HUE.out] at eu
      have hul : (ys.length) = u.els.length := by rw [← HUE.out, List.length_map]
      rw [hul] at xu
      have BF := Lib.hid (unhide HSF).bel
      obtain ⟨V, hV⟩ : ∃ V : World, V = Wf.alloc (.cells #[.string raw.kind, .string raw.change, .slice P raw.els.length cr, .string t.kind, .string t.change, .slice T t.els.length c, .string u.kind, .string u.change, .slice (some ⟨g, 0, none⟩) u.els.length cap] 24) := ⟨_, rfl⟩
      have hv := heap_alloc_new Wf (.cells #[.string raw.kind, .string raw.change, .slice P raw.els.length cr, .string t.kind, .string t.change, .slice T t.els.length c, .string u.kind, .string u.change, .slice (some ⟨g, 0, none⟩) u.els.length cap] 24)
      have bv := (Below.refl Wf.heap.size Wf).alloc (Nat.le_refl _) (.cells #[.string raw.kind, .string raw.change, .slice P raw.els.length cr, .string t.kind, .string t.change, .slice T t.els.length c, .string u.kind, .string u.change, .slice (some ⟨g, 0, none⟩) u.els.length cap] 24)
      rw [← hV] at hv bv
      have HX := hide (And.intro (show V.cell? ⟨Wf.heap.size, 0, none⟩ = some (.string raw.kind) by rw [Lib.cell_of_heap hv]; rfl) (And.intro (show V.cell? ⟨Wf.heap.size, 1, none⟩ = some (.string raw.change) by rw [Lib.cell_of_heap hv]; rfl) (And.intro (show V.cell? ⟨Wf.heap.size, 2, none⟩ = some (.slice P raw.els.length cr) by rw [Lib.cell_of_heap hv]; rfl)
        (And.intro (show V.cell? ⟨Wf.heap.size, 3, none⟩ = some (.string t.kind) by rw [Lib.cell_of_heap hv]; rfl) (And.intro (show V.cell? ⟨Wf.heap.size, 4, none⟩ = some (.string t.change) by rw [Lib.cell_of_heap hv]; rfl) (And.intro (show V.cell? ⟨Wf.heap.size, 5, none⟩ = some (.slice T t.els.length c) by rw [Lib.cell_of_heap hv]; rfl)
        (And.intro (show V.cell? ⟨Wf.heap.size, 6, none⟩ = some (.string u.kind) by rw [Lib.cell_of_heap hv]; rfl) (And.intro (show V.cell? ⟨Wf.heap.size, 7, none⟩ = some (.string u.change) by rw [Lib.cell_of_heap hv]; rfl) (show V.cell? ⟨Wf.heap.size, 8, none⟩ = some (.slice (some ⟨g, 0, none⟩) u.els.length cap) by rw [Lib.cell_of_heap hv]; rfl)))))))))
      have L1 := hide (er.keep bv)
      have L2 := hide (et.keep bv)
      have L3 := hide (eu.keep bv)
      have BV := Lib.hid (onward BF.out bv)
      have HV := Lib.hid hV
      obtain ⟨r0, r1, r2⟩ := xr
      obtain ⟨s0, s1, s2⟩ := xt
      obtain ⟨v0, v1, v2⟩ := xu
      clear er et eu bv hv hV hul
      go_wp2_with fail
      go_loopw [96] (fun i wr => ∃ j : Nat, j ≤ 3 ∧ i = .int .i64 j ∧ Below V.heap.size V wr) (fun i _ => 3 - (intOf i).toNat)
      case atStart => exact ⟨0, by omega, rfl, by rw [HV.out]; exact Below.refl _ _⟩
      case round =>
        obtain ⟨j, hj3, rfl, hb⟩ := hrel
        obtain ⟨wi, rfl⟩ : ∃ wi : World, wi = wr := ⟨_, rfl⟩
        have HB := Lib.hid hb
        clear hb r0 r1 r2 s0 s1 s2 v0 v1 v2
        rcases (by omega : j = 0 ∨ j = 1 ∨ j = 2 ∨ j = 3) with rfl | rfl | rfl | rfl
        · have bn := Lib.hid ((Below.refl wi.heap.size wi).alloc (Nat.le_refl _) (.cells #[.string raw.kind, .string raw.change, .slice P raw.els.length cr] 24))
          obtain ⟨q0, q1, q2, _⟩ := unhide HX
          have y0 := kept HB.out q0
          have y1 := kept HB.out q1
          have y2 := kept HB.out q2
          clear q0 q1 q2
          have E5 := hide ((((unhide L1).keep HB.out).keep bn.out))
          have z := TBox.new wi raw.kind raw.change (.slice P raw.els.length cr) 24
          have HZ := hide z
          clear z
          go_wp2_with fail
          refine (format_tel _ raw P cr _ (unhide SR) (unhide E5)).mono ?_
          rintro e w5 ⟨rfl, hb5⟩
          obtain ⟨z0, z1, z2⟩ := (unhide HZ).keep hb5
          have E6 := hide ((unhide E5).keep hb5)
          have B5 := Lib.hid ((onward HB.out bn.out).trans (hb5.mono (onward HB.out bn.out).size))
          clear hb5
          go_wp2_with fail
          refine (rformat_any _ raw P cr _ (unhide SR) (unhide E6)).mono ?_
          rintro e w6 ⟨rfl, hb6⟩
          have k0 := kept hb6 z0
          have k1 := kept hb6 z1
          have k2 := kept hb6 z2
          have V1 := hide fun s => valid_after (c := cr) (unhide SR) ((unhide E6).keep hb6) s
          have V2 := hide fun s => rvalid_after (c := cr) (unhide SR) ((unhide E6).keep hb6) s
          have B6 := Lib.hid (onward B5.out hb6)
          clear z0 z1 z2 hb6
          replace k0 := After.cell k0
          replace k1 := After.cell k1
          replace k2 := After.cell k2
          go_wp2_with fail
          refine wp_region_after (by kernel_rfl) (by kernel_rfl) ?_
          repeat (go_big_quiet_step ((first
            | (go_at_call 16; exact After.call (unhide V1 _))
            | (go_at_call 17; exact After.call (unhide V2 _)))))
          refine wpQuiet_nil ?_
          rintro _ ⟨s, rfl⟩
          have B7 := Lib.hid (onward B6.out s.is)
          clear k0 k1 k2
          go_wp2
          go_roundw
          case rel => exact ⟨0 + 1, by omega, by go_num, B7.out⟩
          case measure => simp [intOf]
        · have bn := Lib.hid ((Below.refl wi.heap.size wi).alloc (Nat.le_refl _) (.cells #[.string t.kind, .string t.change, .slice T t.els.length c] 24))
          obtain ⟨_, _, _, q0, q1, q2, _⟩ := unhide HX
          have y0 := kept HB.out q0
          have y1 := kept HB.out q1
          have y2 := kept HB.out q2
          clear q0 q1 q2
          have E5 := hide ((((unhide L2).keep HB.out).keep bn.out))
          have z := TBox.new wi t.kind t.change (.slice T t.els.length c) 24
          have HZ := hide z
          clear z
          go_wp2_with fail
          refine (format_tel _ t T c _ (unhide ST) (unhide E5)).mono ?_
          rintro e w5 ⟨rfl, hb5⟩
          obtain ⟨z0, z1, z2⟩ := (unhide HZ).keep hb5
          have E6 := hide ((unhide E5).keep hb5)
          have B5 := Lib.hid ((onward HB.out bn.out).trans (hb5.mono (onward HB.out bn.out).size))
          clear hb5
          go_wp2_with fail
          refine (rformat_any _ t T c _ (unhide ST) (unhide E6)).mono ?_
          rintro e w6 ⟨rfl, hb6⟩
          have k0 := kept hb6 z0
          have k1 := kept hb6 z1
          have k2 := kept hb6 z2
          have V1 := hide fun s => valid_after (c := c) (unhide ST) ((unhide E6).keep hb6) s
          have V2 := hide fun s => rvalid_after (c := c) (unhide ST) ((unhide E6).keep hb6) s
          have B6 := Lib.hid (onward B5.out hb6)
          clear z0 z1 z2 hb6
          replace k0 := After.cell k0
          replace k1 := After.cell k1
          replace k2 := After.cell k2
          go_wp2_with fail
          refine wp_region_after (by kernel_rfl) (by kernel_rfl) ?_
          repeat (go_big_quiet_step ((first
            | (go_at_call 16; exact After.call (unhide V1 _))
            | (go_at_call 17; exact After.call (unhide V2 _)))))
          refine wpQuiet_nil ?_
          rintro _ ⟨s, rfl⟩
          have B7 := Lib.hid (onward B6.out s.is)
          clear k0 k1 k2
          go_wp2
          go_roundw
          case rel => exact ⟨1 + 1, by omega, by go_num, B7.out⟩
          case measure => simp [intOf]
        · have bn := Lib.hid ((Below.refl wi.heap.size wi).alloc (Nat.le_refl _) (.cells #[.string u.kind, .string u.change, .slice (some ⟨g, 0, none⟩) u.els.length cap] 24))
          obtain ⟨_, _, _, _, _, _, q0, q1, q2⟩ := unhide HX
          have y0 := kept HB.out q0
          have y1 := kept HB.out q1
          have y2 := kept HB.out q2
          clear q0 q1 q2
          have E5 := hide ((((unhide L3).keep HB.out).keep bn.out))
          have z := TBox.new wi u.kind u.change (.slice (some ⟨g, 0, none⟩) u.els.length cap) 24
          have HZ := hide z
          clear z
          go_wp2_with fail
          refine (format_tel _ u (some ⟨g, 0, none⟩) cap _ (unhide HSU) (unhide E5)).mono ?_
          rintro e w5 ⟨rfl, hb5⟩
          obtain ⟨z0, z1, z2⟩ := (unhide HZ).keep hb5
          have E6 := hide ((unhide E5).keep hb5)
          have B5 := Lib.hid ((onward HB.out bn.out).trans (hb5.mono (onward HB.out bn.out).size))
          clear hb5
          go_wp2_with fail
          refine (rformat_any _ u (some ⟨g, 0, none⟩) cap _ (unhide HSU) (unhide E6)).mono ?_
          rintro e w6 ⟨rfl, hb6⟩
          have k0 := kept hb6 z0
          have k1 := kept hb6 z1
          have k2 := kept hb6 z2
          have V1 := hide fun s => valid_after (c := cap) (unhide HSU) ((unhide E6).keep hb6) s
          have V2 := hide fun s => rvalid_after (c := cap) (unhide HSU) ((unhide E6).keep hb6) s
          have B6 := Lib.hid (onward B5.out hb6)
          clear z0 z1 z2 hb6
          replace k0 := After.cell k0
          replace k1 := After.cell k1
          replace k2 := After.cell k2
          go_wp2_with fail
          refine wp_region_after (by kernel_rfl) (by kernel_rfl) ?_
          repeat (go_big_quiet_step ((first
            | (go_at_call 16; exact After.call (unhide V1 _))
            | (go_at_call 17; exact After.call (unhide V2 _)))))
          refine wpQuiet_nil ?_
          rintro _ ⟨s, rfl⟩
          have B7 := Lib.hid (onward B6.out s.is)
          clear k0 k1 k2
          go_wp2
          go_roundw
          case rel => exact ⟨2 + 1, by omega, by go_num, B7.out⟩
          case measure => simp [intOf]
        · go_wp2_with fail
          refine (tawake_any _).mono ?_
          rintro e w9 ⟨rfl, hb9⟩
          go_wp2
          go_ret
          exact ⟨rfl, onward (onward BV.out HB.out) hb9⟩
  · have hx4 : xs.length ≤ 4 := by have := HN.out; have := G4.out; omega
    go_wp2_with fail
    refine (range_any _ _ 18 26 _ (unhide HS8).src (by omega) (by omega) (by omega)).mono ?_
    rintro e wa ⟨z, rfl, hz1, hz2, hsa, hga⟩
    obtain ⟨N, rfl⟩ := Int.eq_ofNat_of_zero_le (show 0 ≤ z by omega)
    have HSA := hide ((unhide HS8).reads hsa hga)
    have hN26 : N ≤ 26 := by omega
    clear hsa hga d0 d1 d2 f0 f1 f2 HS8 hz1 hz2
    go_wp2_with fail
    go_loopw [40] (fun _ wr => ∃ (ys : List ElS) (A2 : Option Addr) (c2 k : Nat), Hid (ys.map (·.1) = t.els ++ List.replicate k eA) ∧ ys.length ≤ 26 ∧ Stt w w3 w1.heap.size w1.heap.size t T c t.kind t.change A2 c2 ys wr) (fun _ wr => N - lenAt (w3.heap.size + 1) wr)
    case atStart => exact ⟨xs, A1, c1, 0, Lib.hid (by rw [unhide HXS]; simp), by omega, unhide HSA⟩
    case round =>
      obtain ⟨ys, A2, c2, k, hmap, hle, hst⟩ := hrel
      obtain ⟨wo, rfl⟩ : ∃ wo : World, wo = wr := ⟨_, rfl⟩
      have ub := hst.ub
      have d2 : wo.cell? ⟨w3.heap.size + 1, 2, none⟩ = some (.slice A2 ys.length c2) := by rw [Lib.cell_of_heap ub]; rfl
      have f2 := Lib.frozen_of_heap ub 2
      have hm1 := Lib.hid (lenAt_of ub)
      have HSO := hide hst
      clear ub hst HSA
      by_cases hlt : ys.length < N
      · have kl : (ys.length : Int) < (N : Int) := by omega
        have hx4 : ys.length ≤ 26 := hle
        have SS := unhide HSO
        have bq := ((Below.refl wo.heap.size wo).alloc (Nat.le_refl _) (.cells #[.string ⟨#[66]⟩] 9)).alloc (by rw [World.size_alloc]; omega) (.cells #[.string ⟨#[65]⟩, .slice (some ⟨wo.heap.size, 0, none⟩) 1 1] 34)
        have hY : ((wo.alloc (.cells #[.string ⟨#[66]⟩] 9)).alloc (.cells #[.string ⟨#[65]⟩, .slice (some ⟨wo.heap.size, 0, none⟩) 1 1] 34)).heap[wo.heap.size + 1]? = some (.cells #[.string ⟨#[65]⟩, .slice (some ⟨wo.heap.size, 0, none⟩) 1 1] 34 (0, 0)) := by
          have := heap_alloc_new (wo.alloc (.cells #[.string ⟨#[66]⟩] 9)) (.cells #[.string ⟨#[65]⟩, .slice (some ⟨wo.heap.size, 0, none⟩) 1 1] 34)
          rwa [World.size_alloc] at this
        have hX : ((wo.alloc (.cells #[.string ⟨#[66]⟩] 9)).alloc (.cells #[.string ⟨#[65]⟩, .slice (some ⟨wo.heap.size, 0, none⟩) 1 1] 34)).heap[wo.heap.size]? = some (.cells #[.string ⟨#[66]⟩] 9 (0, 0)) :=
          (heap_alloc_old _ _ (by rw [World.size_alloc]; omega)).trans (heap_alloc_new _ _)
        have SB := SS.below bq
        have HP1 := hide (one_row (b := w1.heap.size) (by have := SS.src.lt; omega) hX)
        have HO1 := hide SB.own
        have hsz1 := SB.sz
        have HSB := hide SB
        have HY1 := hide hY
        clear bq hY hX SB SS
        go_wp2_with (at_builtin; refine wpList_append_lies _ rfl _ _ 22 rfl (w3.heap.size + 2) 34 i2 (.agg #[.string ByteArray.empty, .slice none 0 0]) 2 40 Tryd.underlying22 (unhide KI0) (unhide KZ0) (unhide KZ1) (unhide KZ2) rfl (by decide) _ _ _ rfl (unhide HO1) ⟨wo.heap.size + 1, 0, none⟩ 1 1 [.string ⟨#[65]⟩, .slice (some ⟨wo.heap.size, 0, none⟩) 1 1] rfl rfl (World.news_of_block (unhide HY1)) (by
                intro u hu
                simp at hu
                rcases hu with rfl | rfl <;> rfl) (by omega) (by unfold maxLen; omega) (by omega) hsz1 _ rfl ?_)
        intro g cap w9 hown9 hgrow9 hat9 hlt9
        have hU9 := (hgrow9.block _ (Array.getElem?_eq_some_iff.1 (unhide HSB).ub).1 (own_ne (unhide HO1) (unhide HSB).ub (by decide))).trans (unhide HSB).ub
        have u29 := Lib.cell_of_heap hU9 2
        have uf9 := Lib.frozen_of_heap hU9 2
        have HSF := hide ((unhide HSB).push (x := ((⟨#[65]⟩, [⟨#[66]⟩]), some ⟨wo.heap.size, 0, none⟩, 1)) (.inr (unhide HP1)) hown9 hgrow9)
        clear hown9 hgrow9 hat9 hlt9 hU9 HSB HO1 HY1 HP1 hsz1
        have hm2 := Lib.hid (lenAt_of (unhide HSF).ub)
        have HMM := Lib.hid (show (ys ++ [(((⟨#[65]⟩, [⟨#[66]⟩]), some ⟨wo.heap.size, 0, none⟩, 1) : ElS)]).map (fun x => x.1) = t.els ++ List.replicate (k + 1) eA by rw [List.map_append, hmap.out, List.replicate_succ', List.append_assoc]; rfl)
        have HLL := Lib.hid (show (ys ++ [(((⟨#[65]⟩, [⟨#[66]⟩]), some ⟨wo.heap.size, 0, none⟩, 1) : ElS)]).length = ys.length + 1 by rw [List.length_append]; rfl)
        go_wp2
        go_roundw
        case rel => exact ⟨_, _, _, k + 1, HMM, by rw [HLL.out]; omega, unhide HSF⟩
        case measure =>
          have e1 := hm1.out
          have e2 := hm2.out
          rw [HLL.out] at e2
          omega
      · have kl : ¬ (ys.length : Int) < (N : Int) := by omega
        go_upto_region 21 with fail
        obtain ⟨Wf, rfl⟩ : ∃ Wf : World, Wf = wo := ⟨_, rfl⟩
        have HSF := HSO
        obtain ⟨u, hu⟩ : ∃ u : Tel, u = ⟨t.kind, t.change, t.els ++ List.replicate k eA⟩ := ⟨_, rfl⟩
        have hk26 : k ≤ 26 := by
          have := congrArg List.length hmap.out
          rw [List.length_map, List.length_append, List.length_replicate] at this
          omega
        have HSU := hide (show SmallT u by rw [hu]; exact small_app (unhide ST) G4.out (by rw [List.length_replicate]; omega) (fun e he => by rw [List.eq_of_mem_replicate he]; exact small_one (by show 1 ≤ 60; omega) (by show 1 ≤ 60; omega)))
        have HUE := Lib.hid (show ys.map (·.1) = u.els by rw [hu, hmap.out])
        have huk : t.kind = u.kind := by rw [hu]
        have huc : t.change = u.change := by rw [hu]
        rw [huk, huc] at HSF
        clear huk huc hu hmap d2 f2 HSO hm1 hk26 hle
        obtain ⟨xr, xt, xu, er, et, eu⟩ := (unhide HSF).tail (unhide XR) HNE.out (unhide ER) (unhide ET)
        rw [HUE.out] at eu
        have hul : (ys.length) = u.els.length := by rw [← HUE.out, List.length_map]
        rw [hul] at xu
        have BF := Lib.hid (unhide HSF).bel
        obtain ⟨V, hV⟩ : ∃ V : World, V = Wf.alloc (.cells #[.string raw.kind, .string raw.change, .slice P raw.els.length cr, .string t.kind, .string t.change, .slice T t.els.length c, .string u.kind, .string u.change, .slice A2 u.els.length c2] 24) := ⟨_, rfl⟩
        have hv := heap_alloc_new Wf (.cells #[.string raw.kind, .string raw.change, .slice P raw.els.length cr, .string t.kind, .string t.change, .slice T t.els.length c, .string u.kind, .string u.change, .slice A2 u.els.length c2] 24)
        have bv := (Below.refl Wf.heap.size Wf).alloc (Nat.le_refl _) (.cells #[.string raw.kind, .string raw.change, .slice P raw.els.length cr, .string t.kind, .string t.change, .slice T t.els.length c, .string u.kind, .string u.change, .slice A2 u.els.length c2] 24)
        rw [← hV] at hv bv
        have HX := hide (And.intro (show V.cell? ⟨Wf.heap.size, 0, none⟩ = some (.string raw.kind) by rw [Lib.cell_of_heap hv]; rfl) (And.intro (show V.cell? ⟨Wf.heap.size, 1, none⟩ = some (.string raw.change) by rw [Lib.cell_of_heap hv]; rfl) (And.intro (show V.cell? ⟨Wf.heap.size, 2, none⟩ = some (.slice P raw.els.length cr) by rw [Lib.cell_of_heap hv]; rfl)
          (And.intro (show V.cell? ⟨Wf.heap.size, 3, none⟩ = some (.string t.kind) by rw [Lib.cell_of_heap hv]; rfl) (And.intro (show V.cell? ⟨Wf.heap.size, 4, none⟩ = some (.string t.change) by rw [Lib.cell_of_heap hv]; rfl) (And.intro (show V.cell? ⟨Wf.heap.size, 5, none⟩ = some (.slice T t.els.length c) by rw [Lib.cell_of_heap hv]; rfl)
          (And.intro (show V.cell? ⟨Wf.heap.size, 6, none⟩ = some (.string u.kind) by rw [Lib.cell_of_heap hv]; rfl) (And.intro (show V.cell? ⟨Wf.heap.size, 7, none⟩ = some (.string u.change) by rw [Lib.cell_of_heap hv]; rfl) (show V.cell? ⟨Wf.heap.size, 8, none⟩ = some (.slice A2 u.els.length c2) by rw [Lib.cell_of_heap hv]; rfl)))))))))
        have L1 := hide (er.keep bv)
        have L2 := hide (et.keep bv)
        have L3 := hide (eu.keep bv)
        have BV := Lib.hid (onward BF.out bv)
        have HV := Lib.hid hV
        obtain ⟨r0, r1, r2⟩ := xr
        obtain ⟨s0, s1, s2⟩ := xt
        obtain ⟨v0, v1, v2⟩ := xu
        clear er et eu bv hv hV hul
        go_wp2_with fail
        go_loopw [96] (fun i wr => ∃ j : Nat, j ≤ 3 ∧ i = .int .i64 j ∧ Below V.heap.size V wr) (fun i _ => 3 - (intOf i).toNat)
        case atStart => exact ⟨0, by omega, rfl, by rw [HV.out]; exact Below.refl _ _⟩
        case round =>
          obtain ⟨j, hj3, rfl, hb⟩ := hrel
          obtain ⟨wi, rfl⟩ : ∃ wi : World, wi = wr := ⟨_, rfl⟩
          have HB := Lib.hid hb
          clear hb r0 r1 r2 s0 s1 s2 v0 v1 v2
          rcases (by omega : j = 0 ∨ j = 1 ∨ j = 2 ∨ j = 3) with rfl | rfl | rfl | rfl
          · have bn := Lib.hid ((Below.refl wi.heap.size wi).alloc (Nat.le_refl _) (.cells #[.string raw.kind, .string raw.change, .slice P raw.els.length cr] 24))
            obtain ⟨q0, q1, q2, _⟩ := unhide HX
            have y0 := kept HB.out q0
            have y1 := kept HB.out q1
            have y2 := kept HB.out q2
            clear q0 q1 q2
            have E5 := hide ((((unhide L1).keep HB.out).keep bn.out))
            have z := TBox.new wi raw.kind raw.change (.slice P raw.els.length cr) 24
            have HZ := hide z
            clear z
            go_wp2_with fail
            refine (format_tel _ raw P cr _ (unhide SR) (unhide E5)).mono ?_
            rintro e w5 ⟨rfl, hb5⟩
            obtain ⟨z0, z1, z2⟩ := (unhide HZ).keep hb5
            have E6 := hide ((unhide E5).keep hb5)
            have B5 := Lib.hid ((onward HB.out bn.out).trans (hb5.mono (onward HB.out bn.out).size))
            clear hb5
            go_wp2_with fail
            refine (rformat_any _ raw P cr _ (unhide SR) (unhide E6)).mono ?_
            rintro e w6 ⟨rfl, hb6⟩
            have k0 := kept hb6 z0
            have k1 := kept hb6 z1
            have k2 := kept hb6 z2
            have V1 := hide fun s => valid_after (c := cr) (unhide SR) ((unhide E6).keep hb6) s
            have V2 := hide fun s => rvalid_after (c := cr) (unhide SR) ((unhide E6).keep hb6) s
            have B6 := Lib.hid (onward B5.out hb6)
            clear z0 z1 z2 hb6
            replace k0 := After.cell k0
            replace k1 := After.cell k1
            replace k2 := After.cell k2
            go_wp2_with fail
            refine wp_region_after (by kernel_rfl) (by kernel_rfl) ?_
            repeat (go_big_quiet_step ((first
              | (go_at_call 16; exact After.call (unhide V1 _))
              | (go_at_call 17; exact After.call (unhide V2 _)))))
            refine wpQuiet_nil ?_
            rintro _ ⟨s, rfl⟩
            have B7 := Lib.hid (onward B6.out s.is)
            clear k0 k1 k2
            go_wp2
            go_roundw
            case rel => exact ⟨0 + 1, by omega, by go_num, B7.out⟩
            case measure => simp [intOf]
          · have bn := Lib.hid ((Below.refl wi.heap.size wi).alloc (Nat.le_refl _) (.cells #[.string t.kind, .string t.change, .slice T t.els.length c] 24))
            obtain ⟨_, _, _, q0, q1, q2, _⟩ := unhide HX
            have y0 := kept HB.out q0
            have y1 := kept HB.out q1
            have y2 := kept HB.out q2
            clear q0 q1 q2
            have E5 := hide ((((unhide L2).keep HB.out).keep bn.out))
            have z := TBox.new wi t.kind t.change (.slice T t.els.length c) 24
            have HZ := hide z
            clear z
            go_wp2_with fail
            refine (format_tel _ t T c _ (unhide ST) (unhide E5)).mono ?_
            rintro e w5 ⟨rfl, hb5⟩
            obtain ⟨z0, z1, z2⟩ := (unhide HZ).keep hb5
            have E6 := hide ((unhide E5).keep hb5)
            have B5 := Lib.hid ((onward HB.out bn.out).trans (hb5.mono (onward HB.out bn.out).size))
            clear hb5
            go_wp2_with fail
            refine (rformat_any _ t T c _ (unhide ST) (unhide E6)).mono ?_
            rintro e w6 ⟨rfl, hb6⟩
            have k0 := kept hb6 z0
            have k1 := kept hb6 z1
            have k2 := kept hb6 z2
            have V1 := hide fun s => valid_after (c := c) (unhide ST) ((unhide E6).keep hb6) s
            have V2 := hide fun s => rvalid_after (c := c) (unhide ST) ((unhide E6).keep hb6) s
            have B6 := Lib.hid (onward B5.out hb6)
            clear z0 z1 z2 hb6
            replace k0 := After.cell k0
            replace k1 := After.cell k1
            replace k2 := After.cell k2
            go_wp2_with fail
            refine wp_region_after (by kernel_rfl) (by kernel_rfl) ?_
            repeat (go_big_quiet_step ((first
              | (go_at_call 16; exact After.call (unhide V1 _))
              | (go_at_call 17; exact After.call (unhide V2 _)))))
            refine wpQuiet_nil ?_
            rintro _ ⟨s, rfl⟩
            have B7 := Lib.hid (onward B6.out s.is)
            clear k0 k1 k2
            go_wp2
            go_roundw
            case rel => exact ⟨1 + 1, by omega, by go_num, B7.out⟩
            case measure => simp [intOf]
          · have bn := Lib.hid ((Below.refl wi.heap.size wi).alloc (Nat.le_refl _) (.cells #[.string u.kind, .string u.change, .slice A2 u.els.length c2] 24))
            obtain ⟨_, _, _, _, _, _, q0, q1, q2⟩ := unhide HX
            have y0 := kept HB.out q0
            have y1 := kept HB.out q1
            have y2 := kept HB.out q2
            clear q0 q1 q2
            have E5 := hide ((((unhide L3).keep HB.out).keep bn.out))
            have z := TBox.new wi u.kind u.change (.slice A2 u.els.length c2) 24
            have HZ := hide z
            clear z
            go_wp2_with fail
            refine (format_tel _ u A2 c2 _ (unhide HSU) (unhide E5)).mono ?_
            rintro e w5 ⟨rfl, hb5⟩
            obtain ⟨z0, z1, z2⟩ := (unhide HZ).keep hb5
            have E6 := hide ((unhide E5).keep hb5)
            have B5 := Lib.hid ((onward HB.out bn.out).trans (hb5.mono (onward HB.out bn.out).size))
            clear hb5
            go_wp2_with fail
            refine (rformat_any _ u A2 c2 _ (unhide HSU) (unhide E6)).mono ?_
            rintro e w6 ⟨rfl, hb6⟩
            have k0 := kept hb6 z0
            have k1 := kept hb6 z1
            have k2 := kept hb6 z2
            have V1 := hide fun s => valid_after (c := c2) (unhide HSU) ((unhide E6).keep hb6) s
            have V2 := hide fun s => rvalid_after (c := c2) (unhide HSU) ((unhide E6).keep hb6) s
            have B6 := Lib.hid (onward B5.out hb6)
            clear z0 z1 z2 hb6
            replace k0 := After.cell k0
            replace k1 := After.cell k1
            replace k2 := After.cell k2
            go_wp2_with fail
            refine wp_region_after (by kernel_rfl) (by kernel_rfl) ?_
            repeat (go_big_quiet_step ((first
              | (go_at_call 16; exact After.call (unhide V1 _))
              | (go_at_call 17; exact After.call (unhide V2 _)))))
            refine wpQuiet_nil ?_
            rintro _ ⟨s, rfl⟩
            have B7 := Lib.hid (onward B6.out s.is)
            clear k0 k1 k2
            go_wp2
            go_roundw
            case rel => exact ⟨2 + 1, by omega, by go_num, B7.out⟩
            case measure => simp [intOf]
          · go_wp2_with fail
            refine (tawake_any _).mono ?_
            rintro e w9 ⟨rfl, hb9⟩
            go_wp2
            go_ret
            exact ⟨rfl, onward (onward BV.out HB.out) hb9⟩

theorem tfmt_law (raw : Tel) (P : Option Addr) (cr : Nat) {w : World} (hP : ∀ b', w.heap.size ≤ b' → ElsIn b' w P raw.els) (A : Option Addr) (len cap : Nat) (hcap : len ≤ cap) (hA : IntsIn w.heap.size w A len) (x : ByteArray) (_hx : x.size ≤ maxLen) :
    Calls Tryd.prog 3 #[.agg #[.string raw.kind, .string raw.change, .slice P raw.els.length cr], .slice A len cap, .string x] w fun e w' => e = .returned (.bool true) ∧ Below w.heap.size w w' :=
  tfmt_any raw P cr A len cap x w hcap hA hP
end Go.Proofs.YtmdjdhfchigekaaDoor
