/-
  Lanes (layer 17): rows of bags; the program's find; slices.Clone of bags; the end of a lane.
-/
import Derived.Test.YtmmhchhekmcihaaLanT
import Derived.Test.YtmmhchhekmcihaaLanV
import Derived.Test.YtmmhchhekmcihaaCpyG
import Derived.Test.YtmmhchhekmcihaaInsK
import Derived.Lib.SliceRun
namespace Go.Proofs.Ytmmhchhekmcihaa
open Go.RowKit

def bgC (s : Bg) : List Value := [.int .i64 s.1, .int .i64 s.2]
abbrev bgA (s : Bg) : Array Value := #[.int .i64 s.1, .int .i64 s.2]
theorem bgC_len (s : Bg) : (bgC s).length = 2 := rfl
theorem info_st : (Try.prog.info? 39).map (fun i => (i.zero.map (·.cells.size), i.size, i.bytes)) = some (some 2, 2, 16) := by kernel_rfl
theorem infoSt : (Try.prog.info? 39).map (·.size) = some 2 := by kernel_rfl
theorem st_one {l : List Bg} : ∀ u ∈ l.flatMap bgC, u.oneCell' = true := fun u hu => by
  obtain ⟨x, _, hx⟩ := List.mem_flatMap.1 hu
  simp only [bgC, List.mem_cons, List.not_mem_nil, or_false] at hx
  rcases hx with rfl | rfl <;> rfl
theorem bgs_src {S : Nat → Prop} {w : World} {A : Option Addr} {l : List Bg} (h : BgsIn S w A l) (hn : 0 < l.length) : ∃ g off, A = some ⟨g, off, none⟩ ∧ ¬ S g ∧ ∀ j u, (l.flatMap bgC)[j]? = some u → w.cell? ⟨g, off + j, none⟩ = some u := by
  obtain ⟨g, off, e, hg, hc⟩ := h hn
  refine ⟨g, off, e, hg, fun j u hu => ?_⟩
  have hj : j < l.length * 2 := by have := (List.getElem?_eq_some_iff.1 hu).1; rwa [flatK_len bgC 2 bgC_len] at this
  obtain ⟨i, k, hk, rfl⟩ : ∃ i k, k < 2 ∧ j = i * 2 + k := ⟨j / 2, j % 2, by omega, by omega⟩
  have hi : i < l.length := by omega
  rw [flatK_at bgC 2 bgC_len l i hi k hk] at hu
  have h2 := hc i hi
  rw [← getElem_getD hi] at h2
  match k, hk with
  | 0, _ => rw [Nat.add_zero, Nat.mul_comm i 2, h2.1]; exact hu
  | 1, _ => rw [Nat.mul_comm i 2, h2.2]; exact hu
theorem bgs_of {S : Nat → Prop} {w : World} {A : Option Addr} {l : List Bg} (h : 0 < l.length → ∃ g off, A = some ⟨g, off, none⟩ ∧ ¬ S g ∧ ∀ j u, (l.flatMap bgC)[j]? = some u → w.cell? ⟨g, off + j, none⟩ = some u) : BgsIn S w A l := fun hn => by
  obtain ⟨g, off, e, hg, hc⟩ := h hn
  refine ⟨g, off, e, hg, fun i hi => ?_⟩
  rw [← getElem_getD hi, Nat.mul_comm 2 i]
  exact ⟨hc (i * 2) _ (by have := flatK_at bgC 2 bgC_len l i hi 0 (by omega); rw [Nat.add_zero] at this; rw [this]; rfl), hc (i * 2 + 1) _ (by rw [flatK_at bgC 2 bgC_len l i hi 1 (by omega)]; rfl)⟩
theorem bgs_own {S : Nat → Prop} {w : World} {base c n : Nat} {A : Option Addr} {l : List Bg} (ho : w.ownsRow base 39 2 (.slice A n c) n (l.flatMap bgC)) (hs : ∀ b, S b → b < base) : BgsIn S w A l := bgs_of fun hn => by
  have hl : l.length = n := by have := ho.1; rw [flatK_len bgC 2 bgC_len] at this; omega
  rcases ho.2 with ⟨_, h0⟩ | ⟨g, cap', cur, hv, hbg, hg, _, _, _, ht⟩
  · omega
  · injection hv with hA
    refine ⟨g, 0, hA, fun h => by have := hs _ h; omega, fun j u hu => ?_⟩
    rw [Nat.zero_add, Lib.cell_of_heap hg, ← Array.getElem?_toList]
    rw [← ht, List.getElem?_take] at hu
    split at hu
    · exact hu
    · cases hu
theorem bgs_at {S : Nat → Prop} {w : World} {A : Option Addr} {l : List Bg} (h : BgsIn S w A l) {i : Nat} (hi : i < l.length) : ∃ g off, A = some ⟨g, off, none⟩ ∧ ¬ S g ∧ ∀ j u, (bgA (l.getD i (0, 0)))[j]? = some u → w.cell? ⟨g, off + i * 2 + j, none⟩ = some u := by
  obtain ⟨g, off, e, hg, hc⟩ := h (by omega)
  refine ⟨g, off, e, hg, fun j u hu => ?_⟩
  have h2 := hc i hi
  rw [Nat.mul_comm 2 i] at h2
  match j with
  | 0 => rw [Nat.add_zero, h2.1]; exact hu
  | 1 => rw [Nat.add_assoc, h2.2]; exact hu
  | j + 2 => exact absurd hu (by simp)
/-- A captured number. -/
def IntAt (w : World) (kb : Nat) (v : Int) : Prop := w.cell? ⟨kb, 0, none⟩ = some (.int .i64 v)
theorem IntAt.keep {w w' : World} {kb : Nat} {v : Int} (h : IntAt w kb v) (hb : Below w.heap.size w w') : IntAt w' kb v := kept hb h
theorem fnd1_any (s : Bg) (v : Int) (kb : Nat) (w : World) (hk : IntAt w kb v) :
    Calls Try.prog 55 #[.agg (bgA s), .pointer (some ⟨kb, 0, none⟩)] w fun e w' => e = .returned (.bool (s.1 == v)) ∧ Below w.heap.size w w' := by
  obtain ⟨W1, hW⟩ : ∃ W1 : World, w.alloc (.cells (bgA s) 39) = W1 := ⟨_, rfl⟩
  have b1 := below_new (Below.refl w.heap.size w) (.cells (bgA s) 39)
  have hx := heap_alloc_new w (.cells (bgA s) 39)
  rw [hW] at b1 hx
  have z0 : W1.cell? ⟨w.heap.size, 0, none⟩ = some (.int .i64 s.1) := by rw [Lib.cell_of_heap hx]; rfl
  have z1 : W1.cell? ⟨kb, 0, none⟩ = some (.int .i64 v) := hk.keep b1
  have B1 := hide b1
  clear hk b1 hx
  go_enter Try.func55, Try.ntmps55
  go_wp2
  go_ret
  exact ⟨rfl, unhide B1⟩
def posI (l : List Bg) (v : Int) : Int := if posB l v < l.length then (posB l v : Nat) else -1
theorem posI_at {l : List Bg} {v : Int} {k : Nat} (hk : k < l.length) (h : ∀ j, j < k → (l.getD j (0, 0)).1 ≠ v) (he : (l.getD k (0, 0)).1 = v) : posI l v = k := by
  have h1 : posB l v = k := tw_len (d := ((0, 0) : Bg)) (fun j hj => by rw [beq_false_of_ne (h j hj)]; rfl) hk (by rw [he, beq_self_eq_true]; rfl)
  unfold posI; rw [h1, if_pos hk]
theorem posI_no {l : List Bg} {v : Int} (h : ∀ j, j < l.length → (l.getD j (0, 0)).1 ≠ v) : posI l v = -1 := by
  unfold posI
  rw [if_neg]
  intro hc
  obtain ⟨_, h2, _⟩ := tw_spec (p := fun s : Bg => !(s.1 == v)) (d := ((0, 0) : Bg)) (l := l)
  have : (!((l.getD (posB l v) (0, 0)).1 == v)) = false := h2 hc
  rw [beq_false_of_ne (h _ hc)] at this
  cases this
set_option maxHeartbeats 1000000 in
set_option maxRecDepth 100000 in
theorem ixS_any (S : Nat → Prop) (l : List Bg) (v : Int) (A : Option Addr) (c kb : Nat) (w : World) (hz : l.length ≤ 1000) (hk : IntAt w kb v) (h : BgsIn S w A l) :
    Calls Try.prog 54 #[.slice A l.length c, .func (.func 55) #[] #[.pointer (some ⟨kb, 0, none⟩)]] w fun e w' => e = .returned (.int .i64 (posI l v)) ∧ Below w.heap.size w w' := by
  have HN := hide h
  have HK := hide hk
  have HB := hide (Below.refl w.heap.size w)
  clear h hk
  go_enter Try.func54, Try.ntmps54
  go_wp2
  go_loopw [8] (fun i wr => ∃ k : Nat, k ≤ l.length ∧ i = .int .i64 k ∧ Hid (Below w.heap.size w wr) ∧ Hid (∀ j, j < k → (l.getD j (0, 0)).1 ≠ v)) (fun i _ => l.length - (intOf i).toNat)
  case atStart => exact ⟨0, Nat.zero_le _, rfl, HB, hide fun j hj => absurd hj (Nat.not_lt_zero _)⟩
  case round =>
    obtain ⟨k, hk, rfl, HI, HP⟩ := hrel
    obtain ⟨wo, rfl⟩ : ∃ wo : World, wo = wr := ⟨_, rfl⟩
    clear HB
    by_cases hlt : k < l.length
    · obtain ⟨g, off, rfl, _, hc⟩ := bgs_at ((unhide HN).keep (KepS.below (unhide HI))) hlt
      have kl : (k : Int) < (l.length : Int) := by omega
      have k0 : (0 : Int) ≤ (k : Int) := by omega
      have HC := hide hc
      have HE := hide (posI_at (v := v) hlt (unhide HP))
      have HS := hide (fun h9 j (hj : j < k + 1) => if e : j < k then (unhide HP) j e else (show (l.getD j (0, 0)).1 ≠ v from (show j = k by omega) ▸ h9))
      have HF := hide (fnd1_any (l.getD k (0, 0)) v kb wo ((unhide HK).keep (unhide HI)))
      clear hc
      generalize l.getD k (0, 0) = s at HC HE HS HF
      obtain ⟨q, hq⟩ : ∃ q, (s.1 == v) = q := ⟨_, rfl⟩
      have HQ := hide hq
      rw [hq] at HF
      have HF := hide (unhide HF)
      clear hq
      cases q with
      | true =>
        go_wp2_with (first
          | (refine wpList_load_at rfl _ _ rfl g (off + k * 2) rfl (bgA s) _ (unhide HC) Try.underlying39 rfl infoSt ?_)
          | (go_at_call 55; refine (unhide HF).mono ?_; rintro e w1 ⟨rfl, hb1⟩; have HB1 := hide (onward (unhide HI) hb1); clear hb1))
        go_ret
        exact ⟨ret_int (unhide HE (by have := unhide HQ; rwa [beq_iff_eq] at this)).symm, unhide HB1⟩
      | false =>
        go_wp2_with (first
          | (refine wpList_load_at rfl _ _ rfl g (off + k * 2) rfl (bgA s) _ (unhide HC) Try.underlying39 rfl infoSt ?_)
          | (go_at_call 55; refine (unhide HF).mono ?_; rintro e w1 ⟨rfl, hb1⟩; have HB1 := hide (onward (unhide HI) hb1); clear hb1))
        go_roundw
        case rel => exact ⟨k + 1, by omega, by go_num, HB1, hide (unhide HS (by have := unhide HQ; rwa [beq_eq_false_iff_ne] at this))⟩
        case measure => simp [intOf]; omega
    · obtain rfl : k = l.length := by omega
      have kl : ¬ (l.length : Int) < (l.length : Int) := by omega
      go_wp2
      go_ret
      exact ⟨ret_int (posI_no (unhide HP)).symm, unhide HI⟩
theorem posI_has {l : List Bg} {v : Int} : (hasB l v = true → 0 ≤ posI l v ∧ posI l v = (posB l v : Nat)) ∧ (hasB l v = false → posI l v < 0) := by
  constructor
  · intro h
    obtain ⟨s, hs, he⟩ := has_iff.1 h
    obtain ⟨k, hk, rfl⟩ := List.getElem_of_mem hs
    have h1 : posB l v < l.length := by
      obtain ⟨h1, h2, h3⟩ := tw_spec (p := fun s : Bg => !(s.1 == v)) (d := ((0, 0) : Bg)) (l := l)
      rcases Nat.lt_or_ge (posB l v) l.length with h4 | h4
      · exact h4
      · have := h1 k (show k < posB l v by omega)
        rw [← getElem_getD hk, he, beq_self_eq_true] at this
        cases this
    unfold posI
    rw [if_pos h1]
    exact ⟨by omega, rfl⟩
  · intro h
    rw [posI_no fun j hj he => by
      have := has_yes hj he
      rw [h] at this; cases this]
    decide
set_option maxHeartbeats 1000000 in
set_option maxRecDepth 100000 in
theorem find_any (S : Nat → Prop) (dp : Nat) (v : Int) (L : List (List Bg)) (A : Option Addr) (c : Nat) (w : World) (hv : ValL dp L) (h : StoI S w A L c) :
    Calls Try.prog 43 #[lnsV dp A L.length c, .int .i64 v] w fun e w' => e = .returned (.tuple #[.int .i64 (fndI L v), .int .i64 (fndK L v)]) ∧ Below w.heap.size w w' := by
  obtain ⟨W, hW⟩ : ∃ W : World, (w.alloc (lnsO dp A L.length c)).alloc (.cells #[.int .i64 v] 3) = W := ⟨_, rfl⟩
  have b1 : Below w.heap.size w W := by rw [← hW]; exact below_new (below_new (Below.refl w.heap.size w) _) _
  have hx : W.heap[w.heap.size]? = some (lnsO dp A L.length c) := by rw [← hW]; exact heap_later (heap_alloc_new w _) _
  have HK := hide (show IntAt W (w.heap.size + 1) v from by
    unfold IntAt
    have h := heap_alloc_new (w.alloc (lnsO dp A L.length c)) (.cells #[.int .i64 v] 3)
    rw [World.size_alloc, hW] at h
    rw [Lib.cell_of_heap h]; rfl)
  have z1 : W.cell? ⟨w.heap.size, 1, none⟩ = some (.slice A L.length c) := by rw [Lib.cell_of_heap hx]; rfl
  have HS := hide (h.below b1)
  have HB := hide (show Below w.heap.size w W ∧ Below W.heap.size W W from ⟨b1, Below.refl _ _⟩)
  have HV := hide hv
  have hL : L.length ≤ 20 := hv.n.2
  clear b1 h hv hx
  go_enter Try.func43, Try.ntmps43
  go_wp2
  go_loopw [12] (fun s wr => ∃ i : Nat, i ≤ L.length ∧ s = .int .i64 i ∧ Hid (Below w.heap.size w wr ∧ Below W.heap.size W wr) ∧ Hid (∀ j, j < i → hasB (L.getD j []) v = false)) (fun s _ => L.length - (intOf s).toNat)
  case atStart => exact ⟨0, Nat.zero_le _, rfl, HB, hide fun j hj => absurd hj (Nat.not_lt_zero _)⟩
  case round =>
    obtain ⟨i, hi, rfl, HI, HJ⟩ := hrel
    obtain ⟨wo, rfl⟩ : ∃ wo : World, wo = wr := ⟨_, rfl⟩
    clear HB
    by_cases hil : i < L.length
    · have il : (i : Int) < (L.length : Int) := by omega
      have i0 : (0 : Int) ≤ (i : Int) := by omega
      obtain ⟨g, off, rfl, _, hc⟩ := ((unhide HS).below (unhide HI).2).row (by omega)
      obtain ⟨A', c', c0, hcap, hb⟩ := hc i hil
      have hll : (L.getD i []).length ≤ 20 := Nat.le_trans ((unhide HV).len _ (mem_at hil)) (unhide HV).d.2
      have HF := hide (ixS_any S (L.getD i []) v A' c' (w.heap.size + 1) wo (by omega) ((unhide HK).keep (unhide HI).2) hb)
      have HP := hide (posI_has (l := L.getD i []) (v := v))
      have HX := hide (fun (h : hasB (L.getD i []) v = true) => show fndI L v = i ∧ fndK L v = (posB (L.getD i []) v : Nat) from by
        have h1 : findS L v = i := tw_len (d := ([] : List Bg)) (fun j hj => by rw [(unhide HJ) j hj]; rfl) hil (by rw [h]; rfl)
        unfold fndI fndK
        rw [h1, if_pos hil, if_pos hil]; exact ⟨rfl, rfl⟩)
      have HN := hide (fun (h : hasB (L.getD i []) v = false) j (hj : j < i + 1) => if e : j < i then (unhide HJ) j e else (show hasB (L.getD j []) v = false from (show j = i by omega) ▸ h))
      clear hc hb
      generalize L.getD i [] = l at c0 hll HF HP HX HN
      generalize posI l v = pp at HF HP
      cases hq : hasB l v with
      | true =>
        obtain ⟨p1, p2⟩ := (unhide HP).1 hq
        obtain ⟨x1, x2⟩ := unhide HX hq
        have HX1 := hide x1
        have HX2 := hide (x2.trans p2.symm)
        have pd : decide (0 ≤ pp) = true := decide_eq_true p1
        clear hq p2 x1 x2
        go_wp2_with (go_at_call 54; refine (unhide HF).mono ?_; rintro e w1 ⟨rfl, hb1⟩; have HB1 := hide (onward (unhide HI).1 hb1); clear hb1)
        go_ret2
        exact ⟨by rw [unhide HX1, unhide HX2]; rfl, unhide HB1⟩
      | false =>
        have HN := hide ((unhide HN) hq)
        have p1 := (unhide HP).2 hq
        have pd : decide (0 ≤ pp) = false := decide_eq_false (by omega)
        clear hq
        go_wp2_with (go_at_call 54; refine (unhide HF).mono ?_; rintro e w1 ⟨rfl, hb1⟩; have HB1 := hide (show Below w.heap.size w w1 ∧ Below W.heap.size W w1 from ⟨onward (unhide HI).1 hb1, onward (unhide HI).2 hb1⟩); clear hb1)
        go_roundw
        case rel => exact ⟨i + 1, by omega, by go_num, HB1, HN⟩
        case measure => simp [intOf]; omega
    · have il : ¬ (i : Int) < (L.length : Int) := by omega
      obtain rfl : i = L.length := by omega
      have HE := hide (fnd_no (unhide HJ))
      go_wp2
      go_ret2
      exact ⟨by rw [(unhide HE).1, (unhide HE).2]; rfl, (unhide HI).1⟩
set_option maxHeartbeats 1000000 in
theorem cloneS_any (S : Nat → Prop) (A : Option Addr) (c : Nat) (l : List Bg) (w : World) (h : BgsIn S w A l) (hz : l.length ≤ 1000) :
    Calls Try.prog 56 #[.slice A l.length c] w
      fun e w' => ∃ A' c', e = .returned (.slice A' l.length c') ∧ w'.ownsRow w.heap.size 39 2 (.slice A' l.length c') l.length (l.flatMap bgC) ∧ Below w.heap.size w w' := by
  obtain ⟨i0, z0, hi0, hia, hib, hic, hid⟩ := info_size info_st
  have H0 := hide hi0
  have HA := hide hia
  have HB := hide hib
  have HC := hide hic
  have HD := hide hid
  have HL := hide (flatK_len bgC 2 bgC_len l)
  have HO := hide (st_one (l := l))
  have bx := (Below.refl w.heap.size w).alloc (Nat.le_refl _) (.cells #[] 39)
  have HX := hide bx
  have HS := hide (fun (hn : 0 < l.length) => (show ∃ g off, A = some ⟨g, off, none⟩ ∧ ∀ j u, (l.flatMap bgC)[j]? = some u → (w.alloc (.cells #[] 39)).cell? ⟨g, off + j, none⟩ = some u from by
    obtain ⟨g, off, h1, _, h3⟩ := bgs_src (h.keep (KepS.below bx)) hn
    exact ⟨g, off, h1, h3⟩))
  have HW := hide (show (w.alloc (.cells #[] 39)).ownsRow w.heap.size 39 2 (.slice (some ⟨w.heap.size, 0, none⟩) 0 0) 0 [] from
    ⟨rfl, .inr ⟨w.heap.size, 0, #[], rfl, Nat.le_refl _, heap_alloc_new w _, Nat.le_refl _, Nat.zero_le _, rfl, rfl⟩⟩)
  clear hi0 hia hib hic hid bx h
  have q26 : ∀ (w : World) (a : Option Addr) (n c n' c' : Nat), (binOp .eql 68 (.slice a n c) (.slice none n' c')).run Try.prog w = .ok (.bool a.isNone) w := fun w a n c n' c' => Lib.run_eql_slice_nil w _ _ a n c n' c' Try.underlying68
  cases A with
  | none =>
    by_cases h0 : 0 < l.length
    · obtain ⟨g, off, h1, _⟩ := (unhide HS) h0; cases h1
    · obtain rfl : l = [] := List.eq_nil_of_length_eq_zero (by omega)
      go_enter Try.func56, Try.ntmps56
      go_wp2
      go_ret
      exact ⟨none, 0, rfl, World.ownsRow_nil _ _ _ _, Below.refl _ _⟩
  | some ad =>
    go_enter Try.func56, Try.ntmps56
    go_wp2_with (at_builtin; refine wpList_copyG (H := w.heap.size) (e := w.heap.size) rfl _ _ rfl rfl rfl rfl Try.underlying68 (unhide H0) (unhide HA) (unhide HB) (unhide HC) (unhide HD) (by decide) (unhide HL) (by unfold maxLen; omega) (by omega) (unhide HO) (by rw [World.size_alloc]; omega) (unhide HW) (unhide HS) ?_)
    intro A' c' w2 hown hg
    go_wp2
    go_ret
    exact ⟨A', c', rfl, hown, (unhide HX).grown hg (unhide HX).size (fun k e => by injection e with e; omega)⟩
end Go.Proofs.Ytmmhchhekmcihaa
