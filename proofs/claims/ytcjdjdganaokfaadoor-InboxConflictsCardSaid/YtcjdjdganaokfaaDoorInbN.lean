/-
  Contracts of findHolder and of Missing.
-/
import Derived.Test.YtcjdjdganaokfaaDoorInbM
namespace Go.Proofs.YtcjdjdganaokfaaDoor
open Go.RowKit

/-- Whether a sender is known and holds a message. -/
def holdsF (ss : List SnS) (p : ByteArray) : Bool := hasF (portC p) ss && decide (0 < (ss.getD (lbF (portC p) ss) sn0).held.length)

set_option maxHeartbeats 4000000 in
set_option maxRecDepth 100000 in
theorem holder_any (b : Nat) (win : Int) (A : Option Addr) (c : Nat) (ss : List SnS) (p : ByteArray) (w : World) (h : SndsIn b w A ss) (hz : ss.length ≤ 1000000) (hm : MonoF (portC p) ss sn0) :
    Calls Tryd.prog 44 #[ibV win A ss.length c, .string p] w fun e w' => e = .returned (.tuple #[.int .i64 (lbF (portC p) ss : Nat), .bool (holdsF ss p)]) ∧ Below w.heap.size w w' := by
  obtain ⟨W1, hW1⟩ : ∃ W1 : World, w.alloc (ibO win A ss.length c) = W1 := ⟨_, rfl⟩
  have b1 : Below w.heap.size w W1 := by rw [← hW1]; exact (Below.refl _ _).alloc (Nat.le_refl _) _
  have hX1 : W1.heap[w.heap.size]? = some (ibO win A ss.length c) := by rw [← hW1]; exact heap_alloc_new w _
  have HF := hide (find_any b win A c ss p W1 (h.keep b1) hz hm)
  have HX := hide hX1
  have HB := hide b1
  have HS := hide (h.keep b1)
  have HLT := hide (@hasF_lt _ (portC p) ss)
  generalize hv : holdsF ss p = v
  unfold holdsF at hv
  have HV := hide hv
  clear h hm hX1 b1 hv
  generalize lbF (portC p) ss = i at *
  generalize hasF (portC p) ss = has at *
  go_enter Tryd.func44, Tryd.ntmps44
  go_wp2_with (refine wpList_loadI (unhide HX) rfl _ rfl rfl ?_)
  refine (unhide HF).mono ?_
  rintro e w2 ⟨rfl, hb2⟩
  have hX2 := (hb2.block _ (Array.getElem?_eq_some_iff.1 (unhide HX)).1).trans (unhide HX)
  have y1 : w2.cell? ⟨w.heap.size, 1, none⟩ = some (.slice A ss.length c) := by rw [Lib.cell_of_heap hX2]; rfl
  have HB2 := hide (onward (unhide HB) hb2)
  have HS2 := hide ((unhide HS).keep hb2)
  clear hX2 hb2 HF HX HB HS
  cases has with
  | false =>
    have e := unhide HV
    rw [Bool.false_and] at e
    subst e
    go_wp2_with fail
    go_quiet (fail)
    go_wp2
    go_ret2
    exact ⟨rfl, draws (unhide HB2) _⟩
  | true =>
    have hil : i < ss.length := unhide HLT rfl
    obtain ⟨g, off, rfl, -, hc, -⟩ := (unhide HS2).at hil
    have il : (i : Int) < (ss.length : Int) := by omega
    have e := unhide HV
    rw [Bool.true_and] at e
    generalize ss.getD i sn0 = s at *
    have z2 : w2.cell? ⟨g, off + i * 3 + 2, none⟩ = some (.slice s.A s.held.length s.c) := hc 2 (.slice s.A s.held.length s.c) rfl
    clear hc
    by_cases h0 : 0 < s.held.length
    · rw [decide_eq_true h0] at e
      subst e
      have h0' : (0 : Int) < (s.held.length : Int) := by omega
      go_wp2_with fail
      go_quiet (fail)
      go_wp2
      go_ret2
      exact ⟨rfl, draws (unhide HB2) _⟩
    · rw [decide_eq_false h0] at e
      subst e
      have h0' : ¬ (0 : Int) < (s.held.length : Int) := by omega
      go_wp2_with fail
      go_quiet (fail)
      go_wp2
      go_ret2
      exact ⟨rfl, draws (unhide HB2) _⟩

/-- The numbers from a sender's next one on that are not held, among the first k. -/
def missN (s : Snd) (last : Int) : Nat → List Int
  | 0 => []
  | k + 1 => missN s last k ++ (if !hasF (numM (s.next + (k : Int))) s.held && decide (s.next + (k : Int) < last) then [s.next + (k : Int)] else [])
theorem missN_len (s : Snd) (last : Int) : ∀ k, (missN s last k).length ≤ k
  | 0 => Nat.le_refl _
  | k + 1 => by
    have := missN_len s last k
    unfold missN
    split <;> simp <;> omega
def missL (s : Snd) : List Int := missN s (s.held.getD (s.held.length - 1) msg0).num 8
theorem numC_has (t : Int) (l : List MsS) : hasF (numC t) l = hasF (numM t) (l.map (·.m)) := by
  unfold hasF
  rw [numC_lb, List.getElem?_map]
  cases l[lbF (numM t) (l.map (·.m))]? <;> rfl

theorem imiss_none (b : Nat) (win : Int) (A : Option Addr) (c : Nat) (ss : List SnS) (p : ByteArray) (w : World) (h : SndsIn b w A ss) (hz : ss.length ≤ 1000000) (hm : MonoF (portC p) ss sn0) (hh : holdsF ss p = false) :
    Calls Tryd.prog 21 #[ibV win A ss.length c, .string p] w fun e w' => e = .returned (.slice none 0 0) ∧ Below w.heap.size w w' := by
  obtain ⟨W1, hW1⟩ : ∃ W1 : World, w.alloc (ibO win A ss.length c) = W1 := ⟨_, rfl⟩
  have b1 : Below w.heap.size w W1 := by rw [← hW1]; exact (Below.refl _ _).alloc (Nat.le_refl _) _
  have hX1 : W1.heap[w.heap.size]? = some (ibO win A ss.length c) := by rw [← hW1]; exact heap_alloc_new w _
  have hF := holder_any b win A c ss p W1 (h.keep b1) hz hm
  rw [hh] at hF
  have HF := hide hF
  have HX := hide hX1
  have HB := hide b1
  clear h hm hX1 b1 hF hh
  go_enter Tryd.func21, Tryd.ntmps21
  go_wp2_with (refine wpList_loadI (unhide HX) rfl _ rfl rfl ?_)
  refine (unhide HF).mono ?_
  rintro e w2 ⟨rfl, hb2⟩
  have HB2 := hide (onward (unhide HB) hb2)
  clear hb2
  go_wp2
  go_ret
  exact ⟨rfl, unhide HB2⟩

set_option maxHeartbeats 4000000 in
set_option maxRecDepth 100000 in
theorem imiss_some (b : Nat) (win : Int) (A : Option Addr) (c : Nat) (ss : List SnS) (p : ByteArray) (w : World) (h : SndsIn b w A ss) (hz : ss.length ≤ 1000000) (hm : MonoF (portC p) ss sn0) (hh : holdsF ss p = true) (hb : b < w.heap.size)
    (hl : (ss.getD (lbF (portC p) ss) sn0).held.length ≤ 1000) (hmn : ∀ t, MonoF (numC t) (ss.getD (lbF (portC p) ss) sn0).held ms0) (hn1 : 0 ≤ (ss.getD (lbF (portC p) ss) sn0).next) (hn2 : (ss.getD (lbF (portC p) ss) sn0).next ≤ 1000000000) :
    Calls Tryd.prog 21 #[ibV win A ss.length c, .string p] w
      fun e w' => ∃ A' c', e = .returned (.slice A' (missL (ss.getD (lbF (portC p) ss) sn0).mod).length c') ∧ NumsIn b w' A' (missL (ss.getD (lbF (portC p) ss) sn0).mod) ∧ Below w.heap.size w w' := by
  obtain ⟨i0, hi0, hia, hib, hic⟩ := info_parts info_intE
  obtain ⟨W1, hW1⟩ : ∃ W1 : World, w.alloc (ibO win A ss.length c) = W1 := ⟨_, rfl⟩
  have b1 : Below w.heap.size w W1 := by rw [← hW1]; exact (Below.refl _ _).alloc (Nat.le_refl _) _
  have hX1 : W1.heap[w.heap.size]? = some (ibO win A ss.length c) := by rw [← hW1]; exact heap_alloc_new w _
  have hF := holder_any b win A c ss p W1 (h.keep b1) hz hm
  have hbz := b1.size
  rw [hh] at hF
  unfold holdsF at hh
  rw [Bool.and_eq_true] at hh
  have hil := hasF_lt hh.1
  have hne : 0 < (ss.getD (lbF (portC p) ss) sn0).held.length := by simpa using hh.2
  obtain ⟨s, hs⟩ : ∃ s, ss.getD (lbF (portC p) ss) sn0 = s := ⟨_, rfl⟩
  rw [hs] at hl hmn hn1 hn2 hne ⊢
  have HF := hide hF
  have HX := hide hX1
  have HB := hide b1
  have HS := hide (h.keep b1)
  have HI0 := hide hi0
  have HIA := hide hia
  have HIB := hide hib
  have HIC := hide hic
  clear h hm hX1 b1 hF hh hi0 hia hib hic
  generalize lbF (portC p) ss = i at *
  have HSD := hide hs
  clear hs
  go_enter Tryd.func21, Tryd.ntmps21
  go_wp2_with (refine wpList_loadI (unhide HX) rfl _ rfl rfl ?_)
  refine (unhide HF).mono ?_
  rintro e w2 ⟨rfl, hb2⟩
  have hX2 := (hb2.block _ (Array.getElem?_eq_some_iff.1 (unhide HX)).1).trans (unhide HX)
  have y1 : w2.cell? ⟨w.heap.size, 1, none⟩ = some (.slice A ss.length c) := by rw [Lib.cell_of_heap hX2]; rfl
  have hB2 := onward (unhide HB) hb2
  obtain ⟨g, off, rfl, -, hc, hlh⟩ := ((unhide HS).keep hb2).at hil
  have il : (i : Int) < (ss.length : Int) := by omega
  rw [unhide HSD] at hc hlh
  obtain ⟨W3, hW3⟩ : ∃ W3 : World, w2.alloc (.cells s.arr 93) = W3 := ⟨_, rfl⟩
  have hb3 : Below w2.heap.size w2 W3 := by rw [← hW3]; exact (Below.refl _ _).alloc (Nat.le_refl _) _
  have hS3 : W3.heap[w2.heap.size]? = some (.cells s.arr 93 (0, 0)) := by rw [← hW3]; exact heap_alloc_new w2 _
  have hM3 := hlh.keep hb3
  obtain ⟨g2, off2, hA2, -, hc2, -⟩ := hM3.at (i := s.held.length - 1) (by omega)
  have z1 : W3.cell? ⟨w2.heap.size, 1, none⟩ = some (.int .i64 s.next) := by rw [Lib.cell_of_heap hS3]; rfl
  have z2 : W3.cell? ⟨w2.heap.size, 2, none⟩ = some (.slice (some ⟨g2, off2, none⟩) s.held.length s.c) := by rw [Lib.cell_of_heap hS3, ← hA2]; rfl
  have q3 : W3.cell? ⟨g2, off2 + (s.held.length - 1) * 30 + 3, none⟩ = some (.int .i64 (s.held.getD (s.held.length - 1) ms0).m.num) := hc2 3 (.int .i64 (s.held.getD (s.held.length - 1) ms0).m.num) rfl
  obtain ⟨last, hlast⟩ : ∃ last, (s.held.getD (s.held.length - 1) ms0).m.num = last := ⟨_, rfl⟩
  rw [hlast] at q3
  have HLast := hide (show (s.mod.held.getD (s.mod.held.length - 1) msg0).num = last by
    have e1 : ((s.held.map (·.m)).getD (s.held.length - 1) msg0) = (s.held.getD (s.held.length - 1) ms0).m := by
      rw [List.getD_eq_getElem?_getD, List.getElem?_map, List.getElem?_eq_getElem (by omega), at_k (by omega)]; rfl
    rw [← hlast, ← e1]
    show ((s.held.map (·.m)).getD ((s.held.map (·.m)).length - 1) msg0).num = _
    rw [List.length_map])
  have hsub : ((s.held.length : Int) - 1) = ((s.held.length - 1 : Nat) : Int) := by omega
  have hsl : ((s.held.length - 1 : Nat) : Int) < (s.held.length : Int) := by omega
  have hsz : (0 : Int) ≤ ((s.held.length - 1 : Nat) : Int) := by omega
  have hws : IntKind.i64.wrap (((s.held.length - 1 : Nat) : Int)) = ((s.held.length - 1 : Nat) : Int) := by rw [IntKind.wrap_i64]; omega
  have HS3 := hide hS3
  have HM3 := hide hM3
  have HB3 := hide (onward hB2 hb3)
  have HC := hide hc
  have HMN := hide hmn
  have HZ3 := hide hb3.size
  have HZ2 := hide hb2.size
  clear hb2 hX2 hB2 hc hlh hb3 hS3 hM3 hA2 hc2 hlast hmn HF HX HB HS
  go_wp2_with (first
    | (refine wpList_load_at rfl _ _ rfl g (off + i * 3) rfl s.arr _ (unhide HC) undS' undS infoS ?_)
    | (refine wpList_storeS_new (g := w2.heap.size) rfl s rfl _ _ rfl rfl rfl rfl ?_))
  clear q3 hsub hsl hsz hws z2 y1
  go_loopw [9, 36] (fun v i wr => ∃ (k : Nat) (A' : Option Addr) (c' : Nat), k ≤ 8 ∧ i = .int .i64 k ∧ v = .slice A' (missN s.mod last k).length c' ∧ Hid (Below W3.heap.size W3 wr ∧ wr.ownsRow W3.heap.size 3 1 (.slice A' (missN s.mod last k).length c') (missN s.mod last k).length ((missN s.mod last k).map (Value.int .i64)))) (fun _ i _ => 8 - (intOf i).toNat)
  case atStart => exact ⟨0, none, 0, Nat.zero_le _, rfl, rfl, Lib.hid ⟨Below.refl _ _, World.ownsRow_nil _ _ _ _⟩⟩
  case round =>
    obtain ⟨k, A', c', hk, rfl, rfl, HP⟩ := hrel
    obtain ⟨wo, rfl⟩ : ∃ wo : World, wo = wr := ⟨_, rfl⟩
    have hml := missN_len s.mod last k
    by_cases hlt : k < 8
    · have kl : (k : Int) < 8 := by omega
      have kz : (0 : Int) ≤ (k : Int) := by omega
      have hw : IntKind.i64.wrap (s.next + (k : Int)) = s.next + (k : Int) := by rw [IntKind.wrap_i64]; omega
      have y1 := kept HP.out.1 z1
      have hSo := (HP.out.1.block _ (Array.getElem?_eq_some_iff.1 (unhide HS3)).1).trans (unhide HS3)
      have HSo := hide hSo
      have hF := findheld_any b s (s.next + (k : Int)) wo ((unhide HM3).keep HP.out.1) (by omega) (unhide HMN _)
      have HF := hide hF
      have HST := hide (show missN s.mod last (k + 1) = missN s.mod last k ++ (if !hasF (numC (s.next + (k : Int))) s.held && decide (s.next + (k : Int) < last) then [s.next + (k : Int)] else []) by rw [numC_has]; rfl)
      generalize hasF (numC (s.next + (k : Int))) s.held = has at *
      generalize lbF (numC (s.next + (k : Int))) s.held = lbx at *
      generalize hnk : s.next + (k : Int) = nk at *
      clear hSo hF
      cases has with
      | true =>
        have e := unhide HST
        rw [Bool.not_true, Bool.false_and, if_neg Bool.false_ne_true, List.append_nil] at e
        have HE := hide e
        clear e
        go_wp2_with (refine wpList_loadS (unhide HSo) rfl _ rfl rfl ?_)
        refine (unhide HF).mono ?_
        rintro e w4 ⟨rfl, hb4⟩
        have HB4 := hide hb4
        clear hb4
        go_wp2
        go_roundw
        case rel => exact ⟨k + 1, A', c', by omega, by go_num, by rw [unhide HE], Lib.hid (by rw [unhide HE]; exact ⟨onward HP.out.1 (unhide HB4), owns_below HP.out.2 (unhide HB4)⟩)⟩
        case measure => simp [intOf]; omega
      | false =>
        by_cases hc : nk < last
        · have e := unhide HST
          rw [Bool.not_false, Bool.true_and, decide_eq_true hc, if_pos rfl] at e
          have HE := hide e
          clear e
          go_wp2_with (refine wpList_loadS (unhide HSo) rfl _ rfl rfl ?_)
          refine (unhide HF).mono ?_
          rintro e w4 ⟨rfl, hb4⟩
          have hb5 := (Below.refl w4.heap.size w4).alloc (Nat.le_refl _) (.cells #[.int .i64 nk] 3)
          have hB5 := onward (onward HP.out.1 hb4) hb5
          have HB5 := hide hB5
          have HO5 := hide (owns_below (owns_below HP.out.2 hb4) hb5)
          have HN := hide (World.news_of_block (heap_alloc_new w4 (.cells #[.int .i64 nk] 3)))
          have hz5 := hB5.size
          clear hb4 hb5 hB5
          go_wp2_with (at_builtin; refine wpList_append_lies _ rfl _ _ 30 rfl W3.heap.size 3 i0 (.int .i64 0) 1 8 Tryd.underlying30 (unhide HI0) (unhide HIA) (unhide HIB) (unhide HIC) rfl (by decide) _ _ _ rfl (unhide HO5) ⟨w4.heap.size, 0, none⟩ 1 1 [.int .i64 nk] rfl rfl (unhide HN) (fun u hu => by rw [List.mem_singleton.1 hu]; rfl) (by decide) (by unfold maxLen; omega) (by omega) hz5 _ rfl ?_)
          intro q cap' w6 hown hgrow hat hlt6
          have HB6 := hide ((unhide HB5).grown hgrow hz5 (fun k hk => ((unhide HO5).lt k hk).1))
          have HO6 := hide hown
          clear hown hgrow hat hlt6
          go_wp2
          go_roundw
          case rel => exact ⟨k + 1, some ⟨q, 0, none⟩, cap', by omega, by go_num, by rw [unhide HE, List.length_append]; rfl, Lib.hid (by rw [unhide HE, List.length_append, List.map_append]; exact ⟨unhide HB6, unhide HO6⟩)⟩
          case measure => simp [intOf]; omega
        · have e := unhide HST
          rw [Bool.not_false, Bool.true_and, decide_eq_false hc, if_neg Bool.false_ne_true, List.append_nil] at e
          have HE := hide e
          clear e
          go_wp2_with (refine wpList_loadS (unhide HSo) rfl _ rfl rfl ?_)
          refine (unhide HF).mono ?_
          rintro e w4 ⟨rfl, hb4⟩
          have HB4 := hide hb4
          clear hb4
          go_wp2
          go_roundw
          case rel => exact ⟨k + 1, A', c', by omega, by go_num, by rw [unhide HE], Lib.hid (by rw [unhide HE]; exact ⟨onward HP.out.1 (unhide HB4), owns_below HP.out.2 (unhide HB4)⟩)⟩
          case measure => simp [intOf]; omega
    · obtain rfl : k = 8 := by omega
      have hBB := unhide HB3
      have hz3 := unhide HZ3
      have hz2 := unhide HZ2
      go_wp2
      go_ret
      have hM : missL s.mod = missN s.mod last 8 := by unfold missL; rw [unhide HLast]
      rw [hM]
      exact ⟨A', c', rfl, nums_own HP.out.2 (by omega), onward hBB HP.out.1⟩
end Go.Proofs.YtcjdjdganaokfaaDoor
