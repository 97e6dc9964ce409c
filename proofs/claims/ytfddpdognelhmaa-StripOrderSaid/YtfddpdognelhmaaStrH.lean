/-
  Strips (layer 9): the walk of StripOrder.
-/
import Derived.Test.YtfddpdognelhmaaStrF
import Derived.Laws.AppendOwnNone
namespace Go.Proofs.Ytfddpdognelhmaa
open Go.RowKit

/-- Between two ticks. -/
structure OrS (w1 : World) (m : Nat) (fs : List Int) (g' gw : Nat) (ws : List Int) (wr : World) : Prop where
  bel : Below w1.heap.size w1 wr
  row : RowB wr gw ws
  frow : RowB wr g' fs
  len : ws.length = m
theorem OrS.below {w1 wr w2 : World} {m g' gw : Nat} {fs ws : List Int} (h : OrS w1 m fs g' gw ws wr) (hb : Below wr.heap.size wr w2) : OrS w1 m fs g' gw ws w2 :=
  ⟨h.bel.trans (hb.mono h.bel.size), h.row.keep hb, h.frow.keep hb, h.len⟩
theorem own_none {w : World} {B n c : Nat} {t : TypeId} {xs : List Value} (h : w.ownsRow B t 1 (.slice none n c) n xs) : n = 0 ∧ c = 0 ∧ xs = [] := by
  rcases h.2 with ⟨hv, h0⟩ | ⟨g, cap, cur, hv, _⟩
  · injection hv with _ _ hc
    exact ⟨h0, hc, List.eq_nil_of_length_eq_zero (by have := h.1; omega)⟩
  · cases hv
theorem own_some1 {w : World} {B n c : Nat} {t : TypeId} {xs : List Value} {a : Addr} (h : w.ownsRow B t 1 (.slice (some a) n c) n xs) : ∃ q, a = ⟨q, 0, none⟩ ∧ ∀ j u, xs[j]? = some u → w.cell? (a.add j) = some u := by
  rcases h.2 with ⟨hv, h0⟩ | ⟨g, cap, cur, hv, _, hg, _, _, _, ht⟩
  · cases hv
  · injection hv with hA
    injection hA with hA
    subst hA
    refine ⟨g, rfl, fun j u hu => ?_⟩
    rw [show (⟨g, 0, none⟩ : Addr).add j = ⟨g, 0 + j, none⟩ by unfold Addr.add; split <;> simp_all, Nat.zero_add, Lib.cell_of_heap hg, ← Array.getElem?_toList]
    rw [← ht, List.getElem?_take] at hu
    split at hu
    · exact hu
    · cases hu

set_option maxRecDepth 100000 in
set_option maxHeartbeats 8000000 in
theorem sorder_any (A : Option Addr) (n c : Nat) (hc : n ≤ c) {w : World} (h : IntsIn w.heap.size w A n) (y : Int) (wy : (Lit.int .u8 y).wf = true) (z : Int) (_ : (Lit.int .i64 z).wf = true) :
    Calls Try.prog 4 #[.slice A n c, .int .u8 y, .int .i64 z] w fun e w' => e = .returned (.bool true) ∧ Below w.heap.size w w' := by
  have h2 : 0 ≤ y ∧ y ≤ 255 := by
    have h1 : IntKind.u8.min ≤ y ∧ y ≤ IntKind.u8.max := by have := wy; simpa [Lit.wf] using this
    exact ⟨h1.1, h1.2⟩
  obtain ⟨i0, hi1, hz0, hz1, hz2⟩ := info_parts linfo_int
  have Hi := hide hi1
  have Hz0 := hide hz0
  have Hz1 := hide hz1
  have Hz2 := hide hz2
  have HW := hide (windows_any A n c w hc h)
  clear h hc hi1 hz0 hz1 hz2 wy
  go_enter Try.func4, Try.ntmps4
  go_wp2_with fail
  refine (unhide HW).mono ?_
  rintro e w1 ⟨bits, fs, g, g', rfl, m1, m8, hfl, hr, hf, _, _, hb1⟩
  have HB1 := hide hb1
  have HL := hide (sWin_len bits 0)
  generalize sWin bits 0 = s0 at *
  generalize bits.length = m at *
  have HFL := hide hfl
  have HS := hide (show OrS w1 m fs g' g s0 w1 from ⟨Below.refl _ _, hr, hf, unhide HL⟩)
  clear hb1 HW hr hf hfl
  go_wp2
  go_loopw [7, 9] (fun wv iv wr => ∃ (t gw : Nat) (ws : List Int), t ≤ 8 ∧ iv = .int .i64 t ∧ wv = .slice (some ⟨gw, 0, none⟩) m m ∧ Hid (OrS w1 m fs g' gw ws wr)) (fun _ iv _ => 8 - (intOf iv).toNat)
  case atStart => exact ⟨0, g, s0, by omega, rfl, rfl, Lib.hid (unhide HS)⟩
  case round =>
    obtain ⟨t, gw, ws, ht, rfl, rfl, hS⟩ := hrel
    obtain ⟨wo, rfl⟩ : ∃ wo : World, wo = wr := ⟨_, rfl⟩
    have HS1 := hide hS.out
    clear hS
    by_cases hlt : (t : Int) < y % 8
    · have HQ := hide (bags_n (c := m) (unhide HS1).len (by omega) (unhide HS1).row)
      have HBl := hide (show (sBags ws).length ≤ m from by have := sBags_len ws; have := (unhide HS1).len; omega)
      go_wp2_with fail
      refine (unhide HQ).mono ?_
      rintro e w2 ⟨v, rfl, hown, hb2⟩
      obtain ⟨A2, c2, rfl⟩ := own_form hown
      have HO2 := hide hown
      have HS2 := hide ((unhide HS1).below hb2)
      clear hown hb2 HQ HS1
      generalize hnb : (sBags ws).length = nb at *
      have HNB := hide hnb
      clear hnb
      go_wp2_with fail
      generalize (Go.bits BinOp.and IntKind.i64 (z / 2 ^ t) 1 == 1) = op
      refine (adv_n (b := w2.heap.size) (op := op) (unhide HS2).len (unhide HFL) (by omega) (unhide HS2).row (Nat.ne_of_lt (unhide HS2).row.lt) ((unhide HS2).frow.nums (Nat.ne_of_lt (unhide HS2).frow.lt))).mono ?_
      rintro e w3 ⟨g3, rfl, _, hr3, hb3⟩
      have HOr := hide (sAdv_order ws fs op)
      have hl3 : (sAdv ws fs op).1.length = m := by rw [sAdv_len]; exact (unhide HS2).len
      have HS3 := hide (show OrS w1 m fs g' g3 (sAdv ws fs op).1 w3 from ⟨((unhide HS2).below hb3).bel, hr3, ((unhide HS2).below hb3).frow, hl3⟩)
      have HO3 := hide (owns_later (unhide HO2) hb3)
      clear hr3 hb3 hl3 HO2 HS2
      generalize (sAdv ws fs op).1 = l3 at *
      generalize (sAdv ws fs op).2 = lf at *
      have HQ := hide (bags_n (c := m) (unhide HS3).len (by omega) (unhide HS3).row)
      have HBl3 := hide (show (sBags l3).length ≤ m from by have := sBags_len l3; have := (unhide HS3).len; omega)
      go_wp2_with fail
      refine (unhide HQ).mono ?_
      rintro e w4 ⟨v, rfl, hown, hb4⟩
      obtain ⟨A4, c4, rfl⟩ := own_form hown
      have HO4 := hide hown
      have HP4 := hide (owns_later (unhide HO3) hb4)
      have HS4 := hide ((unhide HS3).below hb4)
      clear hown hb4 HQ HS3 HO3
      have hb8 := unhide HBl3
      have hb2 := unhide HBl
      generalize hnd : (sBags l3).length = nd at *
      have HND := hide hnd
      clear hnd
      cases hx : (lf != 0) with
      | false =>
        have HE := hide (show sBags ws = sBags l3 from by rw [← unhide HOr, if_pos (by rwa [bne_eq_false_iff_eq] at hx)]; rfl)
        have HI := hide (ints_same (by have := unhide HNB; omega) (unhide HP4) (unhide HO4) (unhide HE))
        go_wp2_with fail
        refine (unhide HI).mono ?_
        rintro e w5 ⟨rfl, hb5⟩
        have HS5 := hide ((unhide HS4).below hb5)
        clear hb5
        go_wp2
        go_roundw
        case rel => exact ⟨t + 1, g3, l3, by omega, by go_num, rfl, Lib.hid (unhide HS5)⟩
        case measure => simp [intOf]; omega
      | true =>
        have HE := hide (show sBags ws = [lf] ++ sBags l3 from by rw [← unhide HOr, if_neg (by rwa [bne_iff_ne] at hx)])
        have b5 := (Below.refl w4.heap.size w4).alloc (Nat.le_refl _) (.cells #[.int .i64 lf] 3)
        have HLit := hide (World.ownsRow_lit (base := w4.heap.size) (e := 3) (size := 1) w4 #[Value.int .i64 lf] 1 (Nat.le_refl _) (by decide) rfl)
        have HS5 := hide ((unhide HS4).below b5)
        have HP5 := hide (owns_later (unhide HP4) b5)
        have HO5 := hide (owns_later (unhide HO4) b5)
        have HB5 := hide b5
        clear b5 HO4
        cases A4 with
        | none =>
          obtain ⟨hn0, hc0, hn1⟩ := own_none (unhide HO5)
          have HE2 := hide (show sBags ws = [lf] from by
            have : sBags l3 = [] := by cases hq : sBags l3 with
              | nil => rfl
              | cons a r => rw [hq] at hn1; cases hn1
            rw [unhide HE, this]; rfl)
          subst hn0 hc0
          have HI := hide (ints_same (l' := [lf]) (by have := unhide HNB; omega) (unhide HP5) (unhide HLit) (unhide HE2))
          clear hn1
          go_wp2_with (first
            | (at_builtin; refine wpList_append_own_none rfl _ _ 22 rfl w4.heap.size 3 i0 1 Try.underlying22 (unhide Hi) _ _ _ rfl (unhide HLit) rfl ?_)
            | (go_at_call 14; refine (unhide HI).mono ?_; rintro e w5 ⟨rfl, hb5⟩; have HS6 := hide ((unhide HS5).below hb5); clear hb5))
          go_roundw
          case rel => exact ⟨t + 1, g3, l3, by omega, by go_num, rfl, Lib.hid (unhide HS6)⟩
          case measure => simp [intOf]; omega
        | some a4 =>
          obtain ⟨q4, rfl, hcs⟩ := own_some1 (unhide HO5)
          have HCs := hide hcs
          clear hcs
          go_wp2_with (at_builtin; refine wpList_append_own _ rfl _ _ 22 rfl w4.heap.size 3 i0 (.int .i64 0) 1 8 Try.underlying22 (unhide Hi) (unhide Hz0) (unhide Hz1) (unhide Hz2) rfl (by decide) _ _ _ rfl (unhide HLit) ⟨q4, 0, none⟩ nd c4 ((sBags l3).map (Value.int .i64)) rfl ?c0 ?c1 ?c2 ?c3 ?c4 ?c5 ?_)
          case c0 => rw [List.length_map, unhide HND, Nat.mul_one]
          case c1 => exact unhide HCs
          case c2 =>
            intro u hu
            obtain ⟨k, _, rfl⟩ := List.mem_map.1 hu
            rfl
          case c3 => unfold maxLen; omega
          case c4 => omega
          case c5 => rw [World.size_alloc]; omega
          intro v' w6 hown6 hgrow _
          obtain ⟨A6, c6, rfl⟩ := own_form hown6
          have hgr : Below w4.heap.size w4 w6 := (unhide HB5).grown hgrow (unhide HB5).size (fun k e => by cases e; exact Nat.le_refl _)
          have HP6 := owns_later (unhide HP4) hgr
          have HS6 := hide ((unhide HS4).below hgr)
          have hown7 : w6.ownsRow w4.heap.size 3 1 (.slice A6 (1 + nd) c6) (1 + nd) (([lf] ++ sBags l3).map (Value.int .i64)) := by
            rw [List.map_append]; exact hown6
          have HI := hide (ints_same (by have := unhide HNB; omega) HP6 hown7 (unhide HE))
          have en : ((1 + nd : Nat) : Int) = 1 + (nd : Int) := by omega
          clear hown6 hgrow hgr HP6 hown7 en
          go_wp2_with fail
          refine (unhide HI).mono ?_
          rintro e w7 ⟨rfl, hb7⟩
          have HS7 := hide ((unhide HS6).below hb7)
          clear hb7
          go_wp2
          go_roundw
          case rel => exact ⟨t + 1, g3, l3, by omega, by go_num, rfl, Lib.hid (unhide HS7)⟩
          case measure => simp [intOf]; omega
    · have HB2 := hide (onward (unhide HB1) (unhide HS1).bel)
      go_wp2_with fail
      refine (saw_any _).mono ?_
      rintro e w7 ⟨rfl, hb7⟩
      have HB7 := hide (onward (unhide HB2) hb7)
      clear hb7
      go_wp2
      go_ret
      exact ⟨rfl, unhide HB7⟩
end Go.Proofs.Ytfddpdognelhmaa
