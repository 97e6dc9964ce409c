/-
  Strips (layer 9): the walks of StripDrains and StripStops.
-/
import Derived.Test.YtfddpdognelhmaaStrE
namespace Go.Proofs.Ytfddpdognelhmaa
open Go.RowKit

theorem sFree_zero {l : List Int} (h : l.all (fun x => decide (x = 0)) = true) : sFree l = l.length := by
  unfold sFree
  rw [List.countP_eq_length]
  exact fun a ha => List.all_eq_true.1 h a ha
theorem sBags_zero {l : List Int} (h : l.all (fun x => decide (x = 0)) = true) : sBags l = [] := by
  unfold sBags sNz
  rw [List.reverse_eq_nil_iff, List.filter_eq_nil_iff]
  intro a ha
  have := List.all_eq_true.1 h a ha
  simpa using this
theorem sRun_s1 (op : Bool) (t : Nat) (s : List Int) : (sRun op (t + 1) s).1 = (sAdv (sRun op t s).1 [] op).1 := rfl
theorem sRun_s2 (op : Bool) (t : Nat) (s : List Int) : (sRun op (t + 1) s).2 = (sRun op t s).2 ++ if (sAdv (sRun op t s).1 [] op).2 = 0 then [] else [(sAdv (sRun op t s).1 [] op).2] := rfl
theorem sRun_closed (s : List Int) : ∀ t, (sRun false t s).2 = []
  | 0 => rfl
  | t + 1 => by
    rw [sRun_s2, sRun_closed s t, show (sAdv (sRun false t s).1 [] false).2 = 0 from sLef_closed _ _ _]; rfl
theorem sRun_got (op : Bool) (s : List Int) (t : Nat) : (sRun op t s).2.length ≤ s.length := by
  have h := congrArg List.length (sRun_order op s t)
  rw [List.length_append] at h
  have := sBags_len s
  omega
/-- A tick of windows of which one knows how many they are. -/
def TicksN (m : Nat) (l : List Int) (left : Int) (w : World) (e : Ending) (w' : World) : Prop :=
  ∃ g, e = .returned (.tuple #[.slice (some ⟨g, 0, none⟩) m m, .int .i64 left]) ∧ w.heap.size ≤ g ∧ RowB w' g l ∧ Below w.heap.size w w'
theorem adv_n {b m : Nat} {s f : List Int} {op : Bool} {g c c' k : Nat} {A' : Option Addr} {w : World} (hm : s.length = m) (hk : f.length = k) (hz : m ≤ 1000000) (h : RowB w g s) (hb : g ≠ b) (h' : NumsIn b w A' f) :
    Calls Try.prog 10 #[.slice (some ⟨g, 0, none⟩) m c, .slice A' k c', .bool op] w (TicksN m (sAdv s f op).1 (sAdv s f op).2 w) := by
  subst hm hk
  refine (adv_any b s f op (some ⟨g, 0, none⟩) A' c c' w hz (h.nums hb) h').mono ?_
  rintro e w' ⟨q, rfl, h1, h2, h3⟩
  exact ⟨q, by rw [sAdv_len], h1, h2, h3⟩
theorem rbags_n {m : Nat} {s : List Int} {g c : Nat} {w : World} (hm : s.length = m) (hz : m ≤ 1000000) (h : RowB w g s) :
    Calls Try.prog 18 #[.slice (some ⟨g, 0, none⟩) m c] w (IntsO (sBags s) w) := by
  subst hm
  exact rbags_any w.heap.size s (some ⟨g, 0, none⟩) c w hz (h.nums (Nat.ne_of_lt h.lt))
theorem bags_n {m : Nat} {s : List Int} {g c : Nat} {w : World} (hm : s.length = m) (hz : m ≤ 1000000) (h : RowB w g s) :
    Calls Try.prog 17 #[.slice (some ⟨g, 0, none⟩) m c] w (IntsO (sBags s) w) := by
  subst hm
  exact bags_any s (some ⟨g, 0, none⟩) c w hz (h.nums (Nat.ne_of_lt h.lt))
theorem free_n {m : Nat} {s : List Int} {g c : Nat} {w : World} (hm : s.length = m) (hz : m ≤ 1000000) (h : RowB w g s) :
    Calls Try.prog 15 #[.slice (some ⟨g, 0, none⟩) m c] w fun e w' => e = .returned (.int .i64 (sFree s : Int)) ∧ w = w' := by
  subst hm
  exact free_any w.heap.size s (some ⟨g, 0, none⟩) c w hz (h.nums (Nat.ne_of_lt h.lt))
theorem rfree_n {m : Nat} {s : List Int} {g c : Nat} {w : World} (hm : s.length = m) (hz : m ≤ 1000000) (h : RowB w g s) :
    Calls Try.prog 16 #[.slice (some ⟨g, 0, none⟩) m c] w fun e w' => e = .returned (.int .i64 (sFree s : Int)) ∧ w = w' := by
  subst hm
  exact rfree_any w.heap.size s (some ⟨g, 0, none⟩) c w hz (h.nums (Nat.ne_of_lt h.lt))
/-- Two rows that calls own and that hold the same numbers are found equal. -/
theorem ints_same {B1 B2 n n' c c' : Nat} {A A' : Option Addr} {l l' : List Int} {w : World} (hz : l.length ≤ 1000000) (h : w.ownsRow B1 3 1 (.slice A n c) n (l.map (Value.int .i64))) (h' : w.ownsRow B2 3 1 (.slice A' n' c') n' (l'.map (Value.int .i64))) (e : l = l') :
    Calls Try.prog 14 #[.slice A n c, .slice A' n' c'] w fun e w' => e = .returned (.bool true) ∧ Below w.heap.size w w' := by
  have e1 : l.length = n := by have := h.1; rw [List.length_map] at this; omega
  have e2 : l'.length = n' := by have := h'.1; rw [List.length_map] at this; omega
  subst e1 e2
  have := kints_any w.heap.size l l' A A' c c' w (by omega) (nums_own h (.inr (Nat.le_refl _))) (nums_own h' (.inr (Nat.le_refl _)))
  rwa [decide_eq_true e] at this

/-- Behind some ticks: the windows, and the bags that left. -/
structure DrS (w2 : World) (op : Bool) (s0 : List Int) (t gw : Nat) (gv : Value) (wr : World) : Prop where
  bel : Below w2.heap.size w2 wr
  row : RowB wr gw (sRun op t s0).1
  got : wr.ownsRow w2.heap.size 3 1 gv (sRun op t s0).2.length ((sRun op t s0).2.map (Value.int .i64))

set_option maxRecDepth 100000 in
set_option maxHeartbeats 4000000 in
theorem sdrains_any (A : Option Addr) (n c : Nat) (hc : n ≤ c) {w : World} (h : IntsIn w.heap.size w A n) :
    Calls Try.prog 5 #[.slice A n c] w fun e w' => e = .returned (.bool true) ∧ Below w.heap.size w w' := by
  obtain ⟨i0, hi1, hz0, hz1, hz2⟩ := info_parts linfo_int
  have Hi := hide hi1
  have Hz0 := hide hz0
  have Hz1 := hide hz1
  have Hz2 := hide hz2
  have HW := hide (windows_any A n c w hc h)
  clear h hc hi1 hz0 hz1 hz2
  go_enter Try.func5, Try.ntmps5
  go_wp2_with fail
  refine (unhide HW).mono ?_
  rintro e w1 ⟨bits, fs, g, g', rfl, m1, m8, _, hr, _, _, _, hb1⟩
  have HB1 := hide hb1
  have HD := hide (sDrains_all bits.length (by omega) bits (sAll_mem bits))
  have HL := hide (sWin_len bits 0)
  generalize sWin bits 0 = s0 at *
  generalize bits.length = m at *
  have HQ := hide (rbags_n (c := m) (unhide HL) (by omega) hr)
  have HR := hide hr
  clear hb1 hr HW
  go_wp2_with fail
  refine (unhide HQ).mono ?_
  rintro e w2 ⟨v, rfl, hown, hb2⟩
  obtain ⟨A2, c2, rfl⟩ := own_form hown
  have HB2 := hide (onward (unhide HB1) hb2)
  have HS := hide (show DrS w2 true s0 0 g (.slice none 0 0) w2 from ⟨Below.refl _ _, (unhide HR).keep hb2, World.ownsRow_nil _ _ _ _⟩)
  have HO := hide hown
  clear hown hb2 HQ
  go_wp2
  go_loopw [3, 6, 7] (fun wv gv iv wr => ∃ t gw : Nat, t ≤ 2 * m ∧ iv = .int .i64 t ∧ wv = .slice (some ⟨gw, 0, none⟩) m m ∧ Hid (DrS w2 true s0 t gw gv wr)) (fun _ _ iv _ => 2 * m - (intOf iv).toNat)
  case atStart => exact ⟨0, g, Nat.zero_le _, rfl, rfl, Lib.hid (unhide HS)⟩
  case round =>
    obtain ⟨t, gw, ht, rfl, rfl, hS⟩ := hrel
    obtain ⟨wo, rfl⟩ : ∃ wo : World, wo = wr := ⟨_, rfl⟩
    obtain ⟨A3, c3, rfl⟩ := own_form hS.out.got
    have HS1 := hide hS.out
    have hlm : (sRun true t s0).1.length = m := by rw [sRun_len]; exact unhide HL
    have hg2 : (sRun true t s0).2.length ≤ m := by have := sRun_got true s0 t; have := unhide HL; omega
    clear hS
    by_cases hlt : t < 2 * m
    · have tl : (t : Int) < 2 * (m : Int) := by omega
      have HA := hide (adv_n (b := wo.heap.size) (c := m) (c' := 0) (op := true) (A' := none) (f := []) hlm rfl (by omega) (unhide HS1).row (Nat.ne_of_lt (unhide HS1).row.lt) (NumsIn.nil _ _ _))
      have HE1 := hide (sRun_s1 true t s0)
      have HE2 := hide (sRun_s2 true t s0)
      clear hlm
      go_wp2_with fail
      refine (unhide HA).mono ?_
      rintro e w3 ⟨g3, rfl, hge, hr3, hb3⟩
      have HR3 := hide hr3
      have HB3 := hide (unhide HS1 |>.bel.trans (hb3.mono (unhide HS1).bel.size))
      have HO3 := hide (owns_later (unhide HS1).got hb3)
      have hz3 : w2.heap.size ≤ w3.heap.size := (unhide HB3).size
      clear hr3 hb3 HA
      cases hx : ((sAdv (sRun true t s0).1 [] true).2 != 0) with
      | false =>
        have HS4 := hide (show DrS w2 true s0 (t + 1) g3 (.slice A3 (sRun true t s0).2.length c3) w3 from ⟨unhide HB3, unhide HR3, by rw [unhide HE2, if_pos (by rwa [bne_eq_false_iff_eq] at hx), List.append_nil]; exact unhide HO3⟩)
        generalize (sAdv (sRun true t s0).1 [] true).2 = lf at *
        generalize (sRun true t s0).2.length = ng at *
        go_wp2
        go_roundw
        case rel => exact ⟨t + 1, g3, by omega, by go_num, rfl, Lib.hid (unhide HS4)⟩
        case measure => simp [intOf]; omega
      | true =>
        have HX := hide (show (sRun true (t + 1) s0).2 = (sRun true t s0).2 ++ [(sAdv (sRun true t s0).1 [] true).2] by rw [unhide HE2, if_neg (by rwa [bne_iff_ne] at hx)])
        generalize (sAdv (sRun true t s0).1 [] true).2 = lf at *
        generalize hgg : (sRun true t s0).2 = gs at *
        have HGG := hide hgg
        clear hgg
        generalize hng : gs.length = ng at *
        have HNG := hide hng
        clear hng
        go_wp2_with (at_builtin; refine wpList_append_own _ rfl _ _ 22 rfl w2.heap.size 3 i0 (.int .i64 0) 1 8 Try.underlying22 (unhide Hi) (unhide Hz0) (unhide Hz1) (unhide Hz2) rfl (by decide) _ _ _ rfl ((unhide HO3).alloc _) ⟨w3.heap.size, 0, none⟩ 1 1 [.int .i64 lf] rfl rfl ?c1 ?c2 ?c3 ?c4 ?c5 ?_)
        case c1 => exact lone_new w3 _ _
        case c2 =>
          intro u hu
          simp at hu
          subst hu
          rfl
        case c3 => unfold maxLen; omega
        case c4 => omega
        case c5 => rw [World.size_alloc]; omega
        intro v' w4 hown4 hgrow _
        have HS4 := hide (show DrS w2 true s0 (t + 1) g3 v' w4 from ⟨((unhide HB3).alloc hz3 _).grown hgrow (by rw [World.size_alloc]; omega) (fun q hq => ((unhide HO3).lt q hq).1), by
          have ha := (unhide HR3).keep ((Below.refl _ _).alloc (Nat.le_refl _) (.cells #[.int .i64 lf] 3))
          refine (hgrow.block g3 ha.lt (fun e => ?_)).trans ha
          have := ((unhide HS1).got.lt g3 e.symm).2
          omega, by
          rw [unhide HX, List.map_append, List.length_append, unhide HNG]
          exact hown4⟩)
        clear hown4 hgrow
        go_wp2
        go_roundw
        case rel => exact ⟨t + 1, g3, by omega, by go_num, rfl, Lib.hid (unhide HS4)⟩
        case measure => simp [intOf]; omega
    · obtain rfl : t = 2 * m := by omega
      have tl : ¬ ((2 * m : Nat) : Int) < 2 * (m : Int) := by omega
      have HF := hide (free_n (c := m) hlm (by omega) (unhide HS1).row)
      have hfr := sFree_zero (unhide HD)
      rw [hfr, hlm] at HF
      have hbz := sBags_zero (unhide HD)
      have hor := sRun_order true s0 (2 * m)
      rw [hbz, List.append_nil] at hor
      have HI := hide (ints_same (by omega) (unhide HS1).got (owns_later (unhide HO) (unhide HS1).bel) hor)
      have HB4 := hide (onward (unhide HB2) (unhide HS1).bel)
      clear hfr hbz hor hlm
      generalize (sRun true (2 * m) s0).2.length = ng at *
      generalize (sBags s0).length = nb at *
      go_wp2_with (first
        | (go_at_call 15; refine (unhide HF).mono ?_; rintro e w5 ⟨rfl, rfl⟩)
        | (go_at_call 14; refine (unhide HI).mono ?_; rintro e w5 ⟨rfl, hb5⟩; have HB5 := hide (onward (unhide HB4) hb5); clear hb5)
        | (go_at_call 8; refine (saw_any _).mono ?_; rintro e w6 ⟨rfl, hb6⟩; have HB6 := hide (onward (unhide HB5) hb6); clear hb6))
      go_ret
      exact ⟨rfl, unhide HB6⟩

/-- Behind some ticks of a closed strip. -/
structure StS (w2 : World) (s0 : List Int) (t gw : Nat) (wr : World) : Prop where
  bel : Below w2.heap.size w2 wr
  row : RowB wr gw (sRun false t s0).1

set_option maxRecDepth 100000 in
set_option maxHeartbeats 4000000 in
theorem sstops_any (A : Option Addr) (n c : Nat) (hc : n ≤ c) {w : World} (h : IntsIn w.heap.size w A n) :
    Calls Try.prog 6 #[.slice A n c] w fun e w' => e = .returned (.bool true) ∧ Below w.heap.size w w' := by
  have HW := hide (windows_any A n c w hc h)
  clear h hc
  go_enter Try.func6, Try.ntmps6
  go_wp2_with fail
  refine (unhide HW).mono ?_
  rintro e w1 ⟨bits, fs, g, g', rfl, m1, m8, _, hr, _, _, _, hb1⟩
  have HB1 := hide hb1
  have HD := hide (fun i (hi : i < bits.length) => List.all_eq_true.1 (sStops_all bits.length (by omega) bits (sAll_mem bits)) i (List.mem_range.2 hi))
  have HL := hide (sWin_len bits 0)
  generalize sWin bits 0 = s0 at *
  generalize bits.length = m at *
  have HQ := hide (rbags_n (c := m) (unhide HL) (by omega) hr)
  have HF := hide (rfree_n (c := m) (unhide HL) (by omega) hr)
  have HR := hide hr
  have hfm : sFree s0 ≤ m := by have := sFree_le s0; have := unhide HL; omega
  have s1 : IntKind.i64.wrap ((m : Int) - (sFree s0 : Int)) = (m : Int) - (sFree s0 : Int) := IntWalk.i64_in _ (by omega)
  clear hb1 hr HW
  go_wp2_with (first
    | (go_at_call 16; refine (unhide HF).mono ?_; rintro e w2 ⟨rfl, rfl⟩))
  refine (unhide HQ).mono ?_
  rintro e w2 ⟨v, rfl, hown, hb2⟩
  obtain ⟨A2, c2, rfl⟩ := own_form hown
  have HB2 := hide (onward (unhide HB1) hb2)
  have HS := hide (show StS w2 s0 0 g w2 from ⟨Below.refl _ _, (unhide HR).keep hb2⟩)
  have HO := hide hown
  clear hown hb2 HQ HF
  generalize sFree s0 = fr at *
  generalize (sBags s0).length = nb at *
  go_wp2
  go_loopw [3, 7] (fun wv iv wr => ∃ t gw : Nat, t ≤ 2 * m ∧ iv = .int .i64 t ∧ wv = .slice (some ⟨gw, 0, none⟩) m m ∧ Hid (StS w2 s0 t gw wr)) (fun _ iv _ => 2 * m - (intOf iv).toNat)
  case atStart => exact ⟨0, g, Nat.zero_le _, rfl, rfl, Lib.hid (unhide HS)⟩
  case round =>
    obtain ⟨t, gw, ht, rfl, rfl, hS⟩ := hrel
    obtain ⟨wo, rfl⟩ : ∃ wo : World, wo = wr := ⟨_, rfl⟩
    have HS1 := hide hS.out
    have hlm : (sRun false t s0).1.length = m := by rw [sRun_len]; exact unhide HL
    clear hS
    by_cases hlt : t < 2 * m
    · have tl : (t : Int) < 2 * (m : Int) := by omega
      have hA := adv_n (b := wo.heap.size) (c := m) (c' := 0) (op := false) (A' := none) (f := []) hlm rfl (by omega) (unhide HS1).row (Nat.ne_of_lt (unhide HS1).row.lt) (NumsIn.nil _ _ _)
      rw [show (sAdv (sRun false t s0).1 [] false).2 = 0 from sLef_closed _ _ _] at hA
      have HA := hide hA
      have HE1 := hide (sRun_s1 false t s0)
      clear hlm hA
      go_wp2_with fail
      refine (unhide HA).mono ?_
      rintro e w3 ⟨g3, rfl, _, hr3, hb3⟩
      have HS4 := hide (show StS w2 s0 (t + 1) g3 w3 from ⟨(unhide HS1).bel.trans (hb3.mono (unhide HS1).bel.size), hr3⟩)
      clear hr3 hb3 HA
      go_wp2
      go_roundw
      case rel => exact ⟨t + 1, g3, by omega, by go_num, rfl, Lib.hid (unhide HS4)⟩
      case measure => simp [intOf]; omega
    · obtain rfl : t = 2 * m := by omega
      have tl : ¬ ((2 * m : Nat) : Int) < 2 * (m : Int) := by omega
      have HQ := hide (bags_n (c := m) hlm (by omega) (unhide HS1).row)
      have hor := sRun_order false s0 (2 * m)
      rw [sRun_closed, List.nil_append] at hor
      have HOr := hide hor
      have HR4 := hide (unhide HS1).row
      have HLM := hide hlm
      have HB4 := hide (unhide HS1).bel
      generalize (sRun false (2 * m) s0).1 = sE at *
      clear hor hlm
      have s2 : IntKind.i64.wrap ((m : Int) - ((m : Int) - (fr : Int))) = (m : Int) - ((m : Int) - (fr : Int)) := IntWalk.i64_in _ (by omega)
      go_wp2
      go_loop [10] (fun iv => ∃ k : Nat, k ≤ m ∧ iv = .int .i64 k) (fun iv => m - (intOf iv).toNat)
      case atStart => exact ⟨0, Nat.zero_le _, rfl⟩
      case round =>
        obtain ⟨k, hk, rfl⟩ := hrel
        by_cases hlt2 : k < m
        · have kl : (k : Int) < (m : Int) := by omega
          have k0 : (0 : Int) ≤ (k : Int) := by omega
          have c0 := (unhide HR4).cell (k := k) (by rw [unhide HLM]; exact hlt2)
          have hd := unhide HD k hlt2
          generalize sE.getD k 0 = x at *
          rw [beq_iff_eq] at hd
          cases hx : (x != 0) with
          | true =>
            have h1 : ((m : Int) - ((m : Int) - (fr : Int))) ≤ (k : Int) := by
              have : x ≠ 0 := by rwa [bne_iff_ne] at hx
              rw [decide_eq_false this] at hd
              have := of_decide_eq_true hd.symm
              omega
            clear hd
            go_wp2
            go_round
            case rel => exact ⟨k + 1, by omega, by go_num⟩
            case measure => simp [intOf]; omega
          | false =>
            have h1 : ¬ ((m : Int) - ((m : Int) - (fr : Int))) ≤ (k : Int) := by
              have : x = 0 := by rwa [bne_eq_false_iff_eq] at hx
              rw [decide_eq_true this] at hd
              have := of_decide_eq_false hd.symm
              omega
            clear hd
            go_wp2
            go_round
            case rel => exact ⟨k + 1, by omega, by go_num⟩
            case measure => simp [intOf]; omega
        · obtain rfl : k = m := by omega
          have kl : ¬ (k : Int) < (k : Int) := by omega
          go_wp2_with fail
          refine (unhide HQ).mono ?_
          rintro e w5 ⟨v5, rfl, hown5, hb5⟩
          obtain ⟨A5, c5, rfl⟩ := own_form hown5
          have HI := hide (ints_same (by have := sBags_len sE; have := unhide HLM; omega) hown5 (owns_later (unhide HO) ((unhide HB4).trans (hb5.mono (unhide HB4).size))) (unhide HOr))
          have HB5 := hide (onward (unhide HB2) ((unhide HB4).trans (hb5.mono (unhide HB4).size)))
          clear hown5 hb5
          generalize (sBags sE).length = ne at *
          go_wp2_with (first
            | (go_at_call 14; refine (unhide HI).mono ?_; rintro e w6 ⟨rfl, hb6⟩; have HB6 := hide (onward (unhide HB5) hb6); clear hb6)
            | (go_at_call 8; refine (saw_any _).mono ?_; rintro e w7 ⟨rfl, hb7⟩; have HB7 := hide (onward (unhide HB6) hb7); clear hb7))
          go_ret
          exact ⟨rfl, unhide HB7⟩
end Go.Proofs.Ytfddpdognelhmaa
