/-
  Strips (layer 9): the walk of StripAdvances.
-/
import Derived.Test.YtfddpdognelhmaaStrG
namespace Go.Proofs.Ytfddpdognelhmaa
open Go.RowKit

/-- The numbers of a slice that came in. -/
theorem ints_list {b : Nat} {w : World} {A : Option Addr} {n : Nat} (h : IntsIn b w A n) (hb : b ≤ w.heap.size) : ∃ l : List Int, l.length = n ∧ NumsIn w.heap.size w A l := by
  rcases Nat.eq_zero_or_pos n with rfl | hp
  · exact ⟨[], rfl, NumsIn.nil _ _ _⟩
  · obtain ⟨g, off, hA, hg, hc⟩ := h hp
    refine ⟨(List.range n).map fun i => if hi : i < n then Classical.choose (hc i hi) else 0, by rw [List.length_map, List.length_range], fun _ => ⟨g, off, hA, by omega, fun i hi => ?_⟩⟩
    rw [List.length_map, List.length_range] at hi
    rw [at_k (by rw [List.length_map, List.length_range]; exact hi), List.getElem_map, List.getElem_range, dif_pos hi]
    exact Classical.choose_spec (hc i hi)
/-- The three pairs of windows and faults. -/
structure Prs (W : World) (R : Nat) (X F : Nat → List Int) (PX PF : Nat → Option Addr) (nX nF cX cF : Nat → Nat) : Prop where
  cx : ∀ k, k < 3 → W.cell? ⟨R, k * 2, none⟩ = some (.slice (PX k) (nX k) (cX k))
  cf : ∀ k, k < 3 → W.cell? ⟨R, k * 2 + 1, none⟩ = some (.slice (PF k) (nF k) (cF k))
  lx : ∀ k, (X k).length = nX k
  lf : ∀ k, (F k).length = nF k
  hx : ∀ k, NumsIn W.heap.size W (PX k) (X k)
  hf : ∀ k, NumsIn W.heap.size W (PF k) (F k)
  bx : ∀ k, nX k ≤ 100
def pick3 {α : Type} (a b c : α) (k : Nat) : α := if k = 0 then a else if k = 1 then b else c
theorem pick3_all {α : Type} {P : α → Prop} {a b c : α} (h0 : P a) (h1 : P b) (h2 : P c) (k : Nat) : P (pick3 a b c k) := by
  unfold pick3; split
  · exact h0
  · split
    · exact h1
    · exact h2


section
variable {n k c c' : Nat} {s f : List Int} {op : Bool} {x : Int} {A A' : Option Addr} {w : World}
theorem adv_q (hm : s.length = n) (hk : f.length = k) (hz : n ≤ 1000000) (h : NumsIn w.heap.size w A s) (h' : NumsIn w.heap.size w A' f) :
    Calls Try.prog 10 #[.slice A n c, .slice A' k c', .bool op] w (TicksN n (sAdv s f op).1 (sAdv s f op).2 w) := by
  subst hm hk
  refine (adv_any _ s f op A A' c c' w hz h h').mono ?_
  rintro e w' ⟨q, rfl, h1, h2, h3⟩
  exact ⟨q, by rw [sAdv_len], h1, h2, h3⟩
theorem radv_q (hm : s.length = n) (hk : f.length = k) (hz : n ≤ 1000000) (h : NumsIn w.heap.size w A s) (h' : NumsIn w.heap.size w A' f) :
    Calls Try.prog 11 #[.slice A n c, .slice A' k c', .bool op] w (TicksN n (sAdv s f op).1 (sAdv s f op).2 w) := by
  subst hm hk
  refine (radv_any _ s f op A A' c c' w hz h h').mono ?_
  rintro e w' ⟨q, rfl, h1, h2, h3⟩
  exact ⟨q, by rw [sAdv_len], h1, h2, h3⟩
theorem push_q (hm : s.length = n) (hz : n ≤ 1000000) (h : NumsIn w.heap.size w A s) : Calls Try.prog 12 #[.slice A n c, .int .i64 x] w (Pushed (sPush s x) w) := by
  subst hm; exact push_any _ s x A c w hz h
theorem rpush_q (hm : s.length = n) (hz : n ≤ 1000000) (h : NumsIn w.heap.size w A s) : Calls Try.prog 13 #[.slice A n c, .int .i64 x] w (Pushed (sPush s x) w) := by
  subst hm; exact rpush_any _ s x A c w hz h
theorem free_q (hm : s.length = n) (hz : n ≤ 1000000) (h : NumsIn w.heap.size w A s) : Calls Try.prog 15 #[.slice A n c] w fun e w' => e = .returned (.int .i64 (sFree s : Int)) ∧ w = w' := by
  subst hm; exact free_any _ s A c w hz h
theorem rfree_q (hm : s.length = n) (hz : n ≤ 1000000) (h : NumsIn w.heap.size w A s) : Calls Try.prog 16 #[.slice A n c] w fun e w' => e = .returned (.int .i64 (sFree s : Int)) ∧ w = w' := by
  subst hm; exact rfree_any _ s A c w hz h
theorem bags_q (hm : s.length = n) (hz : n ≤ 1000000) (h : NumsIn w.heap.size w A s) : Calls Try.prog 17 #[.slice A n c] w (IntsO (sBags s) w) := by
  subst hm; exact bags_any s A c w hz h
theorem rbags_q (hm : s.length = n) (hz : n ≤ 1000000) (h : NumsIn w.heap.size w A s) : Calls Try.prog 18 #[.slice A n c] w (IntsO (sBags s) w) := by
  subst hm; exact rbags_any _ s A c w hz h
theorem ints_q {l : List Int} {B : Option Addr} (hm : l.length = n) (hk : l.length = k) (hz : n ≤ 1000000) (h : NumsIn w.heap.size w A l) (h' : NumsIn w.heap.size w B l) :
    Calls Try.prog 14 #[.slice A n c, .slice B k c'] w fun e w' => e = .returned (.bool true) ∧ Below w.heap.size w w' := by
  subst hk
  obtain rfl := hm
  have := kints_any w.heap.size l l A B c c' w (by omega) h h'
  rwa [decide_eq_true rfl] at this
end
theorem pr_keep {W0 W W' : World} {b : Nat} {u : Value} (h : Below W0.heap.size W0 W ∧ W.cell? ⟨b, 0, none⟩ = some u) (hb : Below W.heap.size W W') : Below W0.heap.size W0 W' ∧ W'.cell? ⟨b, 0, none⟩ = some u :=
  ⟨h.1.trans (hb.mono h.1.size), kept hb h.2⟩

set_option maxRecDepth 100000 in
set_option maxHeartbeats 8000000 in
theorem sadvances_any (A0 : Option Addr) (n0 c0 : Nat) (_h0 : n0 ≤ c0) {w : World} (hI0 : IntsIn w.heap.size w A0 n0) (A1 : Option Addr) (n1 c1 : Nat) (_h1 : n1 ≤ c1) (hI1 : IntsIn w.heap.size w A1 n1)
    (op : Bool) (bag : Int) (_wb : (Lit.int .i64 bag).wf = true) (A4 : Option Addr) (n4 c4 : Nat) (h4 : n4 ≤ c4) (hI4 : IntsIn w.heap.size w A4 n4) :
    Calls Try.prog 3 #[.slice A0 n0 c0, .slice A1 n1 c1, .bool op, .int .i64 bag, .slice A4 n4 c4] w fun e w' => e = .returned (.bool true) ∧ Below w.heap.size w w' := by
  by_cases hbig : (60 : Int) < (n0 : Int) ∨ (80 : Int) < (n1 : Int)
  · have HAw := hide (saw_any w)
    clear hI0 hI1 hI4 h4
    by_cases h60 : (60 : Int) < (n0 : Int)
    · clear hbig
      go_enter Try.func3, Try.ntmps3
      go_wp2_with fail
      refine (unhide HAw).mono ?_
      rintro e w1 ⟨rfl, hb1⟩
      have HB1 := hide hb1
      clear hb1
      go_wp2
      go_ret
      exact ⟨rfl, unhide HB1⟩
    · have h80 : (80 : Int) < (n1 : Int) := by omega
      clear hbig
      go_enter Try.func3, Try.ntmps3
      go_wp2_with fail
      refine (unhide HAw).mono ?_
      rintro e w1 ⟨rfl, hb1⟩
      have HB1 := hide hb1
      clear hb1
      go_wp2
      go_ret
      exact ⟨rfl, unhide HB1⟩
  · have h60 : ¬ (60 : Int) < (n0 : Int) := by omega
    have h80 : ¬ (80 : Int) < (n1 : Int) := by omega
    obtain ⟨X0, lX0, hX0⟩ := ints_list hI0 (Nat.le_refl _)
    obtain ⟨F0, lF0, hF0⟩ := ints_list hI1 (Nat.le_refl _)
    have HW := hide (windows_any A4 n4 c4 w h4 hI4)
    have HX0 := hide hX0
    have HF0 := hide hF0
    have HlX0 := hide lX0
    have HlF0 := hide lF0
    clear hI0 hI1 hI4 h4 hbig hX0 hF0 lX0 lF0
    go_enter Try.func3, Try.ntmps3
    go_wp2_with fail
    refine (unhide HW).mono ?_
    rintro e w1 ⟨bits, fs, g, g', rfl, m1, m8, hfl, hr, hf, hg, hg', hb1⟩
    have HB1 := hide hb1
    have HL := hide (sWin_len bits 0)
    generalize sWin bits 0 = sW at *
    generalize bits.length = m at *
    have HFL := hide hfl
    have HR := hide hr
    have HF := hide hf
    clear hb1 HW hr hf hfl hg hg'
    have hW2 := (below_new (Below.refl w1.heap.size w1) (.cells #[.slice A0 n0 c0, .slice A1 n1 c1, .slice (some ⟨g, 0, none⟩) m m, .slice (some ⟨g', 0, none⟩) m m, .slice (some ⟨g, 0, none⟩) m m, .slice A1 n1 c1] 26))
    have hP : ∃ (X F : Nat → List Int) (PX PF : Nat → Option Addr) (nX nF cX cF : Nat → Nat), Prs (w1.alloc (.cells #[.slice A0 n0 c0, .slice A1 n1 c1, .slice (some ⟨g, 0, none⟩) m m, .slice (some ⟨g', 0, none⟩) m m, .slice (some ⟨g, 0, none⟩) m m, .slice A1 n1 c1] 26)) w1.heap.size X F PX PF nX nF cX cF := by
      have hx := ((unhide HX0).later (unhide HB1)).later hW2
      have hf := ((unhide HF0).later (unhide HB1)).later hW2
      have hw := ((unhide HR).nums (Nat.ne_of_lt (unhide HR).lt)).later hW2
      have hg := ((unhide HF).nums (Nat.ne_of_lt (unhide HF).lt)).later hW2
      refine ⟨pick3 X0 sW sW, pick3 F0 fs F0, pick3 A0 (some ⟨g, 0, none⟩) (some ⟨g, 0, none⟩), pick3 A1 (some ⟨g', 0, none⟩) A1, pick3 n0 m m, pick3 n1 m n1, pick3 c0 m m, pick3 c1 m c1, ?_, ?_, ?_, ?_, ?_, ?_, ?_⟩
      · intro k hk
        obtain h | h | h : k = 0 ∨ k = 1 ∨ k = 2 := by omega
        all_goals subst h; simp [go_sem, pick3]
      · intro k hk
        obtain h | h | h : k = 0 ∨ k = 1 ∨ k = 2 := by omega
        all_goals subst h; simp [go_sem, pick3]
      · intro k; unfold pick3; split
        · exact unhide HlX0
        · split <;> exact unhide HL
      · intro k; unfold pick3; split
        · exact unhide HlF0
        · split
          · exact unhide HFL
          · exact unhide HlF0
      · intro k; unfold pick3; split
        · exact hx
        · split <;> exact hw
      · intro k; unfold pick3; split
        · exact hf
        · split
          · exact hg
          · exact hf
      · intro k; unfold pick3; split
        · omega
        · split <;> omega
    obtain ⟨W2, hV⟩ : ∃ W2 : World, w1.alloc (.cells #[.slice A0 n0 c0, .slice A1 n1 c1, .slice (some ⟨g, 0, none⟩) m m, .slice (some ⟨g', 0, none⟩) m m, .slice (some ⟨g, 0, none⟩) m m, .slice A1 n1 c1] 26) = W2 := ⟨_, rfl⟩
    rw [hV] at hP hW2
    obtain ⟨X, F, PX, PF, nX, nF, cX, cF, hP⟩ := hP
    have HP := hide hP
    have HB2 := hide (onward (unhide HB1) hW2)
    clear hP hW2 HX0 HF0 HlX0 HlF0 HR HF HFL HL
    go_wp2
    generalize w1.heap.size = R at *
    clear hV
    go_loopw [48] (fun iv wr => ∃ k : Nat, k ≤ 3 ∧ iv = .int .i64 k ∧ Hid (Below W2.heap.size W2 wr)) (fun iv _ => 3 - (intOf iv).toNat)
    case atStart => exact ⟨0, by omega, rfl, Lib.hid (Below.refl _ _)⟩
    case round =>
      obtain ⟨k, hk, rfl, hb⟩ := hrel
      obtain ⟨wo, rfl⟩ : ∃ wo : World, wo = wr := ⟨_, rfl⟩
      have HBo := hide hb.out
      by_cases hlt : k < 3
      · have kl : (k : Int) < 3 := by omega
        have k0 : (0 : Int) ≤ (k : Int) := by omega
        have a0 := kept hb.out ((unhide HP).cx k hlt)
        have a1 := kept hb.out ((unhide HP).cf k hlt)
        have hx := ((unhide HP).hx k).later hb.out
        have hf := ((unhide HP).hf k).later hb.out
        have lx := (unhide HP).lx k
        have lf := (unhide HP).lf k
        have bx := (unhide HP).bx k
        generalize X k = xs at *
        generalize F k = fl at *
        generalize PX k = A at *
        generalize PF k = A' at *
        generalize nX k = n at *
        generalize nF k = n' at *
        generalize cX k = c at *
        generalize cF k = c' at *
        have bV := (Below.refl wo.heap.size wo).alloc (Nat.le_refl _) (.cells #[.slice A n c, .slice A' n' c'] 26)
        have vx := hx.later bV
        have vf := hf.later bV
        have l0 : (wo.alloc (.cells #[.slice A n c, .slice A' n' c'] 26)).cell? ⟨wo.heap.size, 0, none⟩ = some (.slice A n c) := by simp [go_sem]
        have l1 : (wo.alloc (.cells #[.slice A n c, .slice A' n' c'] 26)).cell? ⟨wo.heap.size, 1, none⟩ = some (.slice A' n' c') := by simp [go_sem]
        have HVX := hide vx
        have HVF := hide vf
        have HBV := hide bV
        have HLX := hide lx
        have HLF := hide lf
        clear hb hx hf lx lf vx vf bV
        obtain ⟨V, hV⟩ : ∃ V : World, wo.alloc (.cells #[.slice A n c, .slice A' n' c'] 26) = V := ⟨_, rfl⟩
        rw [hV] at l0 l1 HVX HVF HBV
        have HVS := hide (unhide HBV).size
        have HWS := hide (unhide HBo).size
        go_wp2_with fail
        generalize wo.heap.size = b at *
        refine (adv_q (unhide HLX) (unhide HLF) (by omega) (unhide HVX) (unhide HVF)).mono ?_
        rintro e w3 ⟨ga, rfl, _, hra, hb3⟩
        clear hV
        have p0 := kept hb3 l0
        have p1 := kept hb3 l1
        have HX3 := hide ((unhide HVX).later hb3)
        have HF3 := hide ((unhide HVF).later hb3)
        have HB3 := hide hb3
        have HRa := hide hra
        clear hb3 hra l0 l1 HVF
        go_wp2_with fail
        refine (radv_q (unhide HLX) (unhide HLF) (by omega) (unhide HX3) (unhide HF3)).mono ?_
        rintro e w4 ⟨gb, rfl, _, hrb, hb4⟩
        have q0 := kept hb4 p0
        have HX4 := hide ((unhide HX3).later hb4)
        have HB4 := hide (onward (unhide HB3) hb4)
        have HRa4 := hide ((unhide HRa).keep hb4)
        have HRb := hide hrb
        have hla : (sAdv xs fl op).1.length = n := by rw [sAdv_len]; exact unhide HLX
        have HLA := hide hla
        clear hb4 hrb p0 p1 hla HX3 HF3 HRa
        generalize (sAdv xs fl op).1 = la at *
        generalize (sAdv xs fl op).2 = lv at *
        go_wp2_with fail
        refine (push_q (unhide HLX) (by omega) (unhide HX4)).mono ?_
        rintro e w5 ⟨Ap, np, cp, rfl, hnp, hnm, hb5⟩
        have r0 := kept hb5 q0
        have HX5 := hide ((unhide HX4).later hb5)
        have HB5 := hide (onward (unhide HB4) hb5)
        have HRa5 := hide ((unhide HRa4).keep hb5)
        have HRb5 := hide ((unhide HRb).keep hb5)
        have HN5 := hide hnm
        have HNP := hide hnp
        clear hb5 hnm hnp q0 HX4 HRa4 HRb
        go_wp2_with fail
        refine (rpush_q (unhide HLX) (by omega) (unhide HX5)).mono ?_
        rintro e w6 ⟨Aq, nq, cq, rfl, hnq, hnm, hb6⟩
        have t0 := kept hb6 r0
        have HX6 := hide ((unhide HX5).later hb6)
        have HB6 := hide (onward (unhide HB5) hb6)
        have HRa6 := hide ((unhide HRa5).keep hb6)
        have HRb6 := hide ((unhide HRb5).keep hb6)
        have HN6 := hide ((unhide HN5).later hb6)
        have HM6 := hide hnm
        have HNQ := hide hnq
        clear hb6 hnm hnq r0 HX5 HRa5 HRb5 HN5
        have HIab := hide fun W (hb : Below w6.heap.size w6 W) => ints_q (c := n) (c' := n) (unhide HLA) (unhide HLA) (by omega) (((unhide HRa6).nums (Nat.ne_of_lt (unhide HRa6).lt)).later hb) (((unhide HRb6).nums (Nat.ne_of_lt (unhide HRb6).lt)).later hb)
        have hpl : np ≤ 1000000 := by
          have h1 := unhide HNP
          have h2 := unhide HLX
          unfold sPush at h1
          split at h1
          · simp at h1; omega
          · simp at h1; omega
        have HIcd := hide fun W (hb : Below w6.heap.size w6 W) => ints_q (c := cp) (c' := cq) (unhide HNP).symm (unhide HNQ).symm hpl ((unhide HN6).later hb) ((unhide HM6).later hb)
        have HFr := hide fun W (hb : Below w6.heap.size w6 W) => (free_q (c := c) (unhide HLX) (by omega) ((unhide HX6).later hb)).mono fun e W' (hq : e = .returned (.int .i64 (sFree xs : Int)) ∧ W = W') => (show e = .returned (.int .i64 (sFree xs : Int)) ∧ Below W.heap.size W W' from ⟨hq.1, by rw [← hq.2]; exact Below.refl _ _⟩)
        have HGr := hide fun W (hb : Below w6.heap.size w6 W) => (rfree_q (c := c) (unhide HLX) (by omega) ((unhide HX6).later hb)).mono fun e W' (hq : e = .returned (.int .i64 (sFree xs : Int)) ∧ W = W') => (show e = .returned (.int .i64 (sFree xs : Int)) ∧ Below W.heap.size W W' from ⟨hq.1, by rw [← hq.2]; exact Below.refl _ _⟩)
        have HBg := hide fun W (hb : Below w6.heap.size w6 W) => bags_q (c := c) (unhide HLX) (by omega) ((unhide HX6).later hb)
        have HCg := hide fun W (hb : Below w6.heap.size w6 W) => rbags_q (c := c) (unhide HLX) (by omega) ((unhide HX6).later hb)
        have hbl : (sBags xs).length ≤ 1000000 := by have := sBags_len xs; have := unhide HLX; omega
        generalize (sPush xs bag).isSome = ok at *
        generalize sFree xs = fr at *
        generalize sBags xs = bg at *
        have hb0 : Below w6.heap.size w6 w6.drew := (Below.refl _ _).drew
        have hs0 := kept hb0 t0
        clear HX6 HRa6 HRb6 HN6 HM6 HNP HNQ HLA HLX HLF hpl
        go_wp2_with fail
        go_region_held3 (fun Z => Below w6.heap.size w6 Z ∧ Z.cell? ⟨b, 0, none⟩ = some (.slice A n c))
          (first | exact ⟨hb0, hs0⟩ | exact pr_keep (by assumption) (by assumption))
          (first
            | (go_at_call 14; (first
                | ((with_reducible refine (unhide HIab _ (And.left (by assumption))).mono ?_); rintro e x1 ⟨rfl, hx1⟩)
                | ((with_reducible refine (unhide HIcd _ (And.left (by assumption))).mono ?_); rintro e x2 ⟨rfl, hx2⟩)
                | ((with_reducible refine (ints_same hbl (owns_later ho3 hx4) ho4 rfl).mono ?_); rintro e x5 ⟨rfl, hx5⟩)))
            | (go_at_call 15; refine (unhide HFr _ (And.left (by assumption))).mono ?_; rintro e x6 ⟨rfl, hx6⟩)
            | (go_at_call 16; refine (unhide HGr _ (And.left (by assumption))).mono ?_; rintro e x7 ⟨rfl, hx7⟩)
            | (go_at_call 17; refine (unhide HBg _ (And.left (by assumption))).mono ?_; rintro e x3 ⟨v3, rfl, ho3, hx3⟩; obtain ⟨P3, d3, rfl⟩ := own_form ho3)
            | (go_at_call 18; refine (unhide HCg _ (And.left (by assumption))).mono ?_; rintro e x4 ⟨v4, rfl, ho4, hx4⟩; obtain ⟨P4, d4, rfl⟩ := own_form ho4))
        rename_i hH
        have HB7 := hide (show Below W2.heap.size W2 _ from (unhide HBo).trans (((unhide HBV).trans ((onward (unhide HB6) hH.1).mono (unhide HVS))).mono (unhide HWS)))
        clear hH
        go_wp2
        go_roundw
        case rel => exact ⟨k + 1, by omega, by go_num, Lib.hid (unhide HB7)⟩
        case measure => simp [intOf]; omega
      · have kl : ¬ (k : Int) < 3 := by omega
        have HB3 := hide (onward (unhide HB2) hb.out)
        clear hb
        go_wp2_with fail
        refine (saw_any _).mono ?_
        rintro e w7 ⟨rfl, hb7⟩
        have HB7 := hide (onward (unhide HB3) hb7)
        clear hb7
        go_wp2
        go_ret
        exact ⟨rfl, unhide HB7⟩
end Go.Proofs.Ytfddpdognelhmaa
