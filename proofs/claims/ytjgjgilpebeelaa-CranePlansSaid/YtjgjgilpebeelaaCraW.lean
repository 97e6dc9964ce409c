/-
  Crane (layer 18): the library's symmetric merge, whole.
-/
import Derived.Test.YtjgjgilpebeelaaCraV
import Derived.Deep.CutRange
namespace Go.Proofs.Ytjgjgilpebeelaa
open Go.RowKit

set_option maxHeartbeats 4000000 in
set_option maxRecDepth 100000 in
theorem sym_mid_l (jobs : List Jb) (jb g c N : Nat) (A : Option Addr) (w0 : World) (a m b : Nat) (l : List Int) (w : World) (hcp : Cap jobs jb g A c w0) (hNj : N = jobs.length) (hN : N ≤ 1000000) (h : SrW w0 g N l w) (ham : a < m) (hmb : m < b) (hbN : b ≤ N)
    (h1 : Srt (lexR (dueJ jobs)) a m l) (h2 : Srt (lexR (dueJ jobs)) m b l) (hx : Crs a m b l) (hm1 : m ≠ a + 1) (hb1 : b ≠ m + 1) (hdm : (a + b) / 2 < m)
    (IH : ∀ (a' m' b' : Nat) (l' : List Int) (w' : World), b' - a' < b - a → b' ≤ N → SrW w0 g N l' w' → a' < m' → m' < b' → Srt (lexR (dueJ jobs)) a' m' l' → Srt (lexR (dueJ jobs)) m' b' l' → Crs a' m' b' l' →
      Calls Try.prog 47 #[.slice (some ⟨g, 0, none⟩) N N, .int .i64 a', .int .i64 m', .int .i64 b', bdV jb] w' (SymC jobs g N w0 a' b' l')) :
    Calls Try.prog 47 #[.slice (some ⟨g, 0, none⟩) N N, .int .i64 a, .int .i64 m, .int .i64 b, bdV jb] w (SymC jobs g N w0 a b l) := by
  have HCP := hide hcp
  have HNJ := hide hNj
  have H1 := hide h1
  have H2 := hide h2
  have HX := hide hx
  have HS0 := hide h
  have HIH := hide IH
  have HA := hide (show a < m ∧ m < b ∧ b ≤ N ∧ N ≤ 1000000 ∧ m ≠ a + 1 ∧ b ≠ m + 1 from ⟨ham, hmb, hbN, hN, hm1, hb1⟩)
  have mixed : Try.prog.follows .mixedOrders = true := by kernel_rfl
  have wma : IntKind.i64.wrap ((m : Int) - (a : Int)) = ((m - a : Nat) : Int) := by rw [IntKind.wrap_i64]; omega
  have qma : (((m - a : Nat) : Int) == 1) = false := by rw [beq_eq_false_iff_ne]; omega
  have wbm : IntKind.i64.wrap ((b : Int) - (m : Int)) = ((b - m : Nat) : Int) := by rw [IntKind.wrap_i64]; omega
  have qbm : (((b - m : Nat) : Int) == 1) = false := by rw [beq_eq_false_iff_ne]; omega
  clear hcp hNj h h1 h2 hx IH hm1 hb1
  go_enter Try.func47, Try.ntmps47
  obtain ⟨d, hd⟩ : ∃ d, (a + b) / 2 = d := ⟨_, rfl⟩
  rw [hd] at hdm
  obtain ⟨n, hn⟩ : ∃ n, d + m = n := ⟨_, rfl⟩
  obtain ⟨lo, hlo⟩ : ∃ lo, d + m - b = lo := ⟨_, rfl⟩
  have hlo2 : a ≤ lo ∧ n - lo ≤ b ∧ lo ≤ d := by omega
  have hhi2 : d ≤ m ∧ d ≤ d := by omega
  go_upto_if 140 with fail
  have hdI : ((a : Int) + (b : Int)) / 2 = (d : Int) := by omega
  have hnI : (d : Int) + (m : Int) = (n : Int) := by omega
  rw [hdI, hnI]
  have q0 : (d : Int) < (m : Int) := by omega
  have q1 : decide (d < m) = true := decide_eq_true (by omega)
  rw [show decide ((d : Int) < (m : Int)) = true from decide_eq_true q0]
  have wn : IntKind.i64.wrap ((n : Int) - (b : Int)) = (lo : Int) := by rw [IntKind.wrap_i64]; omega
  have HD := hide (show (a + b) / 2 = d ∧ d + m = n ∧ (if d < m then d + m - b else a) = lo ∧ (if d < m then d else m) = d from ⟨hd, hn, (show (if d < m then d + m - b else a) = lo from by rw [if_pos (by omega)]; omega), (show (if d < m then d else m) = d from by rw [if_pos (by omega)])⟩)
  clear wma qma wbm qbm hd hdI hnI hdm hlo
  obtain ⟨p, hp⟩ : ∃ p, n - 1 = p := ⟨_, rfl⟩
  have wp : IntKind.i64.wrap ((n : Int) - 1) = (p : Int) := by rw [IntKind.wrap_i64]; omega
  have HP := hide hp
  have HN := hide hn
  clear hn hp
  go_wp2_with fail
  go_loopw [20, 21] (fun s1 s2 wr => ∃ (i j : Nat), s1 = .int .i64 i ∧ s2 = .int .i64 j ∧ lo ≤ i ∧ i ≤ j ∧ j ≤ d ∧ Hid (SrW w0 g N l wr) ∧ Hid ((i = lo ∨ lexR (dueJ jobs) (l.getD (i - 1) 0) (l.getD (n - i) 0)) ∧ (j = d ∨ lexR (dueJ jobs) (l.getD (p - j) 0) (l.getD j 0)))) (fun s1 s2 _ => (intOf s2).toNat - (intOf s1).toNat)
  case atStart => exact ⟨lo, d, rfl, rfl, Nat.le_refl _, hlo2.2.2, Nat.le_refl _, HS0, hide ⟨.inl rfl, .inl rfl⟩⟩
  case round =>
    clear HS0
    obtain ⟨i, j, rfl, rfl, hi1, hij, hj1, HS, HI⟩ := hrel
    obtain ⟨wo, rfl⟩ : ∃ wo : World, wo = wr := ⟨_, rfl⟩
    have hnm := unhide HN
    have hnp := unhide HP
    by_cases hlt : i < j
    · have il : (i : Int) < (j : Int) := by omega
      obtain ⟨q, hq⟩ : ∃ q, p - (i + j) / 2 = q := ⟨_, rfl⟩
      have wq : IntKind.i64.wrap ((p : Int) - ((i : Int) + (j : Int)) / 2) = (q : Int) := by rw [IntKind.wrap_i64]; omega
      have wq' : IntKind.i64.wrap ((p : Int) - (((i + j) / 2 : Nat) : Int)) = (q : Int) := by rw [IntKind.wrap_i64]; omega
      have hhN : (i + j) / 2 < N := by omega
      have hqN : q < N := by omega
      have hNI : (((i + j) / 2 : Nat) : Int) < (N : Int) := by omega
      have hNI' : ((i : Int) + (j : Int)) / 2 < (N : Int) := by omega
      have hqI : (q : Int) < (N : Int) := by omega
      have c1 := After.cell ((unhide HS).cell hqN)
      have c2 := After.cell ((unhide HS).cell hhN)
      have HC := hide (fun t => (unhide HS).ask (unhide HCP) (unhide HNJ) (i := q) (j := (i + j) / 2) hqN hhN t)
      have HG := hide (cmp_neg (dueJ jobs (l.getD q 0)) (dueJ jobs (l.getD ((i + j) / 2) 0)))
      have HW := hide (fun W (hb : Below wo.heap.size wo W) => (unhide HS).below hb)
      have HT := hide (show ¬ dueJ jobs (l.getD q 0) < dueJ jobs (l.getD ((i + j) / 2) 0) → lexR (dueJ jobs) (l.getD ((i + j) / 2 + 1 - 1) 0) (l.getD (n - ((i + j) / 2 + 1)) 0) from fun h9 => by
        rw [show n - ((i + j) / 2 + 1) = q by omega]
        exact (lex_ge (unhide HX ((i + j) / 2) q (by omega) (by omega) (by omega) (by omega))).2 h9)
      have HF := hide (show dueJ jobs (l.getD q 0) < dueJ jobs (l.getD ((i + j) / 2) 0) → lexR (dueJ jobs) (l.getD (p - (i + j) / 2) 0) (l.getD ((i + j) / 2) 0) from fun h9 => by rw [hq]; exact .inl h9)
      obtain ⟨cv, hcv⟩ : ∃ cv, Lib.compareInt (dueJ jobs (l.getD q 0)) (dueJ jobs (l.getD ((i + j) / 2) 0)) = cv := ⟨_, rfl⟩
      rw [hcv] at HC HG
      have HC := hide (unhide HC)
      have HG := hide (unhide HG)
      obtain ⟨x, hx⟩ : ∃ x, l.getD q 0 = x := ⟨_, rfl⟩
      obtain ⟨y, hy⟩ : ∃ y, l.getD ((i + j) / 2) 0 = y := ⟨_, rfl⟩
      rw [hx] at c1 HC
      rw [hy] at c2 HC
      have HC := hide (unhide HC)
      clear hcv hhN hqN hx hy hq hnm hnp
      by_cases hd : dueJ jobs (l.getD q 0) < dueJ jobs (l.getD ((i + j) / 2) 0)
      · have hv : decide (cv < 0) = true := by rw [unhide HG]; exact decide_eq_true hd
        have hv' : cv < 0 := of_decide_eq_true hv
        have HN := hide (unhide HF hd)
        clear hd HG HT HF
        go_wp2_with fail
        refine wp_region_after (by kernel_rfl) (by kernel_rfl) ?_
        repeat (go_big_quiet_step ((first | (go_at_call 41; exact After.call (unhide HC _)))))
        refine wpQuiet_nil ?_
        rintro _ ⟨t, rfl⟩
        clear c1 c2
        have HW2 := hide (unhide HW t.to t.is)
        generalize t.to = w2 at HW2 ⊢
        clear HC HW t
        go_wp2
        go_roundw
        case rel => exact ⟨i, (i + j) / 2, rfl, by go_num, hi1, by omega, by omega, HW2, hide ⟨(unhide HI).1, .inr (unhide HN)⟩⟩
        case measure => simp [intOf]; omega
      · have hv : decide (cv < 0) = false := by rw [unhide HG]; exact decide_eq_false hd
        have hv' : ¬ cv < 0 := of_decide_eq_false hv
        have HN := hide (unhide HT hd)
        clear hd HG HT HF
        go_wp2_with fail
        refine wp_region_after (by kernel_rfl) (by kernel_rfl) ?_
        repeat (go_big_quiet_step ((first | (go_at_call 41; exact After.call (unhide HC _)))))
        refine wpQuiet_nil ?_
        rintro _ ⟨t, rfl⟩
        clear c1 c2
        have HW2 := hide (unhide HW t.to t.is)
        generalize t.to = w2 at HW2 ⊢
        clear HC HW t
        go_wp2
        go_roundw
        case rel => exact ⟨(i + j) / 2 + 1, j, by go_num, rfl, by omega, by omega, hj1, HW2, hide ⟨.inr (unhide HN), (unhide HI).2⟩⟩
        case measure => simp [intOf]; omega
    · obtain rfl : i = j := by omega
      have il : ¬ (i : Int) < (i : Int) := by omega
      obtain ⟨e, he⟩ : ∃ e, n - i = e := ⟨_, rfl⟩
      have we : IntKind.i64.wrap ((n : Int) - (i : Int)) = (e : Int) := by rw [IntKind.wrap_i64]; omega
      have HM := hide (show a ≤ i ∧ i ≤ m ∧ m ≤ e ∧ e ≤ b ∧ i ≤ d ∧ d ≤ e ∧ (∀ x y, a ≤ x → x < i → e ≤ y → y < b → lexR (dueJ jobs) (l.getD x 0) (l.getD y 0)) ∧ (∀ x y, i ≤ x → x < m → m ≤ y → y < e → lexR (dueJ jobs) (l.getD y 0) (l.getD x 0)) from by
        obtain ⟨d1, _, d3, d4⟩ := unhide HD
        have d5 := unhide HP
        have d2 := unhide HN
        subst d5; subst d2; subst he
        exact mid_ends (unhide H1) (unhide H2) d1.symm ham hmb d3.symm d4.symm ⟨hi1, hj1⟩ (unhide HI).1 (unhide HI).2)
      have hde : i + (e - m) = d := by have := unhide HM; omega
      have hin : a ≤ i ∧ i ≤ m ∧ m ≤ e ∧ e ≤ b ∧ i ≤ d ∧ d ≤ e := by have := unhide HM; omega
      have hln : d - a < b - a ∧ d ≤ N ∧ b - d < b - a := by have := (unhide HD).1; omega
      clear he hnm hnp hi1 hj1 HI hlo2 hhi2
      have HROT := hide (rot_any w0 g N a b i m e l (bdV jb) wo hN (unhide HS) hin.1)
      have HR4 := hide (fun (l1 : List Int) (hr : ∀ k, l1.getD k 0 = l.getD (rotI i m e k) 0) => hde ▸ rot_four hin.1 hin.2.1 hin.2.2.1 hin.2.2.2.1 hr (unhide H1) (unhide H2) (unhide HX) (unhide HM).2.2.2.2.2.2.1 (unhide HM).2.2.2.2.2.2.2)
      by_cases him : i < m
      · by_cases hme : m < e
        · by_cases hai : a < i
          · by_cases heb : e < b
            · have qg1 : (i : Int) < (m : Int) := by omega
              have qg2 : (m : Int) < (e : Int) := by omega
              have qg3 : (a : Int) < (i : Int) := by omega
              have qg4 : (i : Int) < (d : Int) := by omega
              have qg5 : (d : Int) < (e : Int) := by omega
              have qg6 : (e : Int) < (b : Int) := by omega
              have HRO := hide (unhide HROT (by omega) (by omega) hin.2.2.2.1 hbN)
              go_wp2_with (first
                | (go_at_call 47; refine (unhide HI2).mono ?_; rintro e' w5 ⟨rfl, l3, hs3, hm3, hr3⟩; have HZ3 := hide (show SrW w0 g N l3 w5 ∧ Mov a b l l3 ∧ Srt (lexR (dueJ jobs)) a b l3 from ⟨hs3, (unhide HZ1).2.1.trans (four_end (by omega) (by omega) (unhide HZ1).2.2.ah (unhide HZ2).2.1 (unhide HZ2).2.2 hm3 hr3).1, (four_end (by omega) (by omega) (unhide HZ1).2.2.ah (unhide HZ2).2.1 (unhide HZ2).2.2 hm3 hr3).2⟩); clear hs3 hm3 hr3)
                | (go_at_call 47; refine (unhide HI1).mono ?_; rintro e' w4 ⟨rfl, l2, hs2, hm2, hr2⟩; have HZ2 := hide (show SrW w0 g N l2 w4 ∧ Mov a d l1 l2 ∧ Srt (lexR (dueJ jobs)) a d l2 from ⟨hs2, hm2, hr2⟩); clear hs2 hm2 hr2; have HI2 := hide (unhide HIH d e b l2 w4 hln.2.2 hbN (unhide HZ2).1 (by omega) (by omega) ((unhide HZ1).2.2.s3.eq fun k h8 _ => (unhide HZ2).2.1.out k (.inr h8)) ((unhide HZ1).2.2.s4.eq fun k h8 _ => (unhide HZ2).2.1.out k (.inr (by omega))) (fun x y x1 x2 y1 y2 => by rw [(unhide HZ2).2.1.out x (.inr x1), (unhide HZ2).2.1.out y (.inr (by omega))]; exact (unhide HZ1).2.2.c2 x y x1 x2 y1 y2)))
                | (go_at_call 48; refine (unhide HRO).mono ?_; rintro e' w3 ⟨rfl, l1, hs1, hm1, hr1⟩; have HZ1 := hide (show SrW w0 g N l1 w3 ∧ Mov a b l l1 ∧ RotS (dueJ jobs) a i d e b l1 from ⟨hs1, hm1, unhide HR4 l1 hr1⟩); clear hs1 hm1 hr1; have HI1 := hide (unhide HIH a i d l1 w3 hln.1 hln.2.1 (unhide HZ1).1 (by omega) (by omega) (unhide HZ1).2.2.s1 (unhide HZ1).2.2.s2 (unhide HZ1).2.2.c1)))
              all_goals (go_end0; exact ⟨rfl, _, unhide HZ3⟩)
            · have qg1 : (i : Int) < (m : Int) := by omega
              have qg2 : (m : Int) < (e : Int) := by omega
              have qg3 : (a : Int) < (i : Int) := by omega
              have qg4 : (i : Int) < (d : Int) := by omega
              have qg5 : (d : Int) < (e : Int) := by omega
              have qg6 : ¬ (e : Int) < (b : Int) := by omega
              have HRO := hide (unhide HROT (by omega) (by omega) hin.2.2.2.1 hbN)
              go_wp2_with (first
                | (go_at_call 47; refine (unhide HI1).mono ?_; rintro e' w4 ⟨rfl, l2, hs2, hm2, hr2⟩; have HZ2 := hide (show SrW w0 g N l2 w4 ∧ Mov a d l1 l2 ∧ Srt (lexR (dueJ jobs)) a d l2 from ⟨hs2, hm2, hr2⟩); clear hs2 hm2 hr2; have HZ3 := hide (show SrW w0 g N l2 w4 ∧ Mov a b l l2 ∧ Srt (lexR (dueJ jobs)) a b l2 from ⟨(unhide HZ2).1, (unhide HZ1).2.1.trans (four_end (by omega) (by omega) (unhide HZ1).2.2.ah (unhide HZ2).2.1 (unhide HZ2).2.2 (Mov.refl _ _ _) (((unhide HZ1).2.2.s3.join (unhide HZ1).2.2.s4 (fun x y x1 x2 y1 y2 => by omega)).eq fun k h8 _ => (unhide HZ2).2.1.out k (.inr h8))).1, (four_end (by omega) (by omega) (unhide HZ1).2.2.ah (unhide HZ2).2.1 (unhide HZ2).2.2 (Mov.refl _ _ _) (((unhide HZ1).2.2.s3.join (unhide HZ1).2.2.s4 (fun x y x1 x2 y1 y2 => by omega)).eq fun k h8 _ => (unhide HZ2).2.1.out k (.inr h8))).2⟩))
                | (go_at_call 48; refine (unhide HRO).mono ?_; rintro e' w3 ⟨rfl, l1, hs1, hm1, hr1⟩; have HZ1 := hide (show SrW w0 g N l1 w3 ∧ Mov a b l l1 ∧ RotS (dueJ jobs) a i d e b l1 from ⟨hs1, hm1, unhide HR4 l1 hr1⟩); clear hs1 hm1 hr1; have HI1 := hide (unhide HIH a i d l1 w3 hln.1 hln.2.1 (unhide HZ1).1 (by omega) (by omega) (unhide HZ1).2.2.s1 (unhide HZ1).2.2.s2 (unhide HZ1).2.2.c1)))
              all_goals (go_end0; exact ⟨rfl, _, unhide HZ3⟩)
          · by_cases heb : e < b
            · have qg1 : (i : Int) < (m : Int) := by omega
              have qg2 : (m : Int) < (e : Int) := by omega
              have qg3 : ¬ (a : Int) < (i : Int) := by omega
              have qg5 : (d : Int) < (e : Int) := by omega
              have qg6 : (e : Int) < (b : Int) := by omega
              have HRO := hide (unhide HROT (by omega) (by omega) hin.2.2.2.1 hbN)
              go_wp2_with (first
                | (go_at_call 47; refine (unhide HI2).mono ?_; rintro e' w5 ⟨rfl, l3, hs3, hm3, hr3⟩; have HZ3 := hide (show SrW w0 g N l3 w5 ∧ Mov a b l l3 ∧ Srt (lexR (dueJ jobs)) a b l3 from ⟨hs3, (unhide HZ1).2.1.trans (four_end (by omega) (by omega) (unhide HZ1).2.2.ah (unhide HZ2).2.1 (unhide HZ2).2.2 hm3 hr3).1, (four_end (by omega) (by omega) (unhide HZ1).2.2.ah (unhide HZ2).2.1 (unhide HZ2).2.2 hm3 hr3).2⟩); clear hs3 hm3 hr3)
                | (go_at_call 48; refine (unhide HRO).mono ?_; rintro e' w3 ⟨rfl, l1, hs1, hm1, hr1⟩; have HZ1 := hide (show SrW w0 g N l1 w3 ∧ Mov a b l l1 ∧ RotS (dueJ jobs) a i d e b l1 from ⟨hs1, hm1, unhide HR4 l1 hr1⟩); clear hs1 hm1 hr1; have HZ2 := hide (show SrW w0 g N l1 w3 ∧ Mov a d l1 l1 ∧ Srt (lexR (dueJ jobs)) a d l1 from ⟨(unhide HZ1).1, Mov.refl _ _ _, (unhide HZ1).2.2.s1.join (unhide HZ1).2.2.s2 (fun x y x1 x2 y1 y2 => by omega)⟩); have HI2 := hide (unhide HIH d e b l1 w3 hln.2.2 hbN (unhide HZ2).1 (by omega) (by omega) ((unhide HZ1).2.2.s3.eq fun k h8 _ => (unhide HZ2).2.1.out k (.inr h8)) ((unhide HZ1).2.2.s4.eq fun k h8 _ => (unhide HZ2).2.1.out k (.inr (by omega))) (fun x y x1 x2 y1 y2 => by rw [(unhide HZ2).2.1.out x (.inr x1), (unhide HZ2).2.1.out y (.inr (by omega))]; exact (unhide HZ1).2.2.c2 x y x1 x2 y1 y2))))
              all_goals (go_end0; exact ⟨rfl, _, unhide HZ3⟩)
            · have qg1 : (i : Int) < (m : Int) := by omega
              have qg2 : (m : Int) < (e : Int) := by omega
              have qg3 : ¬ (a : Int) < (i : Int) := by omega
              have qg5 : (d : Int) < (e : Int) := by omega
              have qg6 : ¬ (e : Int) < (b : Int) := by omega
              have HRO := hide (unhide HROT (by omega) (by omega) hin.2.2.2.1 hbN)
              go_wp2_with (first
                | (go_at_call 48; refine (unhide HRO).mono ?_; rintro e' w3 ⟨rfl, l1, hs1, hm1, hr1⟩; have HZ1 := hide (show SrW w0 g N l1 w3 ∧ Mov a b l l1 ∧ RotS (dueJ jobs) a i d e b l1 from ⟨hs1, hm1, unhide HR4 l1 hr1⟩); clear hs1 hm1 hr1; have HZ2 := hide (show SrW w0 g N l1 w3 ∧ Mov a d l1 l1 ∧ Srt (lexR (dueJ jobs)) a d l1 from ⟨(unhide HZ1).1, Mov.refl _ _ _, (unhide HZ1).2.2.s1.join (unhide HZ1).2.2.s2 (fun x y x1 x2 y1 y2 => by omega)⟩); have HZ3 := hide (show SrW w0 g N l1 w3 ∧ Mov a b l l1 ∧ Srt (lexR (dueJ jobs)) a b l1 from ⟨(unhide HZ2).1, (unhide HZ1).2.1.trans (four_end (by omega) (by omega) (unhide HZ1).2.2.ah (unhide HZ2).2.1 (unhide HZ2).2.2 (Mov.refl _ _ _) (((unhide HZ1).2.2.s3.join (unhide HZ1).2.2.s4 (fun x y x1 x2 y1 y2 => by omega)).eq fun k h8 _ => (unhide HZ2).2.1.out k (.inr h8))).1, (four_end (by omega) (by omega) (unhide HZ1).2.2.ah (unhide HZ2).2.1 (unhide HZ2).2.2 (Mov.refl _ _ _) (((unhide HZ1).2.2.s3.join (unhide HZ1).2.2.s4 (fun x y x1 x2 y1 y2 => by omega)).eq fun k h8 _ => (unhide HZ2).2.1.out k (.inr h8))).2⟩)))
              all_goals (go_end0; exact ⟨rfl, _, unhide HZ3⟩)
        · by_cases hai : a < i
          · have qg1 : (i : Int) < (m : Int) := by omega
            have qg2 : ¬ (m : Int) < (e : Int) := by omega
            have qg3 : (a : Int) < (i : Int) := by omega
            have qg4 : ¬ (i : Int) < (d : Int) := by omega
            have qg5 : (d : Int) < (e : Int) := by omega
            have qg6 : (e : Int) < (b : Int) := by omega
            have HZ1 := hide (show SrW w0 g N l wo ∧ Mov a b l l ∧ RotS (dueJ jobs) a i d e b l from ⟨unhide HS, Mov.refl _ _ _, unhide HR4 l (fun k => by
              rcases Nat.lt_or_ge i m with c | c
              · obtain rfl : m = e := by omega
                rw [rotI_none]
              · obtain rfl : i = m := by omega
                rw [rotI_none'])⟩)
            have HZ2 := hide (show SrW w0 g N l wo ∧ Mov a d l l ∧ Srt (lexR (dueJ jobs)) a d l from ⟨(unhide HZ1).1, Mov.refl _ _ _, (unhide HZ1).2.2.s1.join (unhide HZ1).2.2.s2 (fun x y x1 x2 y1 y2 => by omega)⟩)
            have HI2 := hide (unhide HIH d e b l wo hln.2.2 hbN (unhide HZ2).1 (by omega) (by omega) ((unhide HZ1).2.2.s3.eq fun k h8 _ => (unhide HZ2).2.1.out k (.inr h8)) ((unhide HZ1).2.2.s4.eq fun k h8 _ => (unhide HZ2).2.1.out k (.inr (by omega))) (fun x y x1 x2 y1 y2 => by rw [(unhide HZ2).2.1.out x (.inr x1), (unhide HZ2).2.1.out y (.inr (by omega))]; exact (unhide HZ1).2.2.c2 x y x1 x2 y1 y2))
            go_wp2_with (first
              | (go_at_call 47; refine (unhide HI2).mono ?_; rintro e' w5 ⟨rfl, l3, hs3, hm3, hr3⟩; have HZ3 := hide (show SrW w0 g N l3 w5 ∧ Mov a b l l3 ∧ Srt (lexR (dueJ jobs)) a b l3 from ⟨hs3, (unhide HZ1).2.1.trans (four_end (by omega) (by omega) (unhide HZ1).2.2.ah (unhide HZ2).2.1 (unhide HZ2).2.2 hm3 hr3).1, (four_end (by omega) (by omega) (unhide HZ1).2.2.ah (unhide HZ2).2.1 (unhide HZ2).2.2 hm3 hr3).2⟩); clear hs3 hm3 hr3))
            all_goals (go_end0; exact ⟨rfl, _, unhide HZ3⟩)
          · have qg1 : (i : Int) < (m : Int) := by omega
            have qg2 : ¬ (m : Int) < (e : Int) := by omega
            have qg3 : ¬ (a : Int) < (i : Int) := by omega
            have qg5 : (d : Int) < (e : Int) := by omega
            have qg6 : (e : Int) < (b : Int) := by omega
            have HZ1 := hide (show SrW w0 g N l wo ∧ Mov a b l l ∧ RotS (dueJ jobs) a i d e b l from ⟨unhide HS, Mov.refl _ _ _, unhide HR4 l (fun k => by
              rcases Nat.lt_or_ge i m with c | c
              · obtain rfl : m = e := by omega
                rw [rotI_none]
              · obtain rfl : i = m := by omega
                rw [rotI_none'])⟩)
            have HZ2 := hide (show SrW w0 g N l wo ∧ Mov a d l l ∧ Srt (lexR (dueJ jobs)) a d l from ⟨(unhide HZ1).1, Mov.refl _ _ _, (unhide HZ1).2.2.s1.join (unhide HZ1).2.2.s2 (fun x y x1 x2 y1 y2 => by omega)⟩)
            have HI2 := hide (unhide HIH d e b l wo hln.2.2 hbN (unhide HZ2).1 (by omega) (by omega) ((unhide HZ1).2.2.s3.eq fun k h8 _ => (unhide HZ2).2.1.out k (.inr h8)) ((unhide HZ1).2.2.s4.eq fun k h8 _ => (unhide HZ2).2.1.out k (.inr (by omega))) (fun x y x1 x2 y1 y2 => by rw [(unhide HZ2).2.1.out x (.inr x1), (unhide HZ2).2.1.out y (.inr (by omega))]; exact (unhide HZ1).2.2.c2 x y x1 x2 y1 y2))
            go_wp2_with (first
              | (go_at_call 47; refine (unhide HI2).mono ?_; rintro e' w5 ⟨rfl, l3, hs3, hm3, hr3⟩; have HZ3 := hide (show SrW w0 g N l3 w5 ∧ Mov a b l l3 ∧ Srt (lexR (dueJ jobs)) a b l3 from ⟨hs3, (unhide HZ1).2.1.trans (four_end (by omega) (by omega) (unhide HZ1).2.2.ah (unhide HZ2).2.1 (unhide HZ2).2.2 hm3 hr3).1, (four_end (by omega) (by omega) (unhide HZ1).2.2.ah (unhide HZ2).2.1 (unhide HZ2).2.2 hm3 hr3).2⟩); clear hs3 hm3 hr3))
            all_goals (go_end0; exact ⟨rfl, _, unhide HZ3⟩)
      · by_cases hme : m < e
        · have qg1 : ¬ (i : Int) < (m : Int) := by omega
          have qg3 : (a : Int) < (i : Int) := by omega
          have qg4 : (i : Int) < (d : Int) := by omega
          have qg5 : ¬ (d : Int) < (e : Int) := by omega
          have HZ1 := hide (show SrW w0 g N l wo ∧ Mov a b l l ∧ RotS (dueJ jobs) a i d e b l from ⟨unhide HS, Mov.refl _ _ _, unhide HR4 l (fun k => by
            rcases Nat.lt_or_ge i m with c | c
            · obtain rfl : m = e := by omega
              rw [rotI_none]
            · obtain rfl : i = m := by omega
              rw [rotI_none'])⟩)
          have HI1 := hide (unhide HIH a i d l wo hln.1 hln.2.1 (unhide HZ1).1 (by omega) (by omega) (unhide HZ1).2.2.s1 (unhide HZ1).2.2.s2 (unhide HZ1).2.2.c1)
          go_wp2_with (first
            | (go_at_call 47; refine (unhide HI1).mono ?_; rintro e' w4 ⟨rfl, l2, hs2, hm2, hr2⟩; have HZ2 := hide (show SrW w0 g N l2 w4 ∧ Mov a d l l2 ∧ Srt (lexR (dueJ jobs)) a d l2 from ⟨hs2, hm2, hr2⟩); clear hs2 hm2 hr2; have HZ3 := hide (show SrW w0 g N l2 w4 ∧ Mov a b l l2 ∧ Srt (lexR (dueJ jobs)) a b l2 from ⟨(unhide HZ2).1, (unhide HZ1).2.1.trans (four_end (by omega) (by omega) (unhide HZ1).2.2.ah (unhide HZ2).2.1 (unhide HZ2).2.2 (Mov.refl _ _ _) (((unhide HZ1).2.2.s3.join (unhide HZ1).2.2.s4 (fun x y x1 x2 y1 y2 => by omega)).eq fun k h8 _ => (unhide HZ2).2.1.out k (.inr h8))).1, (four_end (by omega) (by omega) (unhide HZ1).2.2.ah (unhide HZ2).2.1 (unhide HZ2).2.2 (Mov.refl _ _ _) (((unhide HZ1).2.2.s3.join (unhide HZ1).2.2.s4 (fun x y x1 x2 y1 y2 => by omega)).eq fun k h8 _ => (unhide HZ2).2.1.out k (.inr h8))).2⟩)))
          all_goals (go_end0; exact ⟨rfl, _, unhide HZ3⟩)
        · have qg1 : ¬ (i : Int) < (m : Int) := by omega
          have qg3 : (a : Int) < (i : Int) := by omega
          have qg4 : ¬ (i : Int) < (d : Int) := by omega
          have qg5 : ¬ (d : Int) < (e : Int) := by omega
          have HZ1 := hide (show SrW w0 g N l wo ∧ Mov a b l l ∧ RotS (dueJ jobs) a i d e b l from ⟨unhide HS, Mov.refl _ _ _, unhide HR4 l (fun k => by
            rcases Nat.lt_or_ge i m with c | c
            · obtain rfl : m = e := by omega
              rw [rotI_none]
            · obtain rfl : i = m := by omega
              rw [rotI_none'])⟩)
          have HZ2 := hide (show SrW w0 g N l wo ∧ Mov a d l l ∧ Srt (lexR (dueJ jobs)) a d l from ⟨(unhide HZ1).1, Mov.refl _ _ _, (unhide HZ1).2.2.s1.join (unhide HZ1).2.2.s2 (fun x y x1 x2 y1 y2 => by omega)⟩)
          have HZ3 := hide (show SrW w0 g N l wo ∧ Mov a b l l ∧ Srt (lexR (dueJ jobs)) a b l from ⟨(unhide HZ2).1, (unhide HZ1).2.1.trans (four_end (by omega) (by omega) (unhide HZ1).2.2.ah (unhide HZ2).2.1 (unhide HZ2).2.2 (Mov.refl _ _ _) (((unhide HZ1).2.2.s3.join (unhide HZ1).2.2.s4 (fun x y x1 x2 y1 y2 => by omega)).eq fun k h8 _ => (unhide HZ2).2.1.out k (.inr h8))).1, (four_end (by omega) (by omega) (unhide HZ1).2.2.ah (unhide HZ2).2.1 (unhide HZ2).2.2 (Mov.refl _ _ _) (((unhide HZ1).2.2.s3.join (unhide HZ1).2.2.s4 (fun x y x1 x2 y1 y2 => by omega)).eq fun k h8 _ => (unhide HZ2).2.1.out k (.inr h8))).2⟩)
          go_wp2_with fail
          all_goals (go_end0; exact ⟨rfl, _, unhide HZ3⟩)
set_option maxHeartbeats 4000000 in
set_option maxRecDepth 100000 in
theorem sym_mid_r (jobs : List Jb) (jb g c N : Nat) (A : Option Addr) (w0 : World) (a m b : Nat) (l : List Int) (w : World) (hcp : Cap jobs jb g A c w0) (hNj : N = jobs.length) (hN : N ≤ 1000000) (h : SrW w0 g N l w) (ham : a < m) (hmb : m < b) (hbN : b ≤ N)
    (h1 : Srt (lexR (dueJ jobs)) a m l) (h2 : Srt (lexR (dueJ jobs)) m b l) (hx : Crs a m b l) (hm1 : m ≠ a + 1) (hb1 : b ≠ m + 1) (hdm : ¬ (a + b) / 2 < m)
    (IH : ∀ (a' m' b' : Nat) (l' : List Int) (w' : World), b' - a' < b - a → b' ≤ N → SrW w0 g N l' w' → a' < m' → m' < b' → Srt (lexR (dueJ jobs)) a' m' l' → Srt (lexR (dueJ jobs)) m' b' l' → Crs a' m' b' l' →
      Calls Try.prog 47 #[.slice (some ⟨g, 0, none⟩) N N, .int .i64 a', .int .i64 m', .int .i64 b', bdV jb] w' (SymC jobs g N w0 a' b' l')) :
    Calls Try.prog 47 #[.slice (some ⟨g, 0, none⟩) N N, .int .i64 a, .int .i64 m, .int .i64 b, bdV jb] w (SymC jobs g N w0 a b l) := by
  have HCP := hide hcp
  have HNJ := hide hNj
  have H1 := hide h1
  have H2 := hide h2
  have HX := hide hx
  have HS0 := hide h
  have HIH := hide IH
  have HA := hide (show a < m ∧ m < b ∧ b ≤ N ∧ N ≤ 1000000 ∧ m ≠ a + 1 ∧ b ≠ m + 1 from ⟨ham, hmb, hbN, hN, hm1, hb1⟩)
  have mixed : Try.prog.follows .mixedOrders = true := by kernel_rfl
  have wma : IntKind.i64.wrap ((m : Int) - (a : Int)) = ((m - a : Nat) : Int) := by rw [IntKind.wrap_i64]; omega
  have qma : (((m - a : Nat) : Int) == 1) = false := by rw [beq_eq_false_iff_ne]; omega
  have wbm : IntKind.i64.wrap ((b : Int) - (m : Int)) = ((b - m : Nat) : Int) := by rw [IntKind.wrap_i64]; omega
  have qbm : (((b - m : Nat) : Int) == 1) = false := by rw [beq_eq_false_iff_ne]; omega
  clear hcp hNj h h1 h2 hx IH hm1 hb1
  go_enter Try.func47, Try.ntmps47
  obtain ⟨d, hd⟩ : ∃ d, (a + b) / 2 = d := ⟨_, rfl⟩
  rw [hd] at hdm
  obtain ⟨n, hn⟩ : ∃ n, d + m = n := ⟨_, rfl⟩
  have hlo2 : a ≤ a ∧ n - a ≤ b ∧ a ≤ m := by omega
  have hhi2 : m ≤ m ∧ m ≤ d := by omega
  go_upto_if 140 with fail
  have hdI : ((a : Int) + (b : Int)) / 2 = (d : Int) := by omega
  have hnI : (d : Int) + (m : Int) = (n : Int) := by omega
  rw [hdI, hnI]
  have q0 : ¬ (d : Int) < (m : Int) := by omega
  have q1 : decide (d < m) = false := decide_eq_false (by omega)
  have HD := hide (show (a + b) / 2 = d ∧ d + m = n ∧ (if d < m then d + m - b else a) = a ∧ (if d < m then d else m) = m from ⟨hd, hn, (show (if d < m then d + m - b else a) = a from by rw [if_neg (by omega)]), (show (if d < m then d else m) = m from by rw [if_neg (by omega)])⟩)
  clear wma qma wbm qbm hd hdI hnI hdm
  obtain ⟨p, hp⟩ : ∃ p, n - 1 = p := ⟨_, rfl⟩
  have wp : IntKind.i64.wrap ((n : Int) - 1) = (p : Int) := by rw [IntKind.wrap_i64]; omega
  have HP := hide hp
  have HN := hide hn
  clear hn hp
  go_wp2_with fail
  go_loopw [20, 21] (fun s1 s2 wr => ∃ (i j : Nat), s1 = .int .i64 i ∧ s2 = .int .i64 j ∧ a ≤ i ∧ i ≤ j ∧ j ≤ m ∧ Hid (SrW w0 g N l wr) ∧ Hid ((i = a ∨ lexR (dueJ jobs) (l.getD (i - 1) 0) (l.getD (n - i) 0)) ∧ (j = m ∨ lexR (dueJ jobs) (l.getD (p - j) 0) (l.getD j 0)))) (fun s1 s2 _ => (intOf s2).toNat - (intOf s1).toNat)
  case atStart => exact ⟨a, m, rfl, rfl, Nat.le_refl _, hlo2.2.2, Nat.le_refl _, HS0, hide ⟨.inl rfl, .inl rfl⟩⟩
  case round =>
    clear HS0
    obtain ⟨i, j, rfl, rfl, hi1, hij, hj1, HS, HI⟩ := hrel
    obtain ⟨wo, rfl⟩ : ∃ wo : World, wo = wr := ⟨_, rfl⟩
    have hnm := unhide HN
    have hnp := unhide HP
    by_cases hlt : i < j
    · have il : (i : Int) < (j : Int) := by omega
      obtain ⟨q, hq⟩ : ∃ q, p - (i + j) / 2 = q := ⟨_, rfl⟩
      have wq : IntKind.i64.wrap ((p : Int) - ((i : Int) + (j : Int)) / 2) = (q : Int) := by rw [IntKind.wrap_i64]; omega
      have wq' : IntKind.i64.wrap ((p : Int) - (((i + j) / 2 : Nat) : Int)) = (q : Int) := by rw [IntKind.wrap_i64]; omega
      have hhN : (i + j) / 2 < N := by omega
      have hqN : q < N := by omega
      have hNI : (((i + j) / 2 : Nat) : Int) < (N : Int) := by omega
      have hNI' : ((i : Int) + (j : Int)) / 2 < (N : Int) := by omega
      have hqI : (q : Int) < (N : Int) := by omega
      have c1 := After.cell ((unhide HS).cell hqN)
      have c2 := After.cell ((unhide HS).cell hhN)
      have HC := hide (fun t => (unhide HS).ask (unhide HCP) (unhide HNJ) (i := q) (j := (i + j) / 2) hqN hhN t)
      have HG := hide (cmp_neg (dueJ jobs (l.getD q 0)) (dueJ jobs (l.getD ((i + j) / 2) 0)))
      have HW := hide (fun W (hb : Below wo.heap.size wo W) => (unhide HS).below hb)
      have HT := hide (show ¬ dueJ jobs (l.getD q 0) < dueJ jobs (l.getD ((i + j) / 2) 0) → lexR (dueJ jobs) (l.getD ((i + j) / 2 + 1 - 1) 0) (l.getD (n - ((i + j) / 2 + 1)) 0) from fun h9 => by
        rw [show n - ((i + j) / 2 + 1) = q by omega]
        exact (lex_ge (unhide HX ((i + j) / 2) q (by omega) (by omega) (by omega) (by omega))).2 h9)
      have HF := hide (show dueJ jobs (l.getD q 0) < dueJ jobs (l.getD ((i + j) / 2) 0) → lexR (dueJ jobs) (l.getD (p - (i + j) / 2) 0) (l.getD ((i + j) / 2) 0) from fun h9 => by rw [hq]; exact .inl h9)
      obtain ⟨cv, hcv⟩ : ∃ cv, Lib.compareInt (dueJ jobs (l.getD q 0)) (dueJ jobs (l.getD ((i + j) / 2) 0)) = cv := ⟨_, rfl⟩
      rw [hcv] at HC HG
      have HC := hide (unhide HC)
      have HG := hide (unhide HG)
      obtain ⟨x, hx⟩ : ∃ x, l.getD q 0 = x := ⟨_, rfl⟩
      obtain ⟨y, hy⟩ : ∃ y, l.getD ((i + j) / 2) 0 = y := ⟨_, rfl⟩
      rw [hx] at c1 HC
      rw [hy] at c2 HC
      have HC := hide (unhide HC)
      clear hcv hhN hqN hx hy hq hnm hnp
      by_cases hd : dueJ jobs (l.getD q 0) < dueJ jobs (l.getD ((i + j) / 2) 0)
      · have hv : decide (cv < 0) = true := by rw [unhide HG]; exact decide_eq_true hd
        have hv' : cv < 0 := of_decide_eq_true hv
        have HN := hide (unhide HF hd)
        clear hd HG HT HF
        go_wp2_with fail
        refine wp_region_after (by kernel_rfl) (by kernel_rfl) ?_
        repeat (go_big_quiet_step ((first | (go_at_call 41; exact After.call (unhide HC _)))))
        refine wpQuiet_nil ?_
        rintro _ ⟨t, rfl⟩
        clear c1 c2
        have HW2 := hide (unhide HW t.to t.is)
        generalize t.to = w2 at HW2 ⊢
        clear HC HW t
        go_wp2
        go_roundw
        case rel => exact ⟨i, (i + j) / 2, rfl, by go_num, hi1, by omega, by omega, HW2, hide ⟨(unhide HI).1, .inr (unhide HN)⟩⟩
        case measure => simp [intOf]; omega
      · have hv : decide (cv < 0) = false := by rw [unhide HG]; exact decide_eq_false hd
        have hv' : ¬ cv < 0 := of_decide_eq_false hv
        have HN := hide (unhide HT hd)
        clear hd HG HT HF
        go_wp2_with fail
        refine wp_region_after (by kernel_rfl) (by kernel_rfl) ?_
        repeat (go_big_quiet_step ((first | (go_at_call 41; exact After.call (unhide HC _)))))
        refine wpQuiet_nil ?_
        rintro _ ⟨t, rfl⟩
        clear c1 c2
        have HW2 := hide (unhide HW t.to t.is)
        generalize t.to = w2 at HW2 ⊢
        clear HC HW t
        go_wp2
        go_roundw
        case rel => exact ⟨(i + j) / 2 + 1, j, by go_num, rfl, by omega, by omega, hj1, HW2, hide ⟨.inr (unhide HN), (unhide HI).2⟩⟩
        case measure => simp [intOf]; omega
    · obtain rfl : i = j := by omega
      have il : ¬ (i : Int) < (i : Int) := by omega
      obtain ⟨e, he⟩ : ∃ e, n - i = e := ⟨_, rfl⟩
      have we : IntKind.i64.wrap ((n : Int) - (i : Int)) = (e : Int) := by rw [IntKind.wrap_i64]; omega
      have HM := hide (show a ≤ i ∧ i ≤ m ∧ m ≤ e ∧ e ≤ b ∧ i ≤ d ∧ d ≤ e ∧ (∀ x y, a ≤ x → x < i → e ≤ y → y < b → lexR (dueJ jobs) (l.getD x 0) (l.getD y 0)) ∧ (∀ x y, i ≤ x → x < m → m ≤ y → y < e → lexR (dueJ jobs) (l.getD y 0) (l.getD x 0)) from by
        obtain ⟨d1, _, d3, d4⟩ := unhide HD
        have d5 := unhide HP
        have d2 := unhide HN
        subst d5; subst d2; subst he
        exact mid_ends (unhide H1) (unhide H2) d1.symm ham hmb d3.symm d4.symm ⟨hi1, hj1⟩ (unhide HI).1 (unhide HI).2)
      have hde : i + (e - m) = d := by have := unhide HM; omega
      have hin : a ≤ i ∧ i ≤ m ∧ m ≤ e ∧ e ≤ b ∧ i ≤ d ∧ d ≤ e := by have := unhide HM; omega
      have hln : d - a < b - a ∧ d ≤ N ∧ b - d < b - a := by have := (unhide HD).1; omega
      clear he hnm hnp hi1 hj1 HI hlo2 hhi2
      have HROT := hide (rot_any w0 g N a b i m e l (bdV jb) wo hN (unhide HS) hin.1)
      have HR4 := hide (fun (l1 : List Int) (hr : ∀ k, l1.getD k 0 = l.getD (rotI i m e k) 0) => hde ▸ rot_four hin.1 hin.2.1 hin.2.2.1 hin.2.2.2.1 hr (unhide H1) (unhide H2) (unhide HX) (unhide HM).2.2.2.2.2.2.1 (unhide HM).2.2.2.2.2.2.2)
      by_cases him : i < m
      · by_cases hme : m < e
        · by_cases hai : a < i
          · by_cases heb : e < b
            · have qg1 : (i : Int) < (m : Int) := by omega
              have qg2 : (m : Int) < (e : Int) := by omega
              have qg3 : (a : Int) < (i : Int) := by omega
              have qg4 : (i : Int) < (d : Int) := by omega
              have qg5 : (d : Int) < (e : Int) := by omega
              have qg6 : (e : Int) < (b : Int) := by omega
              have HRO := hide (unhide HROT (by omega) (by omega) hin.2.2.2.1 hbN)
              go_wp2_with (first
                | (go_at_call 47; refine (unhide HI2).mono ?_; rintro e' w5 ⟨rfl, l3, hs3, hm3, hr3⟩; have HZ3 := hide (show SrW w0 g N l3 w5 ∧ Mov a b l l3 ∧ Srt (lexR (dueJ jobs)) a b l3 from ⟨hs3, (unhide HZ1).2.1.trans (four_end (by omega) (by omega) (unhide HZ1).2.2.ah (unhide HZ2).2.1 (unhide HZ2).2.2 hm3 hr3).1, (four_end (by omega) (by omega) (unhide HZ1).2.2.ah (unhide HZ2).2.1 (unhide HZ2).2.2 hm3 hr3).2⟩); clear hs3 hm3 hr3)
                | (go_at_call 47; refine (unhide HI1).mono ?_; rintro e' w4 ⟨rfl, l2, hs2, hm2, hr2⟩; have HZ2 := hide (show SrW w0 g N l2 w4 ∧ Mov a d l1 l2 ∧ Srt (lexR (dueJ jobs)) a d l2 from ⟨hs2, hm2, hr2⟩); clear hs2 hm2 hr2; have HI2 := hide (unhide HIH d e b l2 w4 hln.2.2 hbN (unhide HZ2).1 (by omega) (by omega) ((unhide HZ1).2.2.s3.eq fun k h8 _ => (unhide HZ2).2.1.out k (.inr h8)) ((unhide HZ1).2.2.s4.eq fun k h8 _ => (unhide HZ2).2.1.out k (.inr (by omega))) (fun x y x1 x2 y1 y2 => by rw [(unhide HZ2).2.1.out x (.inr x1), (unhide HZ2).2.1.out y (.inr (by omega))]; exact (unhide HZ1).2.2.c2 x y x1 x2 y1 y2)))
                | (go_at_call 48; refine (unhide HRO).mono ?_; rintro e' w3 ⟨rfl, l1, hs1, hm1, hr1⟩; have HZ1 := hide (show SrW w0 g N l1 w3 ∧ Mov a b l l1 ∧ RotS (dueJ jobs) a i d e b l1 from ⟨hs1, hm1, unhide HR4 l1 hr1⟩); clear hs1 hm1 hr1; have HI1 := hide (unhide HIH a i d l1 w3 hln.1 hln.2.1 (unhide HZ1).1 (by omega) (by omega) (unhide HZ1).2.2.s1 (unhide HZ1).2.2.s2 (unhide HZ1).2.2.c1)))
              all_goals (go_end0; exact ⟨rfl, _, unhide HZ3⟩)
            · have qg1 : (i : Int) < (m : Int) := by omega
              have qg2 : (m : Int) < (e : Int) := by omega
              have qg3 : (a : Int) < (i : Int) := by omega
              have qg4 : (i : Int) < (d : Int) := by omega
              have qg5 : (d : Int) < (e : Int) := by omega
              have qg6 : ¬ (e : Int) < (b : Int) := by omega
              have HRO := hide (unhide HROT (by omega) (by omega) hin.2.2.2.1 hbN)
              go_wp2_with (first
                | (go_at_call 47; refine (unhide HI1).mono ?_; rintro e' w4 ⟨rfl, l2, hs2, hm2, hr2⟩; have HZ2 := hide (show SrW w0 g N l2 w4 ∧ Mov a d l1 l2 ∧ Srt (lexR (dueJ jobs)) a d l2 from ⟨hs2, hm2, hr2⟩); clear hs2 hm2 hr2; have HZ3 := hide (show SrW w0 g N l2 w4 ∧ Mov a b l l2 ∧ Srt (lexR (dueJ jobs)) a b l2 from ⟨(unhide HZ2).1, (unhide HZ1).2.1.trans (four_end (by omega) (by omega) (unhide HZ1).2.2.ah (unhide HZ2).2.1 (unhide HZ2).2.2 (Mov.refl _ _ _) (((unhide HZ1).2.2.s3.join (unhide HZ1).2.2.s4 (fun x y x1 x2 y1 y2 => by omega)).eq fun k h8 _ => (unhide HZ2).2.1.out k (.inr h8))).1, (four_end (by omega) (by omega) (unhide HZ1).2.2.ah (unhide HZ2).2.1 (unhide HZ2).2.2 (Mov.refl _ _ _) (((unhide HZ1).2.2.s3.join (unhide HZ1).2.2.s4 (fun x y x1 x2 y1 y2 => by omega)).eq fun k h8 _ => (unhide HZ2).2.1.out k (.inr h8))).2⟩))
                | (go_at_call 48; refine (unhide HRO).mono ?_; rintro e' w3 ⟨rfl, l1, hs1, hm1, hr1⟩; have HZ1 := hide (show SrW w0 g N l1 w3 ∧ Mov a b l l1 ∧ RotS (dueJ jobs) a i d e b l1 from ⟨hs1, hm1, unhide HR4 l1 hr1⟩); clear hs1 hm1 hr1; have HI1 := hide (unhide HIH a i d l1 w3 hln.1 hln.2.1 (unhide HZ1).1 (by omega) (by omega) (unhide HZ1).2.2.s1 (unhide HZ1).2.2.s2 (unhide HZ1).2.2.c1)))
              all_goals (go_end0; exact ⟨rfl, _, unhide HZ3⟩)
          · by_cases heb : e < b
            · have qg1 : (i : Int) < (m : Int) := by omega
              have qg2 : (m : Int) < (e : Int) := by omega
              have qg3 : ¬ (a : Int) < (i : Int) := by omega
              have qg5 : (d : Int) < (e : Int) := by omega
              have qg6 : (e : Int) < (b : Int) := by omega
              have HRO := hide (unhide HROT (by omega) (by omega) hin.2.2.2.1 hbN)
              go_wp2_with (first
                | (go_at_call 47; refine (unhide HI2).mono ?_; rintro e' w5 ⟨rfl, l3, hs3, hm3, hr3⟩; have HZ3 := hide (show SrW w0 g N l3 w5 ∧ Mov a b l l3 ∧ Srt (lexR (dueJ jobs)) a b l3 from ⟨hs3, (unhide HZ1).2.1.trans (four_end (by omega) (by omega) (unhide HZ1).2.2.ah (unhide HZ2).2.1 (unhide HZ2).2.2 hm3 hr3).1, (four_end (by omega) (by omega) (unhide HZ1).2.2.ah (unhide HZ2).2.1 (unhide HZ2).2.2 hm3 hr3).2⟩); clear hs3 hm3 hr3)
                | (go_at_call 48; refine (unhide HRO).mono ?_; rintro e' w3 ⟨rfl, l1, hs1, hm1, hr1⟩; have HZ1 := hide (show SrW w0 g N l1 w3 ∧ Mov a b l l1 ∧ RotS (dueJ jobs) a i d e b l1 from ⟨hs1, hm1, unhide HR4 l1 hr1⟩); clear hs1 hm1 hr1; have HZ2 := hide (show SrW w0 g N l1 w3 ∧ Mov a d l1 l1 ∧ Srt (lexR (dueJ jobs)) a d l1 from ⟨(unhide HZ1).1, Mov.refl _ _ _, (unhide HZ1).2.2.s1.join (unhide HZ1).2.2.s2 (fun x y x1 x2 y1 y2 => by omega)⟩); have HI2 := hide (unhide HIH d e b l1 w3 hln.2.2 hbN (unhide HZ2).1 (by omega) (by omega) ((unhide HZ1).2.2.s3.eq fun k h8 _ => (unhide HZ2).2.1.out k (.inr h8)) ((unhide HZ1).2.2.s4.eq fun k h8 _ => (unhide HZ2).2.1.out k (.inr (by omega))) (fun x y x1 x2 y1 y2 => by rw [(unhide HZ2).2.1.out x (.inr x1), (unhide HZ2).2.1.out y (.inr (by omega))]; exact (unhide HZ1).2.2.c2 x y x1 x2 y1 y2))))
              all_goals (go_end0; exact ⟨rfl, _, unhide HZ3⟩)
            · have qg1 : (i : Int) < (m : Int) := by omega
              have qg2 : (m : Int) < (e : Int) := by omega
              have qg3 : ¬ (a : Int) < (i : Int) := by omega
              have qg5 : (d : Int) < (e : Int) := by omega
              have qg6 : ¬ (e : Int) < (b : Int) := by omega
              have HRO := hide (unhide HROT (by omega) (by omega) hin.2.2.2.1 hbN)
              go_wp2_with (first
                | (go_at_call 48; refine (unhide HRO).mono ?_; rintro e' w3 ⟨rfl, l1, hs1, hm1, hr1⟩; have HZ1 := hide (show SrW w0 g N l1 w3 ∧ Mov a b l l1 ∧ RotS (dueJ jobs) a i d e b l1 from ⟨hs1, hm1, unhide HR4 l1 hr1⟩); clear hs1 hm1 hr1; have HZ2 := hide (show SrW w0 g N l1 w3 ∧ Mov a d l1 l1 ∧ Srt (lexR (dueJ jobs)) a d l1 from ⟨(unhide HZ1).1, Mov.refl _ _ _, (unhide HZ1).2.2.s1.join (unhide HZ1).2.2.s2 (fun x y x1 x2 y1 y2 => by omega)⟩); have HZ3 := hide (show SrW w0 g N l1 w3 ∧ Mov a b l l1 ∧ Srt (lexR (dueJ jobs)) a b l1 from ⟨(unhide HZ2).1, (unhide HZ1).2.1.trans (four_end (by omega) (by omega) (unhide HZ1).2.2.ah (unhide HZ2).2.1 (unhide HZ2).2.2 (Mov.refl _ _ _) (((unhide HZ1).2.2.s3.join (unhide HZ1).2.2.s4 (fun x y x1 x2 y1 y2 => by omega)).eq fun k h8 _ => (unhide HZ2).2.1.out k (.inr h8))).1, (four_end (by omega) (by omega) (unhide HZ1).2.2.ah (unhide HZ2).2.1 (unhide HZ2).2.2 (Mov.refl _ _ _) (((unhide HZ1).2.2.s3.join (unhide HZ1).2.2.s4 (fun x y x1 x2 y1 y2 => by omega)).eq fun k h8 _ => (unhide HZ2).2.1.out k (.inr h8))).2⟩)))
              all_goals (go_end0; exact ⟨rfl, _, unhide HZ3⟩)
        · by_cases hai : a < i
          · have qg1 : (i : Int) < (m : Int) := by omega
            have qg2 : ¬ (m : Int) < (e : Int) := by omega
            have qg3 : (a : Int) < (i : Int) := by omega
            have qg4 : ¬ (i : Int) < (d : Int) := by omega
            have qg5 : (d : Int) < (e : Int) := by omega
            have qg6 : (e : Int) < (b : Int) := by omega
            have HZ1 := hide (show SrW w0 g N l wo ∧ Mov a b l l ∧ RotS (dueJ jobs) a i d e b l from ⟨unhide HS, Mov.refl _ _ _, unhide HR4 l (fun k => by
              rcases Nat.lt_or_ge i m with c | c
              · obtain rfl : m = e := by omega
                rw [rotI_none]
              · obtain rfl : i = m := by omega
                rw [rotI_none'])⟩)
            have HZ2 := hide (show SrW w0 g N l wo ∧ Mov a d l l ∧ Srt (lexR (dueJ jobs)) a d l from ⟨(unhide HZ1).1, Mov.refl _ _ _, (unhide HZ1).2.2.s1.join (unhide HZ1).2.2.s2 (fun x y x1 x2 y1 y2 => by omega)⟩)
            have HI2 := hide (unhide HIH d e b l wo hln.2.2 hbN (unhide HZ2).1 (by omega) (by omega) ((unhide HZ1).2.2.s3.eq fun k h8 _ => (unhide HZ2).2.1.out k (.inr h8)) ((unhide HZ1).2.2.s4.eq fun k h8 _ => (unhide HZ2).2.1.out k (.inr (by omega))) (fun x y x1 x2 y1 y2 => by rw [(unhide HZ2).2.1.out x (.inr x1), (unhide HZ2).2.1.out y (.inr (by omega))]; exact (unhide HZ1).2.2.c2 x y x1 x2 y1 y2))
            go_wp2_with (first
              | (go_at_call 47; refine (unhide HI2).mono ?_; rintro e' w5 ⟨rfl, l3, hs3, hm3, hr3⟩; have HZ3 := hide (show SrW w0 g N l3 w5 ∧ Mov a b l l3 ∧ Srt (lexR (dueJ jobs)) a b l3 from ⟨hs3, (unhide HZ1).2.1.trans (four_end (by omega) (by omega) (unhide HZ1).2.2.ah (unhide HZ2).2.1 (unhide HZ2).2.2 hm3 hr3).1, (four_end (by omega) (by omega) (unhide HZ1).2.2.ah (unhide HZ2).2.1 (unhide HZ2).2.2 hm3 hr3).2⟩); clear hs3 hm3 hr3))
            all_goals (go_end0; exact ⟨rfl, _, unhide HZ3⟩)
          · have qg1 : (i : Int) < (m : Int) := by omega
            have qg2 : ¬ (m : Int) < (e : Int) := by omega
            have qg3 : ¬ (a : Int) < (i : Int) := by omega
            have qg5 : (d : Int) < (e : Int) := by omega
            have qg6 : (e : Int) < (b : Int) := by omega
            have HZ1 := hide (show SrW w0 g N l wo ∧ Mov a b l l ∧ RotS (dueJ jobs) a i d e b l from ⟨unhide HS, Mov.refl _ _ _, unhide HR4 l (fun k => by
              rcases Nat.lt_or_ge i m with c | c
              · obtain rfl : m = e := by omega
                rw [rotI_none]
              · obtain rfl : i = m := by omega
                rw [rotI_none'])⟩)
            have HZ2 := hide (show SrW w0 g N l wo ∧ Mov a d l l ∧ Srt (lexR (dueJ jobs)) a d l from ⟨(unhide HZ1).1, Mov.refl _ _ _, (unhide HZ1).2.2.s1.join (unhide HZ1).2.2.s2 (fun x y x1 x2 y1 y2 => by omega)⟩)
            have HI2 := hide (unhide HIH d e b l wo hln.2.2 hbN (unhide HZ2).1 (by omega) (by omega) ((unhide HZ1).2.2.s3.eq fun k h8 _ => (unhide HZ2).2.1.out k (.inr h8)) ((unhide HZ1).2.2.s4.eq fun k h8 _ => (unhide HZ2).2.1.out k (.inr (by omega))) (fun x y x1 x2 y1 y2 => by rw [(unhide HZ2).2.1.out x (.inr x1), (unhide HZ2).2.1.out y (.inr (by omega))]; exact (unhide HZ1).2.2.c2 x y x1 x2 y1 y2))
            go_wp2_with (first
              | (go_at_call 47; refine (unhide HI2).mono ?_; rintro e' w5 ⟨rfl, l3, hs3, hm3, hr3⟩; have HZ3 := hide (show SrW w0 g N l3 w5 ∧ Mov a b l l3 ∧ Srt (lexR (dueJ jobs)) a b l3 from ⟨hs3, (unhide HZ1).2.1.trans (four_end (by omega) (by omega) (unhide HZ1).2.2.ah (unhide HZ2).2.1 (unhide HZ2).2.2 hm3 hr3).1, (four_end (by omega) (by omega) (unhide HZ1).2.2.ah (unhide HZ2).2.1 (unhide HZ2).2.2 hm3 hr3).2⟩); clear hs3 hm3 hr3))
            all_goals (go_end0; exact ⟨rfl, _, unhide HZ3⟩)
      · by_cases hme : m < e
        · have qg1 : ¬ (i : Int) < (m : Int) := by omega
          have qg3 : (a : Int) < (i : Int) := by omega
          have qg4 : (i : Int) < (d : Int) := by omega
          have qg5 : ¬ (d : Int) < (e : Int) := by omega
          have HZ1 := hide (show SrW w0 g N l wo ∧ Mov a b l l ∧ RotS (dueJ jobs) a i d e b l from ⟨unhide HS, Mov.refl _ _ _, unhide HR4 l (fun k => by
            rcases Nat.lt_or_ge i m with c | c
            · obtain rfl : m = e := by omega
              rw [rotI_none]
            · obtain rfl : i = m := by omega
              rw [rotI_none'])⟩)
          have HI1 := hide (unhide HIH a i d l wo hln.1 hln.2.1 (unhide HZ1).1 (by omega) (by omega) (unhide HZ1).2.2.s1 (unhide HZ1).2.2.s2 (unhide HZ1).2.2.c1)
          go_wp2_with (first
            | (go_at_call 47; refine (unhide HI1).mono ?_; rintro e' w4 ⟨rfl, l2, hs2, hm2, hr2⟩; have HZ2 := hide (show SrW w0 g N l2 w4 ∧ Mov a d l l2 ∧ Srt (lexR (dueJ jobs)) a d l2 from ⟨hs2, hm2, hr2⟩); clear hs2 hm2 hr2; have HZ3 := hide (show SrW w0 g N l2 w4 ∧ Mov a b l l2 ∧ Srt (lexR (dueJ jobs)) a b l2 from ⟨(unhide HZ2).1, (unhide HZ1).2.1.trans (four_end (by omega) (by omega) (unhide HZ1).2.2.ah (unhide HZ2).2.1 (unhide HZ2).2.2 (Mov.refl _ _ _) (((unhide HZ1).2.2.s3.join (unhide HZ1).2.2.s4 (fun x y x1 x2 y1 y2 => by omega)).eq fun k h8 _ => (unhide HZ2).2.1.out k (.inr h8))).1, (four_end (by omega) (by omega) (unhide HZ1).2.2.ah (unhide HZ2).2.1 (unhide HZ2).2.2 (Mov.refl _ _ _) (((unhide HZ1).2.2.s3.join (unhide HZ1).2.2.s4 (fun x y x1 x2 y1 y2 => by omega)).eq fun k h8 _ => (unhide HZ2).2.1.out k (.inr h8))).2⟩)))
          all_goals (go_end0; exact ⟨rfl, _, unhide HZ3⟩)
        · have qg1 : ¬ (i : Int) < (m : Int) := by omega
          have qg3 : (a : Int) < (i : Int) := by omega
          have qg4 : ¬ (i : Int) < (d : Int) := by omega
          have qg5 : ¬ (d : Int) < (e : Int) := by omega
          have HZ1 := hide (show SrW w0 g N l wo ∧ Mov a b l l ∧ RotS (dueJ jobs) a i d e b l from ⟨unhide HS, Mov.refl _ _ _, unhide HR4 l (fun k => by
            rcases Nat.lt_or_ge i m with c | c
            · obtain rfl : m = e := by omega
              rw [rotI_none]
            · obtain rfl : i = m := by omega
              rw [rotI_none'])⟩)
          have HZ2 := hide (show SrW w0 g N l wo ∧ Mov a d l l ∧ Srt (lexR (dueJ jobs)) a d l from ⟨(unhide HZ1).1, Mov.refl _ _ _, (unhide HZ1).2.2.s1.join (unhide HZ1).2.2.s2 (fun x y x1 x2 y1 y2 => by omega)⟩)
          have HZ3 := hide (show SrW w0 g N l wo ∧ Mov a b l l ∧ Srt (lexR (dueJ jobs)) a b l from ⟨(unhide HZ2).1, (unhide HZ1).2.1.trans (four_end (by omega) (by omega) (unhide HZ1).2.2.ah (unhide HZ2).2.1 (unhide HZ2).2.2 (Mov.refl _ _ _) (((unhide HZ1).2.2.s3.join (unhide HZ1).2.2.s4 (fun x y x1 x2 y1 y2 => by omega)).eq fun k h8 _ => (unhide HZ2).2.1.out k (.inr h8))).1, (four_end (by omega) (by omega) (unhide HZ1).2.2.ah (unhide HZ2).2.1 (unhide HZ2).2.2 (Mov.refl _ _ _) (((unhide HZ1).2.2.s3.join (unhide HZ1).2.2.s4 (fun x y x1 x2 y1 y2 => by omega)).eq fun k h8 _ => (unhide HZ2).2.1.out k (.inr h8))).2⟩)
          go_wp2_with fail
          all_goals (go_end0; exact ⟨rfl, _, unhide HZ3⟩)
theorem sym_any (jobs : List Jb) (jb g c N : Nat) (A : Option Addr) (w0 : World) (hcp : Cap jobs jb g A c w0) (hNj : N = jobs.length) (hN : N ≤ 1000000) : ∀ (k a m b : Nat) (l : List Int) (w : World), b - a ≤ k → b ≤ N → SrW w0 g N l w → a < m → m < b →
    Srt (lexR (dueJ jobs)) a m l → Srt (lexR (dueJ jobs)) m b l → Crs a m b l →
    Calls Try.prog 47 #[.slice (some ⟨g, 0, none⟩) N N, .int .i64 a, .int .i64 m, .int .i64 b, bdV jb] w (SymC jobs g N w0 a b l)
  | 0, a, m, b, _, _, hk, _, _, h1, h2, _, _, _ => by omega
  | k + 1, a, m, b, l, w, hk, hbN, hs, ham, hmb, h1, h2, hx => by
    by_cases e1 : m = a + 1
    · exact sym_left jobs jb g c N A w0 a m b l w hcp hNj hN hs ham hmb hbN h1 h2 hx e1
    · by_cases e2 : b = m + 1
      · exact sym_right jobs jb g c N A w0 a m b l w hcp hNj hN hs ham hmb hbN h1 h2 hx ⟨e2, e1⟩
      · have ih := fun a' m' b' l' w' (hlt : b' - a' < b - a) hb' hs' a1 a2 a3 a4 a5 => sym_any jobs jb g c N A w0 hcp hNj hN k a' m' b' l' w' (by omega) hb' hs' a1 a2 a3 a4 a5
        by_cases hd : (a + b) / 2 < m
        · exact sym_mid_l jobs jb g c N A w0 a m b l w hcp hNj hN hs ham hmb hbN h1 h2 hx e1 e2 hd ih
        · exact sym_mid_r jobs jb g c N A w0 a m b l w hcp hNj hN hs ham hmb hbN h1 h2 hx e1 e2 hd ih
end Go.Proofs.Ytjgjgilpebeelaa
