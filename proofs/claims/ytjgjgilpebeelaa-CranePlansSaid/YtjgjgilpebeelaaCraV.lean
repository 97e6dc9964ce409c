/-
  Crane (layer 18): the library's symmetric merge of two neighbouring runs, with the closure that compares by due times.
-/
import Derived.Test.YtjgjgilpebeelaaCraT
namespace Go.Proofs.Ytjgjgilpebeelaa
open Go.RowKit

theorem rotI_none (s m q : Nat) : rotI s m m q = q := by unfold rotI; (repeat' split) <;> omega
theorem rotI_none' (m e q : Nat) : rotI m m e q = q := by unfold rotI; (repeat' split) <;> omega
/-- What a merge comes to. -/
def SymC (jobs : List Jb) (g N : Nat) (w0 : World) (a b : Nat) (l : List Int) (e : Ending) (w' : World) : Prop := e = .returned (.tuple #[]) ∧ ∃ l', SrW w0 g N l' w' ∧ Mov a b l l' ∧ Srt (lexR (dueJ jobs)) a b l'
set_option maxHeartbeats 2000000 in
set_option maxRecDepth 100000 in
theorem sym_left (jobs : List Jb) (jb g c N : Nat) (A : Option Addr) (w0 : World) (a m b : Nat) (l : List Int) (w : World) (hcp : Cap jobs jb g A c w0) (hNj : N = jobs.length) (hN : N ≤ 1000000) (h : SrW w0 g N l w) (ham : a < m) (hmb : m < b) (hbN : b ≤ N)
    (h1 : Srt (lexR (dueJ jobs)) a m l) (h2 : Srt (lexR (dueJ jobs)) m b l) (hx : Crs a m b l) (hone : m = a + 1) :
    Calls Try.prog 47 #[.slice (some ⟨g, 0, none⟩) N N, .int .i64 a, .int .i64 m, .int .i64 b, bdV jb] w (SymC jobs g N w0 a b l) := by
  have HCP := hide hcp
  have HNJ := hide hNj
  have H1 := hide h1
  have H2 := hide h2
  have HX := hide hx
  have HS0 := hide h
  have HL := hide h.len
  have mixed : Try.prog.follows .mixedOrders = true := by kernel_rfl
  have wma : IntKind.i64.wrap ((m : Int) - (a : Int)) = 1 := by rw [IntKind.wrap_i64]; omega
  have HO := hide hone
  clear hcp hNj h h1 h2 hx hone
  go_enter Try.func47, Try.ntmps47
  go_wp2_with fail
  go_loopw [10, 11] (fun s1 s2 wr => ∃ (i j : Nat), s1 = .int .i64 i ∧ s2 = .int .i64 j ∧ m ≤ i ∧ i ≤ j ∧ j ≤ b ∧ Hid (SrW w0 g N l wr) ∧ Hid ((i = m ∨ lexR (dueJ jobs) (l.getD (i - 1) 0) (l.getD a 0)) ∧ (j = b ∨ lexR (dueJ jobs) (l.getD a 0) (l.getD j 0)))) (fun s1 s2 _ => (intOf s2).toNat - (intOf s1).toNat)
  case atStart => exact ⟨m, b, rfl, rfl, Nat.le_refl _, by omega, Nat.le_refl _, HS0, hide ⟨.inl rfl, .inl rfl⟩⟩
  case round =>
    clear HS0
    obtain ⟨i, j, rfl, rfl, hi, hij, hj, HS, HI⟩ := hrel
    obtain ⟨wo, rfl⟩ : ∃ wo : World, wo = wr := ⟨_, rfl⟩
    by_cases hlt : i < j
    · have il : (i : Int) < (j : Int) := by omega
      have hhN : (i + j) / 2 < N := by omega
      have hfN : a < N := by omega
      have hNI : (((i + j) / 2 : Nat) : Int) < (N : Int) := by omega
      have hfI : (a : Int) < (N : Int) := by omega
      have c1 := After.cell ((unhide HS).cell hhN)
      have c2 := After.cell ((unhide HS).cell hfN)
      have HC := hide (fun t => (unhide HS).ask (unhide HCP) (unhide HNJ) (i := (i + j) / 2) (j := a) (by omega) (by omega) t)
      have HG := hide (cmp_neg (dueJ jobs (l.getD ((i + j) / 2) 0)) (dueJ jobs (l.getD (a) 0)))
      have HW := hide (fun W (hb : Below wo.heap.size wo W) => (unhide HS).below hb)
      have HT := hide (show dueJ jobs (l.getD ((i + j) / 2) 0) < dueJ jobs (l.getD a 0) → lexR (dueJ jobs) (l.getD ((i + j) / 2 + 1 - 1) 0) (l.getD a 0) from fun h9 => .inl h9)
      have HF := hide (show ¬ dueJ jobs (l.getD ((i + j) / 2) 0) < dueJ jobs (l.getD a 0) → lexR (dueJ jobs) (l.getD a 0) (l.getD ((i + j) / 2) 0) from fun h9 => (lex_ge (unhide HX a ((i + j) / 2) (Nat.le_refl _) ham (by omega) (by omega))).2 h9)
      obtain ⟨cv, hcv⟩ : ∃ cv, Lib.compareInt (dueJ jobs (l.getD ((i + j) / 2) 0)) (dueJ jobs (l.getD (a) 0)) = cv := ⟨_, rfl⟩
      rw [hcv] at HC HG
      have HC := hide (unhide HC)
      have HG := hide (unhide HG)
      clear hcv hhN hfN
      obtain ⟨x, hx⟩ : ∃ x, l.getD ((i + j) / 2) 0 = x := ⟨_, rfl⟩
      obtain ⟨y, hy⟩ : ∃ y, l.getD a 0 = y := ⟨_, rfl⟩
      rw [hx] at c1 HC
      rw [hy] at c2 HC
      have HC := hide (unhide HC)
      clear hx hy
      by_cases hd : dueJ jobs (l.getD ((i + j) / 2) 0) < dueJ jobs (l.getD (a) 0)
      · have hv : decide (cv < 0) = true := by rw [unhide HG]; exact decide_eq_true hd
        have hv' : cv < 0 := of_decide_eq_true hv
        have HN := hide (unhide HT hd)
        clear hd HG HT HF
        go_wp2_with fail
        refine wp_region_after (by kernel_rfl) (by kernel_rfl) ?_
        repeat (go_big_quiet_step ((first | (go_at_call 41; exact After.call (unhide HC _)))))
        refine wpQuiet_nil ?_
        rintro _ ⟨t, rfl⟩
        clear c1 c2
        have HW2 := hide (unhide HW t.to t.is)
        generalize t.to = w2 at HW2 ⊢
        clear HC HW t
        go_wp2
        go_roundw
        case rel => exact ⟨(i + j) / 2 + 1, j, by go_num, rfl, by omega, by omega, hj, HW2, hide ⟨.inr (unhide HN), (unhide HI).2⟩⟩
        case measure => simp [intOf]; omega
      · have hv : decide (cv < 0) = false := by rw [unhide HG]; exact decide_eq_false hd
        have hv' : ¬ cv < 0 := of_decide_eq_false hv
        have HN := hide (unhide HF hd)
        clear hd HG HT HF
        go_wp2_with fail
        refine wp_region_after (by kernel_rfl) (by kernel_rfl) ?_
        repeat (go_big_quiet_step ((first | (go_at_call 41; exact After.call (unhide HC _)))))
        refine wpQuiet_nil ?_
        rintro _ ⟨t, rfl⟩
        clear c1 c2
        have HW2 := hide (unhide HW t.to t.is)
        generalize t.to = w2 at HW2 ⊢
        clear HC HW t
        go_wp2
        go_roundw
        case rel => exact ⟨i, (i + j) / 2, rfl, by go_num, hi, by omega, by omega, HW2, hide ⟨(unhide HI).1, .inr (unhide HN)⟩⟩
        case measure => simp [intOf]; omega
    · obtain rfl : i = j := by omega
      have il : ¬ (i : Int) < (i : Int) := by omega
      obtain ⟨e, he⟩ : ∃ e, i - 1 = e := ⟨_, rfl⟩
      have we : IntKind.i64.wrap ((i : Int) - 1) = (e : Int) := by rw [IntKind.wrap_i64]; omega
      have HR0 := hide (show SrW w0 g N l wo ∧ Mov a b l l ∧ ∀ q, l.getD q 0 = l.getD (rotI a (a + 1) (a + 1) q) 0 from ⟨unhide HS, Mov.refl _ _ l, fun q => by rw [rotI_none]⟩)
      have hae : a ≤ e := by have := unhide HO; omega
      clear HS
      go_wp2_with fail
      go_loopw [13] (fun s13 wr => ∃ (k : Nat) (l1 : List Int), s13 = .int .i64 k ∧ a ≤ k ∧ k ≤ e ∧ Hid (SrW w0 g N l1 wr ∧ Mov a b l l1 ∧ ∀ q, l1.getD q 0 = l.getD (rotI a (a + 1) (k + 1) q) 0)) (fun s13 _ => e - (intOf s13).toNat)
      case atStart => exact ⟨a, l, rfl, Nat.le_refl _, hae, HR0⟩
      case round =>
        clear HR0
        obtain ⟨k, l1, rfl, hik, hkm, HK⟩ := hrel
        obtain ⟨wq, rfl⟩ : ∃ wq : World, wq = wr := ⟨_, rfl⟩
        by_cases hki : k < e
        · have q0 : (k : Int) < (e : Int) := by omega
          obtain ⟨p, hp⟩ : ∃ p, k + 1 = p := ⟨_, rfl⟩
          have wp : IntKind.i64.wrap ((k : Int) + 1) = (p : Int) := by rw [IntKind.wrap_i64]; omega
          have hlen := (unhide HK).1.len
          have HR := hide (show ∀ q, (swp l1 k p).getD q 0 = l.getD (rotI a (a + 1) (p + 1) q) 0 from by subst hp; exact rot_up hik (by omega) (unhide HK).2.2)
          have hkN : k < N := by omega
          have hpN : p < N := by omega
          have kN : (k : Int) < (N : Int) := by omega
          have pN : (p : Int) < (N : Int) := by omega
          have k0 : (0 : Int) ≤ (k : Int) := by omega
          have p0 : (0 : Int) ≤ (p : Int) := by omega
          obtain ⟨c1, c2, f1, f2, u, c3⟩ := (unhide HK).1.swf hkN hpN
          have HW := hide ((unhide HK).1.swp hkN hpN)
          have HM := hide ((unhide HK).2.1.swp (i := k) (j := p) (by have := unhide HL; omega) (by omega) (by omega) (by omega) (by omega))
          have hmeas : e - p < e - k := by omega
          have hrng : a ≤ p ∧ p ≤ e := by omega
          generalize l1.getD k 0 = x at c1 HW c3
          generalize l1.getD p 0 = y at c2 HW c3
          clear hkN hpN hp hlen
          go_wp2_with fail
          go_big_region_o
          generalize ((wq.setCell ⟨g, k, none⟩ (.int .i64 y)).setCell ⟨g, p, none⟩ (.int .i64 x)).drew = w3 at HW ⊢
          clear c1 c2 f1 f2 c3
          go_wp2
          go_roundw
          case rel => exact ⟨p, _, by go_num, hrng.1, hrng.2, hide ⟨unhide HW, unhide HM, unhide HR⟩⟩
          case measure => simp [intOf]; omega
        · obtain rfl : k = e := by omega
          have q0 : ¬ (k : Int) < (k : Int) := by omega
          have HE := hide (one_left (f := dueJ jobs) (l := l) (l' := l1) (i := i) (unhide HO) (unhide H2) hi hj (unhide HI).1 (unhide HI).2 (by rw [unhide HO, show i = k + 1 by omega]; exact (unhide HK).2.2))
          go_wp2
          (try simp only [Exit.inBlock, Exit.then])
          refine bodyPost_ret (results_none rfl _ _ _) rfl ?_
          exact ⟨rfl, l1, (unhide HK).1, (unhide HK).2.1, unhide HE⟩
set_option maxHeartbeats 2000000 in
set_option maxRecDepth 100000 in
theorem sym_right (jobs : List Jb) (jb g c N : Nat) (A : Option Addr) (w0 : World) (a m b : Nat) (l : List Int) (w : World) (hcp : Cap jobs jb g A c w0) (hNj : N = jobs.length) (hN : N ≤ 1000000) (h : SrW w0 g N l w) (ham : a < m) (hmb : m < b) (hbN : b ≤ N)
    (h1 : Srt (lexR (dueJ jobs)) a m l) (h2 : Srt (lexR (dueJ jobs)) m b l) (hx : Crs a m b l) (hone : b = m + 1 ∧ m ≠ a + 1) :
    Calls Try.prog 47 #[.slice (some ⟨g, 0, none⟩) N N, .int .i64 a, .int .i64 m, .int .i64 b, bdV jb] w (SymC jobs g N w0 a b l) := by
  have HCP := hide hcp
  have HNJ := hide hNj
  have H1 := hide h1
  have H2 := hide h2
  have HX := hide hx
  have HS0 := hide h
  have HL := hide h.len
  have mixed : Try.prog.follows .mixedOrders = true := by kernel_rfl
  have wma : IntKind.i64.wrap ((m : Int) - (a : Int)) = ((m - a : Nat) : Int) := by rw [IntKind.wrap_i64]; omega
  have qma : (((m - a : Nat) : Int) == 1) = false := by rw [beq_eq_false_iff_ne]; omega
  have wbm : IntKind.i64.wrap ((b : Int) - (m : Int)) = 1 := by rw [IntKind.wrap_i64]; omega
  have HO := hide hone
  clear hcp hNj h h1 h2 hx hone
  go_enter Try.func47, Try.ntmps47
  go_wp2_with fail
  go_loopw [14, 15] (fun s1 s2 wr => ∃ (i j : Nat), s1 = .int .i64 i ∧ s2 = .int .i64 j ∧ a ≤ i ∧ i ≤ j ∧ j ≤ m ∧ Hid (SrW w0 g N l wr) ∧ Hid ((i = a ∨ lexR (dueJ jobs) (l.getD (i - 1) 0) (l.getD m 0)) ∧ (j = m ∨ lexR (dueJ jobs) (l.getD m 0) (l.getD j 0)))) (fun s1 s2 _ => (intOf s2).toNat - (intOf s1).toNat)
  case atStart => exact ⟨a, m, rfl, rfl, Nat.le_refl _, by omega, Nat.le_refl _, HS0, hide ⟨.inl rfl, .inl rfl⟩⟩
  case round =>
    clear HS0
    obtain ⟨i, j, rfl, rfl, hi, hij, hj, HS, HI⟩ := hrel
    obtain ⟨wo, rfl⟩ : ∃ wo : World, wo = wr := ⟨_, rfl⟩
    by_cases hlt : i < j
    · have il : (i : Int) < (j : Int) := by omega
      have hhN : (i + j) / 2 < N := by omega
      have hfN : m < N := by omega
      have hNI : (((i + j) / 2 : Nat) : Int) < (N : Int) := by omega
      have hfI : (m : Int) < (N : Int) := by omega
      have c1 := After.cell ((unhide HS).cell hhN)
      have c2 := After.cell ((unhide HS).cell hfN)
      have HC := hide (fun t => (unhide HS).ask (unhide HCP) (unhide HNJ) (i := m) (j := (i + j) / 2) (by omega) (by omega) t)
      have HG := hide (cmp_neg (dueJ jobs (l.getD (m) 0)) (dueJ jobs (l.getD ((i + j) / 2) 0)))
      have HW := hide (fun W (hb : Below wo.heap.size wo W) => (unhide HS).below hb)
      have HT := hide (show ¬ dueJ jobs (l.getD m 0) < dueJ jobs (l.getD ((i + j) / 2) 0) → lexR (dueJ jobs) (l.getD ((i + j) / 2 + 1 - 1) 0) (l.getD m 0) from fun h9 => (lex_ge (unhide HX ((i + j) / 2) m (by omega) (by omega) (Nat.le_refl _) hmb)).2 h9)
      have HF := hide (show dueJ jobs (l.getD m 0) < dueJ jobs (l.getD ((i + j) / 2) 0) → lexR (dueJ jobs) (l.getD m 0) (l.getD ((i + j) / 2) 0) from fun h9 => .inl h9)
      obtain ⟨cv, hcv⟩ : ∃ cv, Lib.compareInt (dueJ jobs (l.getD (m) 0)) (dueJ jobs (l.getD ((i + j) / 2) 0)) = cv := ⟨_, rfl⟩
      rw [hcv] at HC HG
      have HC := hide (unhide HC)
      have HG := hide (unhide HG)
      clear hcv hhN hfN
      obtain ⟨x, hx⟩ : ∃ x, l.getD ((i + j) / 2) 0 = x := ⟨_, rfl⟩
      obtain ⟨y, hy⟩ : ∃ y, l.getD m 0 = y := ⟨_, rfl⟩
      rw [hx] at c1 HC
      rw [hy] at c2 HC
      have HC := hide (unhide HC)
      clear hx hy
      by_cases hd : dueJ jobs (l.getD (m) 0) < dueJ jobs (l.getD ((i + j) / 2) 0)
      · have hv : decide (cv < 0) = true := by rw [unhide HG]; exact decide_eq_true hd
        have hv' : cv < 0 := of_decide_eq_true hv
        have HN := hide (unhide HF hd)
        clear hd HG HT HF
        go_wp2_with fail
        refine wp_region_after (by kernel_rfl) (by kernel_rfl) ?_
        repeat (go_big_quiet_step ((first | (go_at_call 41; exact After.call (unhide HC _)))))
        refine wpQuiet_nil ?_
        rintro _ ⟨t, rfl⟩
        clear c1 c2
        have HW2 := hide (unhide HW t.to t.is)
        generalize t.to = w2 at HW2 ⊢
        clear HC HW t
        go_wp2
        go_roundw
        case rel => exact ⟨i, (i + j) / 2, rfl, by go_num, hi, by omega, by omega, HW2, hide ⟨(unhide HI).1, .inr (unhide HN)⟩⟩
        case measure => simp [intOf]; omega
      · have hv : decide (cv < 0) = false := by rw [unhide HG]; exact decide_eq_false hd
        have hv' : ¬ cv < 0 := of_decide_eq_false hv
        have HN := hide (unhide HT hd)
        clear hd HG HT HF
        go_wp2_with fail
        refine wp_region_after (by kernel_rfl) (by kernel_rfl) ?_
        repeat (go_big_quiet_step ((first | (go_at_call 41; exact After.call (unhide HC _)))))
        refine wpQuiet_nil ?_
        rintro _ ⟨t, rfl⟩
        clear c1 c2
        have HW2 := hide (unhide HW t.to t.is)
        generalize t.to = w2 at HW2 ⊢
        clear HC HW t
        go_wp2
        go_roundw
        case rel => exact ⟨(i + j) / 2 + 1, j, by go_num, rfl, by omega, by omega, hj, HW2, hide ⟨.inr (unhide HN), (unhide HI).2⟩⟩
        case measure => simp [intOf]; omega
    · obtain rfl : i = j := by omega
      have il : ¬ (i : Int) < (i : Int) := by omega
      have HR0 := hide (show SrW w0 g N l wo ∧ Mov a b l l ∧ ∀ q, l.getD q 0 = l.getD (rotI m m (m + 1) q) 0 from ⟨unhide HS, Mov.refl _ _ l, fun q => by rw [rotI_none']⟩)
      clear HS
      go_wp2_with fail
      go_loopw [17] (fun s17 wr => ∃ (k : Nat) (l1 : List Int), s17 = .int .i64 k ∧ i ≤ k ∧ k ≤ m ∧ Hid (SrW w0 g N l1 wr ∧ Mov a b l l1 ∧ ∀ q, l1.getD q 0 = l.getD (rotI k m (m + 1) q) 0)) (fun s17 _ => (intOf s17).toNat)
      case atStart => exact ⟨m, l, rfl, by omega, Nat.le_refl _, HR0⟩
      case round =>
        clear HR0
        obtain ⟨k, l1, rfl, hik, hkm, HK⟩ := hrel
        obtain ⟨wq, rfl⟩ : ∃ wq : World, wq = wr := ⟨_, rfl⟩
        by_cases hki : i < k
        · have q0 : (i : Int) < (k : Int) := by omega
          obtain ⟨p, hp⟩ : ∃ p, k - 1 = p := ⟨_, rfl⟩
          have wp : IntKind.i64.wrap ((k : Int) - 1) = (p : Int) := by rw [IntKind.wrap_i64]; omega
          have hlen := (unhide HK).1.len
          have HR := hide (show ∀ q, (swp l1 k p).getD q 0 = l.getD (rotI p m (m + 1) q) 0 from by subst hp; exact rot_down (by omega) hkm (by omega) (unhide HK).2.2)
          have hkN : k < N := by omega
          have hpN : p < N := by omega
          have kN : (k : Int) < (N : Int) := by omega
          have pN : (p : Int) < (N : Int) := by omega
          have k0 : (0 : Int) ≤ (k : Int) := by omega
          have p0 : (0 : Int) ≤ (p : Int) := by omega
          obtain ⟨c1, c2, f1, f2, u, c3⟩ := (unhide HK).1.swf hkN hpN
          have HW := hide ((unhide HK).1.swp hkN hpN)
          have HM := hide ((unhide HK).2.1.swp (i := k) (j := p) (by have := unhide HL; omega) (by omega) (by omega) (by omega) (by omega))
          have hmeas : p < k := by omega
          have hrng : i ≤ p ∧ p ≤ m := by omega
          generalize l1.getD k 0 = x at c1 HW c3
          generalize l1.getD p 0 = y at c2 HW c3
          clear hkN hpN hp hlen
          go_wp2_with fail
          go_big_region_o
          generalize ((wq.setCell ⟨g, k, none⟩ (.int .i64 y)).setCell ⟨g, p, none⟩ (.int .i64 x)).drew = w3 at HW ⊢
          clear c1 c2 f1 f2 c3
          go_wp2
          go_roundw
          case rel => exact ⟨p, _, by go_num, hrng.1, hrng.2, hide ⟨unhide HW, unhide HM, unhide HR⟩⟩
          case measure => simp [intOf]; omega
        · obtain rfl : i = k := by omega
          have q0 : ¬ (i : Int) < (i : Int) := by omega
          have HE := hide (one_right (f := dueJ jobs) (l := l) (l' := l1) (i := i) (unhide HO).1 (unhide H1) hi hj (unhide HI).1 (unhide HI).2 (by rw [(unhide HO).1]; exact (unhide HK).2.2))
          go_wp2
          (try simp only [Exit.inBlock, Exit.then])
          refine bodyPost_ret (results_none rfl _ _ _) rfl ?_
          exact ⟨rfl, l1, (unhide HK).1, (unhide HK).2.1, unhide HE⟩
end Go.Proofs.Ytjgjgilpebeelaa
