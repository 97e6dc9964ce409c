/-
  Crane (layer 18): the closure that compares two jobs by their due times; the library's insertion sort with it.
-/
import Derived.Test.YtjgjgilpebeelaaCraS
import Derived.Test.YtjgjgilpebeelaaCraP
import Derived.Test.YtjgjgilpebeelaaRowK
namespace Go.Proofs.Ytjgjgilpebeelaa
open Go.RowKit

def jbC (s : Jb) : List Value := [.int .i64 s.1, .int .i64 s.2]
abbrev jbA (s : Jb) : Array Value := #[.int .i64 s.1, .int .i64 s.2]
theorem jbC_len (s : Jb) : (jbC s).length = 2 := rfl
/-- Jobs, in a row that is not block b. -/
abbrev JbsIn (b : Nat) (w : World) (A : Option Addr) (l : List Jb) : Prop := RowIn jbC b w A l
/-- The captured variable, in block jb, holds the jobs; no block of theirs is block g. -/
structure Cap (jobs : List Jb) (jb g : Nat) (A : Option Addr) (c : Nat) (w : World) : Prop where
  box : w.cell? ⟨jb, 0, none⟩ = some (.slice A jobs.length c)
  ne : jb ≠ g
  jobs : JbsIn g w A jobs
theorem Cap.grown {jobs : List Jb} {jb g c : Nat} {A : Option Addr} {w w' : World} (h : Cap jobs jb g A c w) (hg : w.grownBy w' (some g)) : Cap jobs jb g A c w' :=
  ⟨hg.cell h.box (by simpa using h.ne), h.ne, h.jobs.grown hg⟩
theorem Cap.below {jobs : List Jb} {jb g c : Nat} {A : Option Addr} {w w' : World} (h : Cap jobs jb g A c w) (hb : Below w.heap.size w w') : Cap jobs jb g A c w' :=
  ⟨kept hb h.box, h.ne, h.jobs.keep hb⟩
abbrev bdV (jb : Nat) : Value := .func (.func 41) #[] #[.pointer (some ⟨jb, 0, none⟩)]
set_option maxHeartbeats 1000000 in
theorem bd1_any (jobs : List Jb) (x y : Int) (jb g c : Nat) (A : Option Addr) (w : World) (h : Cap jobs jb g A c w) (hx : 0 ≤ x ∧ x < (jobs.length : Int)) (hy : 0 ≤ y ∧ y < (jobs.length : Int)) :
    Calls Try.prog 41 #[.int .i64 x, .int .i64 y, .pointer (some ⟨jb, 0, none⟩)] w fun e w' => e = .returned (.int .i64 (Lib.compareInt (dueJ jobs x) (dueJ jobs y))) ∧ Below w.heap.size w w' := by
  obtain ⟨i, rfl⟩ := Int.eq_ofNat_of_zero_le hx.1
  obtain ⟨j, rfl⟩ := Int.eq_ofNat_of_zero_le hy.1
  have z0 := h.box
  obtain ⟨q, off, rfl, _, hc⟩ := h.jobs.at jbC_len (i := i) (by omega) ((0, 0) : Jb)
  obtain ⟨q', off', e', _, hd⟩ := h.jobs.at jbC_len (i := j) (by omega) ((0, 0) : Jb)
  injection e' with e'
  injection e' with e1 e2 e3
  subst e1; subst e2
  have c1 := hc 1 _ (show (jbC (jobs.getD i (0, 0)))[1]? = some (.int .i64 (jobs.getD i (0, 0)).2) from rfl)
  have d1 := hd 1 _ (show (jbC (jobs.getD j (0, 0)))[1]? = some (.int .i64 (jobs.getD j (0, 0)).2) from rfl)
  have i0 : (0 : Int) ≤ (i : Int) := hx.1
  have j0 : (0 : Int) ≤ (j : Int) := hy.1
  have i1 : (i : Int) < (jobs.length : Int) := hx.2
  have j1 : (j : Int) < (jobs.length : Int) := hy.2
  have HR := hide (show Lib.compareInt (dueJ jobs (i : Int)) (dueJ jobs (j : Int)) = Lib.compareInt (jobs.getD i (0, 0)).2 (jobs.getD j (0, 0)).2 from rfl)
  have H0 := hide (Below.refl w.heap.size w)
  generalize (jobs.getD i (0, 0)).2 = u at c1 HR
  generalize (jobs.getD j (0, 0)).2 = v at d1 HR
  clear hc hd h hx hy
  replace z0 := After.cell z0
  replace c1 := After.cell c1
  replace d1 := After.cell d1
  go_enter Try.func41, Try.ntmps41
  go_wp2_with fail
  refine wp_region_after (by kernel_rfl) (by kernel_rfl) ?_
  repeat (go_big_quiet_step ((first | (go_at_call 42; exact After.call ((Try.cmp_Compare_int _ _ _).mono fun e w' h => ⟨h.1, by rw [h.2]; exact Below.refl _ _⟩)))))
  refine wpQuiet_nil ?_
  rintro _ ⟨t, rfl⟩
  go_wp2
  go_ret
  exact ⟨ret_int (unhide HR).symm, t.is⟩
theorem SrW.ask {jobs : List Jb} {jb g c N : Nat} {A : Option Addr} {w0 w : World} {l : List Int} (h : SrW w0 g N l w) (hc : Cap jobs jb g A c w0) (hN : N = jobs.length) {i j : Nat} (hi : i < N) (hj : j < N) (t : After w) :
    Calls Try.prog 41 #[.int .i64 (l.getD i 0), .int .i64 (l.getD j 0), .pointer (some ⟨jb, 0, none⟩)] t.to fun e w' => e = .returned (.int .i64 (Lib.compareInt (dueJ jobs (l.getD i 0)) (dueJ jobs (l.getD j 0)))) ∧ Below t.to.heap.size t.to w' :=
  bd1_any jobs _ _ jb g c A t.to ((hc.grown h.grown).below t.is) (by rw [← hN]; exact h.at hi) (by rw [← hN]; exact h.at hj)
theorem cmp_neg (u v : Int) : decide (Lib.compareInt u v < 0) = decide (u < v) := by
  unfold Lib.compareInt
  split
  · rename_i h; rw [decide_eq_true h]; rfl
  · rename_i h
    rw [decide_eq_false h]
    split <;> rfl
set_option maxHeartbeats 2000000 in
set_option maxRecDepth 100000 in
theorem isort_any (jobs : List Jb) (jb g c N : Nat) (A : Option Addr) (w0 : World) (a b : Nat) (l : List Int) (w : World) (hcp : Cap jobs jb g A c w0) (hNj : N = jobs.length) (hN : N ≤ 1000000) (h : SrW w0 g N l w) (hab : a ≤ b) (hbN : b ≤ N)
    (hasc : ∀ p q, a ≤ p → p < q → q < b → l.getD p 0 < l.getD q 0) :
    Calls Try.prog 46 #[.slice (some ⟨g, 0, none⟩) N N, .int .i64 a, .int .i64 b, bdV jb] w fun e w' => e = .returned (.tuple #[]) ∧ ∃ l', SrW w0 g N l' w' ∧ Mov a b l l' ∧ Srt (lexR (dueJ jobs)) a b l' := by
  have HCP := hide hcp
  have HNJ := hide hNj
  have HA := hide hasc
  have HL := hide h.len
  have mixed : Try.prog.follows .mixedOrders = true := by kernel_rfl
  have H0 := hide (show SrW w0 g N l w ∧ Mov a (a + 1) l l ∧ Srt (lexR (dueJ jobs)) a (a + 1) l from ⟨h, Mov.refl _ _ l, fun i j h1 h2 h3 => by omega⟩)
  have w0a : IntKind.i64.wrap ((a : Int) + 1) = ((a + 1 : Nat) : Int) := by rw [IntKind.wrap_i64]; omega
  clear hcp hNj hasc h
  go_enter Try.func46, Try.ntmps46
  go_wp2_with fail
  go_loopw [8] (fun iv wr => ∃ (i : Nat) (l1 : List Int), a < i ∧ (i ≤ b ∨ (a = b ∧ i = a + 1 ∧ l1 = l)) ∧ iv = .int .i64 i ∧ Hid (SrW w0 g N l1 wr ∧ Mov a i l l1 ∧ Srt (lexR (dueJ jobs)) a i l1)) (fun iv _ => b - (intOf iv).toNat)
  case atStart =>
    refine ⟨a + 1, l, by omega, ?_, rfl, H0⟩
    rcases Nat.lt_or_ge a b with h1 | h1
    · exact .inl h1
    · exact .inr ⟨by omega, rfl, rfl⟩
  case round =>
    clear w0a H0
    obtain ⟨i, l1, hai, hib, rfl, HS⟩ := hrel
    obtain ⟨wo, rfl⟩ : ∃ wo : World, wo = wr := ⟨_, rfl⟩
    by_cases hlt : i < b
    · have il : (i : Int) < (b : Int) := by omega
      have HI0 := hide (show SrW w0 g N l1 wo ∧ InsI (dueJ jobs) a i i l l1 from ⟨(unhide HS).1, InsI.start (unhide HS).2.1 (unhide HS).2.2 (fun p p1 p2 => unhide HA p i p1 p2 hlt)⟩)
      have hiN : i < N := by omega
      clear HS hib
      go_wp2
      go_loopw [9] (fun jv wr2 => ∃ (j : Nat) (l2 : List Int), a ≤ j ∧ j ≤ i ∧ jv = .int .i64 j ∧ Hid (SrW w0 g N l2 wr2 ∧ InsI (dueJ jobs) a i j l l2)) (fun jv _ => (intOf jv).toNat)
      case atStart => exact ⟨i, l1, by omega, Nat.le_refl _, rfl, HI0⟩
      case round =>
        clear HI0
        obtain ⟨j, l2, haj, hji, rfl, HJ⟩ := hrel
        obtain ⟨wq, rfl⟩ : ∃ wq : World, wq = wr := ⟨_, rfl⟩
        have HD := hide (fun hs => (unhide HJ).2.done hji hs)
        by_cases hja : a < j
        · have q0 : decide ((a : Int) < (j : Int)) = true := by rw [decide_eq_true_eq]; omega
          have q0' : (a : Int) < (j : Int) := by omega
          obtain ⟨p, hp⟩ : ∃ p, j - 1 = p := ⟨_, rfl⟩
          have wp : IntKind.i64.wrap ((j : Int) - 1) = (p : Int) := by rw [IntKind.wrap_i64]; omega
          have hjN : j < N := by omega
          have hpN : p < N := by omega
          have jN : (j : Int) < (N : Int) := by omega
          have pN : (p : Int) < (N : Int) := by omega
          have j0 : (0 : Int) ≤ (j : Int) := by omega
          have p0 : (0 : Int) ≤ (p : Int) := by omega
          have c1 := After.cell ((unhide HJ).1.cell hjN)
          have c2 := After.cell ((unhide HJ).1.cell hpN)
          have HC := hide (fun t => (unhide HJ).1.ask (unhide HCP) (unhide HNJ) hjN hpN t)
          have HG := hide (cmp_neg (dueJ jobs (l2.getD j 0)) (dueJ jobs (l2.getD p 0)))
          have HW := hide (fun W (hb : Below wq.heap.size wq W) => (unhide HJ).1.below hb)
          have HST := hide (show dueJ jobs (l2.getD j 0) < dueJ jobs (l2.getD p 0) → InsI (dueJ jobs) a i p l (swp l2 j p) from fun h9 => by
            subst hp; exact (unhide HJ).2.step hja hji (by have := unhide HL; omega) h9)
          have HPj := hide hp
          have hjip : p ≤ i := by omega
          have hap : a ≤ p := by omega
          have hpj : p < j := by omega
          obtain ⟨cv, hcv⟩ : ∃ cv, Lib.compareInt (dueJ jobs (l2.getD j 0)) (dueJ jobs (l2.getD p 0)) = cv := ⟨_, rfl⟩
          rw [hcv] at HC HG
          have HC := hide (unhide HC)
          have HG := hide (unhide HG)
          clear hcv
          by_cases hd : dueJ jobs (l2.getD j 0) < dueJ jobs (l2.getD p 0)
          · have hv : decide (cv < 0) = true := by rw [unhide HG]; exact decide_eq_true hd
            have hv' : cv < 0 := of_decide_eq_true hv
            have HS2 := hide (unhide HST hd)
            have HB := hide (fun W (hb : Below wq.heap.size wq W) => (unhide HW W hb).swf hjN hpN)
            have HB2 := hide (fun W (hb : Below wq.heap.size wq W) => (unhide HW W hb).swp hjN hpN)
            obtain ⟨x, hx⟩ : ∃ x, l2.getD j 0 = x := ⟨_, rfl⟩
            obtain ⟨y, hy⟩ : ∃ y, l2.getD p 0 = y := ⟨_, rfl⟩
            rw [hx] at c1 HC HB HB2
            rw [hy] at c2 HC HB HB2
            have HC := hide (unhide HC)
            have HB := hide (unhide HB)
            have HB2 := hide (unhide HB2)
            clear hx hy hd hlt hja hjN hpN hp
            go_wp2_with fail
            refine wp_region_after (by kernel_rfl) (by kernel_rfl) ?_
            repeat (go_big_quiet_step ((first | (go_at_call 41; exact After.call (unhide HC _)))))
            refine wpQuiet_nil ?_
            rintro _ ⟨t, rfl⟩
            clear c1 c2
            obtain ⟨c1, c2, f1, f2, u, c3⟩ := unhide HB t.to t.is
            have HW3 := hide (unhide HB2 t.to t.is)
            generalize t.to = w2 at *
            clear HB HB2 HC HW t
            go_wp2_with fail
            go_big_region_o
            generalize ((w2.setCell ⟨g, j, none⟩ (.int .i64 y)).setCell ⟨g, p, none⟩ (.int .i64 x)).drew = w3 at HW3 ⊢
            clear c1 c2 f1 f2 c3
            go_wp2
            go_roundw
            case rel => exact ⟨p, _, hap, hjip, by go_num, hide ⟨unhide HW3, unhide HS2⟩⟩
            case measure => simp [intOf]; omega
          · have hv : decide (cv < 0) = false := by rw [unhide HG]; exact decide_eq_false hd
            have hv' : ¬ cv < 0 := of_decide_eq_false hv
            have HD2 := hide (unhide HD (.inr ⟨hja, by rw [hp]; exact hd⟩))
            have HM := hide (unhide HJ).2.mov
            obtain ⟨x, hx⟩ : ∃ x, l2.getD j 0 = x := ⟨_, rfl⟩
            obtain ⟨y, hy⟩ : ∃ y, l2.getD p 0 = y := ⟨_, rfl⟩
            rw [hx] at c1 HC
            rw [hy] at c2 HC
            have HC := hide (unhide HC)
            have w1 : IntKind.i64.wrap ((i : Int) + 1) = ((i + 1 : Nat) : Int) := by rw [IntKind.wrap_i64]; omega
            clear hx hy hd hja hjN hpN hp
            go_wp2_with fail
            refine wp_region_after (by kernel_rfl) (by kernel_rfl) ?_
            repeat (go_big_quiet_step ((first | (go_at_call 41; exact After.call (unhide HC _)))))
            refine wpQuiet_nil ?_
            rintro _ ⟨t, rfl⟩
            clear c1 c2
            have HW3 := hide (unhide HW t.to t.is)
            generalize t.to = w2 at *
            clear HC HW t
            go_wp2
            go_roundw
            case rel => exact ⟨i + 1, l2, by omega, .inl (by omega), by go_num, hide ⟨unhide HW3, unhide HM, unhide HD2⟩⟩
            case measure => simp [intOf]; omega
        · have q0 : decide ((a : Int) < (j : Int)) = false := by rw [decide_eq_false_iff_not]; omega
          have q0' : ¬ (a : Int) < (j : Int) := by omega
          have HD2 := hide (unhide HD (.inl (by omega)))
          have HM := hide (unhide HJ).2.mov
          have HW := hide (fun W (hb : Below wq.heap.size wq W) => (unhide HJ).1.below hb)
          have w1 : IntKind.i64.wrap ((i : Int) + 1) = ((i + 1 : Nat) : Int) := by rw [IntKind.wrap_i64]; omega
          go_wp2_with fail
          refine wp_region_after (by kernel_rfl) (by kernel_rfl) ?_
          repeat (go_big_quiet_step (fail))
          refine wpQuiet_nil ?_
          rintro _ ⟨t, rfl⟩
          have HW3 := hide (unhide HW t.to t.is)
          generalize t.to = w2 at *
          clear HW t
          go_wp2
          go_roundw
          case rel => exact ⟨i + 1, l2, by omega, .inl (by omega), by go_num, hide ⟨unhide HW3, unhide HM, unhide HD2⟩⟩
          case measure => simp [intOf]; omega
    · have il : ¬ (i : Int) < (b : Int) := by omega
      go_wp2
      go_end0
      refine ⟨rfl, l1, (unhide HS).1, ?_⟩
      rcases hib with h1 | ⟨h1, h2, h3⟩
      · obtain rfl : i = b := by omega
        exact ⟨(unhide HS).2.1, (unhide HS).2.2⟩
      · subst h3; subst h1
        exact ⟨Mov.refl _ _ _, fun p q p1 p2 p3 => by omega⟩
end Go.Proofs.Ytjgjgilpebeelaa
