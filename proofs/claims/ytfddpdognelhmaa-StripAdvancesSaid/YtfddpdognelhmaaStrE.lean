/-
  Strips (layer 9): contracts of the statements' windows and of their sanity check.
-/
import Derived.Test.YtfddpdognelhmaaStrD
namespace Go.Proofs.Ytfddpdognelhmaa
open Go.RowKit

theorem sWin_len : ∀ (l : List Bool) (k : Nat), (sWin l k).length = l.length
  | [], _ => rfl
  | b :: r, k => by rw [sWin, List.length_cons, List.length_cons, sWin_len r]
theorem sWin_snoc : ∀ (l : List Bool) (k : Nat) (b : Bool), sWin (l ++ [b]) k = sWin l k ++ [if b then ((k + l.length : Nat) : Int) + 1 else 0]
  | [], k, b => by simp [sWin]
  | a :: r, k, b => by
    rw [List.cons_append, sWin, sWin, sWin_snoc r, List.cons_append, show k + 1 + r.length = k + (a :: r).length by rw [List.length_cons]; omega]
/-- The windows under construction. -/
def sPart (n : Nat) (bits : List Bool) : List Int := sWin bits 0 ++ List.replicate (n - bits.length) 0
theorem sPart_len {n : Nat} {bits : List Bool} (h : bits.length ≤ n) : (sPart n bits).length = n := by
  unfold sPart; rw [List.length_append, List.length_replicate, sWin_len]; omega
theorem sPart_no {n : Nat} {bits : List Bool} (h : bits.length < n) : sPart n (bits ++ [false]) = sPart n bits := by
  unfold sPart
  rw [sWin_snoc, List.length_append, List.length_singleton, show n - bits.length = (n - (bits.length + 1)) + 1 by omega, List.replicate_succ, List.append_assoc]
  rfl
theorem sPart_yes {n : Nat} {bits : List Bool} (h : bits.length < n) : sPart n (bits ++ [true]) = (sPart n bits).set bits.length ((bits.length : Int) + 1) := by
  unfold sPart
  rw [sWin_snoc, List.length_append, List.length_singleton, show n - bits.length = (n - (bits.length + 1)) + 1 by omega, List.replicate_succ, List.append_assoc, List.set_append_right _ _ (by rw [sWin_len]; exact Nat.le_refl _), sWin_len, Nat.sub_self]
  simp
theorem sPart_all {n : Nat} {bits : List Bool} (h : bits.length = n) : sPart n bits = sWin bits 0 := by
  unfold sPart; rw [h, Nat.sub_self]; simp
/-- What the loop over the windows keeps. -/
structure WinS (H b g g' n : Nat) (bits : List Bool) (fs : List Int) (w0 wr : World) : Prop where
  src : Src b b wr
  wrow : RowB wr g (sPart n bits)
  frow : RowB wr g' fs
  flen : fs.length = n
  bel : Below H w0 wr
  hb : b < g
  hg : g < g'
  hH : H ≤ b
section
variable {H b g g' n : Nat} {bits : List Bool} {fs : List Int} {w0 wr w1 : World}
theorem WinS.read (h : WinS H b g g' n bits fs w0 wr) (hs : Src b b w1) (hg : wr.grownBy w1 (some b)) : WinS H b g g' n bits fs w0 w1 :=
  ⟨hs, (hg.block _ h.wrow.lt (by have := h.hb; simp; omega)).trans h.wrow, (hg.block _ h.frow.lt (by have := h.hb; have := h.hg; simp; omega)).trans h.frow, h.flen, h.bel.grown hg (by have := h.wrow.lt; have := h.hb; have := h.hH; omega) (fun k e => by injection e with e; have := h.hH; omega), h.hb, h.hg, h.hH⟩
theorem WinS.alloc (h : WinS H b g g' n bits fs w0 wr) (o : Obj) : WinS H b g g' n bits fs w0 (wr.alloc o) :=
  ⟨h.src.keep ((Below.refl _ _).alloc (Nat.le_refl _) o), h.wrow.keep ((Below.refl _ _).alloc (Nat.le_refl _) o), h.frow.keep ((Below.refl _ _).alloc (Nat.le_refl _) o), h.flen, h.bel.alloc (by have := h.wrow.lt; have := h.hb; have := h.hH; omega) o, h.hb, h.hg, h.hH⟩
theorem WinS.no (h : WinS H b g g' n bits fs w0 wr) (hn : bits.length < n) : WinS H b g g' n (bits ++ [false]) fs w0 wr :=
  ⟨h.src, by rw [sPart_no hn]; exact h.wrow, h.frow, h.flen, h.bel, h.hb, h.hg, h.hH⟩
theorem WinS.yes (h : WinS H b g g' n bits fs w0 wr) (hn : bits.length < n) : WinS H b g g' n (bits ++ [true]) fs w0 (wr.setCell ⟨g, bits.length, none⟩ (.int .i64 ((bits.length : Int) + 1))) :=
  ⟨h.src.grown (grown_set wr g _ _) (fun k e => by injection e with e; have := h.hb; omega), by rw [sPart_yes hn]; exact h.wrow.put _ _, heap_setOther h.frow (by have := h.hg; omega) _, h.flen, h.bel.setCell (by have := h.hb; have := h.hH; show H ≤ g; omega) _, h.hb, h.hg, h.hH⟩
theorem WinS.fault (h : WinS H b g g' n bits fs w0 wr) (k : Nat) (x : Int) : WinS H b g g' n bits (fs.set k x) w0 (wr.setCell ⟨g', k, none⟩ (.int .i64 x)) :=
  ⟨h.src.grown (grown_set wr g' _ _) (fun j e => by injection e with e; have := h.hb; have := h.hg; omega), heap_setOther h.wrow (by have := h.hg; omega) _, h.frow.put _ _, by rw [List.length_set]; exact h.flen, h.bel.setCell (by have := h.hb; have := h.hg; have := h.hH; show H ≤ g'; omega) _, h.hb, h.hg, h.hH⟩
end
/-- Windows with different bags, and faults. -/
def Wins (w : World) (e : Ending) (w' : World) : Prop :=
  ∃ (bits : List Bool) (fs : List Int) (g g' : Nat), e = .returned (.tuple #[.slice (some ⟨g, 0, none⟩) bits.length bits.length, .slice (some ⟨g', 0, none⟩) bits.length bits.length]) ∧ 1 ≤ bits.length ∧ bits.length ≤ 8 ∧ fs.length = bits.length ∧
    RowB w' g (sWin bits 0) ∧ RowB w' g' fs ∧ w.heap.size ≤ g ∧ w.heap.size ≤ g' ∧ Below w.heap.size w w'
def fltF (i : Nat) : Int := if i = 3 then 1 else if i = 4 then 2 else 0
theorem five_flts (w : World) : ∀ i, i < 5 → (w.alloc (.cells #[.int .i64 0, .int .i64 0, .int .i64 0, .int .i64 1, .int .i64 2] 3)).cell? ⟨w.heap.size, i, none⟩ = some (.int .i64 (fltF i)) := fun i hi => by
  obtain h | h | h | h | h : i = 0 ∨ i = 1 ∨ i = 2 ∨ i = 3 ∨ i = 4 := by omega
  all_goals subst h; simp [go_sem, fltF]

set_option maxRecDepth 100000 in
set_option maxHeartbeats 2000000 in
theorem windows_any (A : Option Addr) (n c : Nat) (w : World) (hc : n ≤ c) (h : IntsIn w.heap.size w A n) :
    Calls Try.prog 9 #[.slice A n c] w (Wins w) := by
  have HI := hide h
  have HC := hide hc
  clear h hc
  go_enter Try.func9, Try.ntmps9
  go_wp2_with fail
  refine (new_any A n c w (unhide HC) (unhide HI)).mono ?_
  rintro e w1 ⟨rfl, hs1, hb1⟩
  have HB1 := hide hb1
  clear hb1
  generalize hH : w.heap.size = H at *
  have HH := hide hH
  clear hH
  go_wp2_with fail
  refine (range_any H H 1 8 w1 hs1 (by omega) (by omega) (by omega)).mono ?_
  rintro e w2 ⟨x, rfl, hx1, hx2, hs2, hg2⟩
  obtain ⟨m, rfl⟩ := Int.eq_ofNat_of_zero_le (show 0 ≤ x by omega)
  have hmk := smake m (by omega)
  obtain ⟨g, hg⟩ : ∃ g : Nat, w2.heap.size = g := ⟨_, rfl⟩
  have hlt := hs2.lt
  have hw2 : Below H w w2 := (unhide HB1).grown hg2 (Nat.le_of_lt hs1.lt) (fun k e => by injection e with e; omega)
  have e1 := below_new (w := w2) (Below.refl w2.heap.size w2) (.cells (madeCells #[.int .i64 0] m) 3)
  have e2 := below_new e1 (.cells (madeCells #[.int .i64 0] m) 3)
  have hS : WinS H H g (g + 1) m [] (List.replicate m 0) w ((w2.alloc (.cells (madeCells #[.int .i64 0] m) 3)).alloc (.cells (madeCells #[.int .i64 0] m) 3)) := by
    refine ⟨hs2.keep e2, ?_, ?_, List.length_replicate, (hw2.alloc (by omega) _).alloc (by rw [World.size_alloc]; omega) _, by omega, by omega, Nat.le_refl _⟩
    · have := RowB.zeros w2 m
      rw [hg] at this
      exact this.keep ((Below.refl _ _).alloc (Nat.le_refl _) _)
    · have := RowB.zeros (w2.alloc (.cells (madeCells #[.int .i64 0] m) 3)) m
      rw [World.size_alloc, hg] at this
      exact this
  have HS := hide hS
  have HG := hide hg
  have m1 : 1 ≤ m := by omega
  have m8 : m ≤ 8 := by omega
  clear hs1 hs2 hg2 hlt hw2 e1 e2 hS hg hx1 hx2
  go_wp2
  rw [unhide HG]
  go_loopw [7] (fun i wr => ∃ (bits : List Bool) (fs : List Int), bits.length ≤ m ∧ i = .int .i64 bits.length ∧ Hid (WinS H H g (g + 1) m bits fs w wr)) (fun i _ => m - (intOf i).toNat)
  case atStart => exact ⟨[], _, Nat.zero_le _, rfl, Lib.hid (unhide HS)⟩
  case round =>
    obtain ⟨bits, fs, hk, rfl, hS⟩ := hrel
    obtain ⟨wo, rfl⟩ : ∃ wo : World, wo = wr := ⟨_, rfl⟩
    have HS1 := hide hS.out
    clear hS
    by_cases hlt : bits.length < m
    · have kl : (bits.length : Int) < (m : Int) := by omega
      have k0 : (0 : Int) ≤ (bits.length : Int) := by omega
      have HR := hide (unhide HS1).src
      go_wp2_with fail
      refine (n_any H H 2 wo (unhide HR) (by omega) (by omega)).mono ?_
      rintro e w3 ⟨x, rfl, hx1, hx2, hs3, hg3⟩
      have HS3 := hide ((unhide HS1).read hs3 hg3)
      clear hs3 hg3 HR
      cases hx : (x == 0) with
      | true =>
        have cz := (unhide HS3).wrow.cell (k := bits.length) (by rw [sPart_len hk]; exact hlt)
        have fz := (unhide HS3).wrow.frozen bits.length
        have hY := (unhide HS3).yes hlt
        obtain ⟨V, hV⟩ : ∃ V : World, w3.setCell ⟨g, bits.length, none⟩ (.int .i64 ((bits.length : Int) + 1)) = V := ⟨_, rfl⟩
        rw [hV] at hY
        have hvb := hY.src.lt
        have HS4 := hide (hY.alloc (.cells #[.int .i64 0, .int .i64 0, .int .i64 0, .int .i64 1, .int .i64 2] 3))
        have HP := hide (five_flts V)
        clear hY
        go_wp2_with fail
        with_reducible refine (pick_any H H V.heap.size 5 fltF (V.alloc (.cells #[.int .i64 0, .int .i64 0, .int .i64 0, .int .i64 1, .int .i64 2] 3)) (unhide HS4).src (by omega) (by omega) (fun e => by injection e with e; omega) (unhide HP)).mono ?_
        rintro e w5 ⟨j, _, rfl, hs5, hg5⟩
        have HS5 := hide ((unhide HS4).read hs5 hg5)
        have HS6 := hide ((unhide HS5).fault bits.length (fltF j))
        have dz := (unhide HS5).frow.cell (k := bits.length) (by rw [(unhide HS5).flen]; exact hlt)
        have ez := (unhide HS5).frow.frozen bits.length
        generalize fltF j = fl at *
        generalize fs.getD bits.length 0 = y at *
        clear hs5 hg5 cz fz
        go_wp2
        go_roundw
        case rel => exact ⟨bits ++ [true], fs.set bits.length fl, by rw [List.length_append, List.length_singleton]; omega, by rw [List.length_append, List.length_singleton]; go_num, Lib.hid (unhide HS6)⟩
        case measure => simp [intOf]; omega
      | false =>
        have HS4 := hide (((unhide HS3).no hlt).alloc (.cells #[.int .i64 0, .int .i64 0, .int .i64 0, .int .i64 1, .int .i64 2] 3))
        have HP := hide (five_flts w3)
        go_wp2_with fail
        with_reducible refine (pick_any H H w3.heap.size 5 fltF (w3.alloc (.cells #[.int .i64 0, .int .i64 0, .int .i64 0, .int .i64 1, .int .i64 2] 3)) (unhide HS4).src (by omega) (by omega) (fun e => by injection e with e; have := (unhide HS3).src.lt; omega) (unhide HP)).mono ?_
        rintro e w5 ⟨j, _, rfl, hs5, hg5⟩
        have HS5 := hide ((unhide HS4).read hs5 hg5)
        have HS6 := hide ((unhide HS5).fault bits.length (fltF j))
        have dz := (unhide HS5).frow.cell (k := bits.length) (by rw [(unhide HS5).flen]; exact hlt)
        have ez := (unhide HS5).frow.frozen bits.length
        generalize fltF j = fl at *
        generalize fs.getD bits.length 0 = y at *
        clear hs5 hg5
        go_wp2
        go_roundw
        case rel => exact ⟨bits ++ [false], fs.set bits.length fl, by rw [List.length_append, List.length_singleton]; omega, by rw [List.length_append, List.length_singleton]; go_num, Lib.hid (unhide HS6)⟩
        case measure => simp [intOf]; omega
    · obtain hk' : bits.length = m := by omega
      have kl : ¬ (bits.length : Int) < (m : Int) := by omega
      have HK := hide hk'
      have HQ := hide (sPart_all hk')
      clear hk hlt hk'
      go_wp2
      go_ret2
      have hS := unhide HS1
      refine ⟨bits, fs, g, g + 1, by rw [unhide HK]; rfl, by rw [unhide HK]; exact m1, by rw [unhide HK]; exact m8, by rw [unhide HK]; exact hS.flen, ?_, hS.frow, ?_, ?_, ?_⟩
      · have := hS.wrow; rw [unhide HQ] at this; exact this
      · have := hS.hb; have := hS.hH; have := unhide HH; omega
      · have := hS.hb; have := hS.hg; have := hS.hH; have := unhide HH; omega
      · rw [unhide HH]; exact hS.bel

theorem row_lit4 (w : World) (a b c d : Int) : RowB (w.alloc (.cells #[.int .i64 a, .int .i64 b, .int .i64 c, .int .i64 d] 3)) w.heap.size [a, b, c, d] := by
  unfold RowB; rw [heap_alloc_new]; rfl
theorem row_lit2 (w : World) (a b : Int) : RowB (w.alloc (.cells #[.int .i64 a, .int .i64 b] 3)) w.heap.size [a, b] := by
  unfold RowB; rw [heap_alloc_new]; rfl

set_option maxHeartbeats 2000000 in
theorem saw_any (w : World) : Calls Try.prog 8 #[] w fun e w' => e = .returned (.bool true) ∧ Below w.heap.size w w' := by
  have b1 := (Below.refl w.heap.size w).alloc (Nat.le_refl _) (.cells #[.int .i64 1, .int .i64 0, .int .i64 2, .int .i64 0] 3)
  have hA := adv_any (w.heap.size + 1) [1, 0, 2, 0] [] true (some ⟨w.heap.size, 0, none⟩) none 4 0 _ (by decide) ((row_lit4 w 1 0 2 0).nums (by omega)) (NumsIn.nil _ _ none)
  rw [show sAdv [1, 0, 2, 0] [] true = ([0, 1, 0, 2], 0) by decide +kernel] at hA
  have HA := hide hA
  have HB1 := hide b1
  clear hA b1
  go_enter Try.func8, Try.ntmps8
  go_wp2_with fail
  refine (unhide HA).mono ?_
  rintro e w1 ⟨g, rfl, hg, hr, hb⟩
  have HB2 := hide (onward (unhide HB1) hb)
  have b3 := (Below.refl w1.heap.size w1).alloc (Nat.le_refl _) (.cells #[.int .i64 0, .int .i64 1, .int .i64 0, .int .i64 2] 3)
  have hr3 := hr.keep b3
  have HB3 := hide (onward (unhide HB2) b3)
  have HI := hide (kints_any (w1.heap.size + 1) [0, 1, 0, 2] [0, 1, 0, 2] (some ⟨g, 0, none⟩) (some ⟨w1.heap.size, 0, none⟩) 4 4 _ (by decide) (hr3.nums (by have := hr.lt; omega)) ((row_lit4 w1 0 1 0 2).nums (by omega)))
  have HR3 := hide hr3
  clear hb hr b3 hr3 hg
  go_wp2_with fail
  refine (unhide HI).mono ?_
  rintro e w4 ⟨rfl, hb4⟩
  have hr4 := (unhide HR3).keep hb4
  have HB4 := hide (onward (unhide HB3) hb4)
  have HF := hide (free_any (w4.heap.size) [0, 1, 0, 2] (some ⟨g, 0, none⟩) 4 w4 (by decide) (hr4.nums (by have := hr4.lt; omega)))
  have HG := hide (bags_any [0, 1, 0, 2] (some ⟨g, 0, none⟩) 4 w4 (by decide) (hr4.nums (by have := hr4.lt; omega)))
  rw [show sFree [0, 1, 0, 2] = 2 by decide] at HF
  rw [show sBags [0, 1, 0, 2] = [2, 1] by decide] at HG
  clear hb4 hr4
  go_wp2_with (first | (go_at_call 15; refine (unhide HF).mono ?_; rintro e w5 ⟨rfl, rfl⟩))
  refine (unhide HG).mono ?_
  rintro e w6 ⟨v, rfl, hown, hb6⟩
  obtain ⟨A6, c6, rfl⟩ := own_form hown
  have HB6 := hide (onward (unhide HB4) hb6)
  have b7 := (Below.refl w6.heap.size w6).alloc (Nat.le_refl _) (.cells #[.int .i64 2, .int .i64 1] 3)
  have HB7 := hide (onward (unhide HB6) b7)
  have HI7 := hide (kints_any (w6.heap.size + 1) [2, 1] [2, 1] A6 (some ⟨w6.heap.size, 0, none⟩) c6 2 _ (by decide) ((nums_own hown (.inr (Nat.le_succ _))).keep b7) ((row_lit2 w6 2 1).nums (by omega)))
  clear hown hb6 b7
  go_wp2_with fail
  refine (unhide HI7).mono ?_
  rintro e w8 ⟨rfl, hb8⟩
  have HB8 := hide (onward (unhide HB7) hb8)
  clear hb8
  go_wp2
  go_ret
  exact ⟨rfl, unhide HB8⟩
end Go.Proofs.Ytfddpdognelhmaa
