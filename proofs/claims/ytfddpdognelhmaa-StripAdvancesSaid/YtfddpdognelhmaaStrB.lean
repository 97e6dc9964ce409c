/-
  Strips (layer 9): contracts of a tick, of the program's and of the document's own.
-/
import Derived.Test.YtfddpdognelhmaaStrA
import Derived.Deep.RegionHeld3
import Derived.Deep.OwnRows
namespace Go.Proofs.Ytfddpdognelhmaa
open Go.RowKit

/-- A row of numbers that is known whole. -/
def RowB (w : World) (g : Nat) (l : List Int) : Prop := w.heap[g]? = some (.cells (l.map (Value.int .i64)).toArray 3 (0, 0))
theorem RowB.cell {w : World} {g : Nat} {l : List Int} (h : RowB w g l) {k : Nat} (hk : k < l.length) : w.cell? ⟨g, k, none⟩ = some (.int .i64 (l.getD k 0)) := by
  rw [Lib.cell_of_heap h, List.getElem?_toArray, List.getElem?_map, List.getElem?_eq_getElem hk, at_k hk]; rfl
theorem RowB.frozen {w : World} {g : Nat} {l : List Int} (h : RowB w g l) (k : Nat) : w.frozen? ⟨g, k, none⟩ = false := frozen_of_row w g k _ _ h
theorem RowB.nums {w : World} {g : Nat} {l : List Int} (h : RowB w g l) {b : Nat} (hb : g ≠ b) : NumsIn b w (some ⟨g, 0, none⟩) l := fun _ => ⟨g, 0, rfl, hb, fun i hi => by rw [Nat.zero_add]; exact h.cell hi⟩
theorem RowB.lt {w : World} {g : Nat} {l : List Int} (h : RowB w g l) : g < w.heap.size := (Array.getElem?_eq_some_iff.1 h).1
theorem RowB.keep {w w1 : World} {g : Nat} {l : List Int} (h : RowB w g l) (hb : Below w.heap.size w w1) : RowB w1 g l := heap_below h hb
theorem RowB.put {w : World} {g : Nat} {l : List Int} (h : RowB w g l) (k : Nat) (x : Int) : RowB (w.setCell ⟨g, k, none⟩ (.int .i64 x)) g (l.set k x) := by
  unfold RowB
  rw [heap_set h, List.map_set, List.setIfInBounds_toArray]
theorem RowB.zeros (w : World) (n : Nat) : RowB (w.alloc (.cells (madeCells #[.int .i64 0] n) 3)) w.heap.size (List.replicate n 0) := by
  unfold RowB
  rw [heap_alloc_new]
  have : madeCells #[Value.int .i64 0] n = ((List.replicate n (0 : Int)).map (Value.int .i64)).toArray := by
    apply Array.toList_inj.1
    rw [toList_madeCells_one, List.map_replicate]
  rw [this]
/-- What a tick answers. -/
def Ticks (l : List Int) (left : Int) (w : World) (e : Ending) (w' : World) : Prop :=
  ∃ g, e = .returned (.tuple #[.slice (some ⟨g, 0, none⟩) l.length l.length, .int .i64 left]) ∧ w.heap.size ≤ g ∧ RowB w' g l ∧ Below w.heap.size w w'
theorem smake (n : Nat) (hn : n ≤ 1000000) (w : World) : (Instr.makeSlice 22 (.int .i64 (n : Int)) (.int .i64 (n : Int))).run Try.prog w = .ok (.slice (some ⟨w.heap.size, 0, none⟩) n n) (w.alloc (.cells (madeCells #[.int .i64 0] n) 3)) :=
  run_make_row' 22 3 (.int .i64 0) 8 Try.underlying22 linfo_int rfl .i64 .i64 n (by omega) (by omega) w
/-- The windows behind the tick, window by window. -/
structure AdvS (H : Nat) (s f : List Int) (op : Bool) (k : Nat) (W wr : World) : Prop where
  bel : Below H W wr
  row : RowB wr H (sOut s f op k)

set_option maxHeartbeats 2000000 in
theorem adv_any (b : Nat) (s f : List Int) (op : Bool) (A A' : Option Addr) (c c' : Nat) (w : World) (hz : s.length ≤ 1000000) (h : NumsIn b w A s) (h' : NumsIn b w A' f) :
    Calls Try.prog 10 #[.slice A s.length c, .slice A' f.length c', .bool op] w (Ticks (sAdv s f op).1 (sAdv s f op).2 w) := by
  have hmk := smake s.length hz
  obtain ⟨H, hH⟩ : ∃ H : Nat, w.heap.size = H := ⟨_, rfl⟩
  have HS := hide (show AdvS w.heap.size s f op 0 w (w.alloc (.cells (madeCells #[.int .i64 0] s.length) 3)) from ⟨(Below.refl _ _).alloc (Nat.le_refl _) _, RowB.zeros w s.length⟩)
  have HH := hide h
  have HH' := hide h'
  have HHz := hide hH
  clear h h'
  unfold Ticks
  rw [hH] at HS ⊢
  clear hH
  go_enter Try.func10, Try.ntmps10
  go_wp2
  rw [unhide HHz]
  go_loopw [9, 18] (fun lf i wr => ∃ k : Nat, k ≤ s.length ∧ i = .int .i64 k ∧ lf = .int .i64 (sLef s f op k) ∧ Hid (AdvS H s f op k w wr)) (fun _ i _ => s.length - (intOf i).toNat)
  case atStart => exact ⟨0, Nat.zero_le _, rfl, by rw [sLef_zero], Lib.hid (unhide HS)⟩
  case round =>
    obtain ⟨k, hk, rfl, rfl, hS⟩ := hrel
    obtain ⟨wo, rfl⟩ : ∃ wo : World, wo = wr := ⟨_, rfl⟩
    have hbl : Below w.heap.size w wo := by rw [unhide HHz]; exact hS.out.bel
    by_cases hlt : k < s.length
    · obtain ⟨g, off, rfl, _, c0⟩ := num_at ((unhide HH).keep hbl) hlt
      have kl : (k : Int) < (s.length : Int) := by omega
      have k0 : (0 : Int) ≤ (k : Int) := by omega
      have HF := hide (flt_any b k f A' c' wo ((unhide HH').keep hbl))
      have HG := hide (goal_any b k s f op _ c wo hz hlt ((unhide HH).keep hbl))
      have HSt := hide hS.out
      have HL := hide hlt
      have hrl := sOut_len s f op k
      clear hbl hS
      by_cases h0 : s.getD k 0 = 0
      · obtain ⟨e1, e2⟩ := sStep_no (f := f) (op := op) hlt h0
        have e3 := sLef_no (f := f) (op := op) hlt
        have HQ := hide (show AdvS H s f op (k + 1) w wo from ⟨(unhide HSt).bel, by rw [e1]; exact (unhide HSt).row⟩)
        have HE := hide e2
        rw [h0] at c0
        rw [e3]
        clear h0 e1 e2 e3 hrl
        go_wp2
        go_roundw
        case rel => exact ⟨k + 1, by omega, by go_num, by rw [unhide HE], Lib.hid (unhide HQ)⟩
        case measure => simp [intOf]; omega
      · have z0 : (s.getD k 0 == 0) = false := by rw [beq_eq_false_iff_ne]; exact h0
        have hle := sGl_le (f := f) (op := op) hlt
        by_cases hto : sGl s f op k < s.length
        · obtain ⟨e1, e2⟩ := sStep_set hlt h0 hto
          have e3 := sLef_no (f := f) (op := op) hlt
          have HQ := hide (show AdvS H s f op (k + 1) w (wo.setCell ⟨H, sGl s f op k, none⟩ (.int .i64 (s.getD k 0))) from ⟨(unhide HSt).bel.setCell (Nat.le_refl _) _, by rw [e1]; exact (unhide HSt).row.put _ _⟩)
          have HE := hide e2
          have cz := (unhide HSt).row.cell (k := sGl s f op k) (by omega)
          have fz := (unhide HSt).row.frozen (sGl s f op k)
          rw [e3]
          generalize sGl s f op k = t at *
          generalize s.getD k 0 = x at *
          generalize sFlt f k = fl at *
          have tl : (t : Int) < (s.length : Int) := by omega
          have t0 : (0 : Int) ≤ (t : Int) := by omega
          clear h0 e1 e2 e3 hrl hle
          go_wp2_with (first
            | (go_at_call 26; refine (unhide HF).mono ?_; rintro e w1 ⟨rfl, rfl⟩)
            | (go_at_call 25; refine (unhide HG).mono ?_; rintro e w1 ⟨rfl, rfl⟩))
          go_roundw
          case rel => exact ⟨k + 1, by omega, by go_num, by rw [unhide HE], Lib.hid (unhide HQ)⟩
          case measure => simp [intOf]; omega
        · obtain ⟨e1, e2⟩ := sStep_left hlt h0 hto
          have HQ := hide (show AdvS H s f op (k + 1) w wo from ⟨(unhide HSt).bel, by rw [e1]; exact (unhide HSt).row⟩)
          have HE := hide e2
          have e3 := sLef_no (f := f) (op := op) hlt
          rw [e3]
          generalize sGl s f op k = t at *
          generalize s.getD k 0 = x at *
          generalize sFlt f k = fl at *
          have tl : ¬ (t : Int) < (s.length : Int) := by omega
          clear h0 e1 e2 e3 hrl hle
          go_wp2_with (first
            | (go_at_call 26; refine (unhide HF).mono ?_; rintro e w1 ⟨rfl, rfl⟩)
            | (go_at_call 25; refine (unhide HG).mono ?_; rintro e w1 ⟨rfl, rfl⟩))
          go_roundw
          case rel => exact ⟨k + 1, by omega, by go_num, by rw [unhide HE], Lib.hid (unhide HQ)⟩
          case measure => simp [intOf]; omega
    · obtain rfl : k = s.length := by omega
      have kl : ¬ (s.length : Int) < (s.length : Int) := by omega
      have HSt := hide hS.out
      have HE := hide (show (sAdv s f op).1.length = s.length from sAdv_len s f op)
      clear hS hbl
      go_wp2
      go_ret2
      exact ⟨H, by rw [unhide HE]; rfl, Nat.le_refl _, (unhide HSt).row, (unhide HSt).bel⟩

set_option maxHeartbeats 2000000 in
theorem radv_any (b : Nat) (s f : List Int) (op : Bool) (A A' : Option Addr) (c c' : Nat) (w : World) (hz : s.length ≤ 1000000) (h : NumsIn b w A s) (h' : NumsIn b w A' f) :
    Calls Try.prog 11 #[.slice A s.length c, .slice A' f.length c', .bool op] w (Ticks (sAdv s f op).1 (sAdv s f op).2 w) := by
  have hmk := smake s.length hz
  obtain ⟨H, hH⟩ : ∃ H : Nat, w.heap.size = H := ⟨_, rfl⟩
  have HS := hide (show AdvS w.heap.size s f op 0 w (w.alloc (.cells (madeCells #[.int .i64 0] s.length) 3)) from ⟨(Below.refl _ _).alloc (Nat.le_refl _) _, RowB.zeros w s.length⟩)
  have HH := hide h
  have HH' := hide h'
  have HHz := hide hH
  have s1 : IntKind.i64.wrap ((s.length : Int) - 1) = (s.length : Int) - 1 := IntWalk.i64_in _ (by omega)
  clear h h'
  unfold Ticks
  rw [hH] at HS ⊢
  clear hH
  go_enter Try.func11, Try.ntmps11
  go_wp2
  rw [unhide HHz]
  go_loopw [9, 10] (fun lf i wr => ∃ k : Nat, k ≤ s.length ∧ i = .int .i64 k ∧ lf = .int .i64 (sLef s f op k) ∧ Hid (AdvS H s f op k w wr)) (fun _ i _ => s.length - (intOf i).toNat)
  case atStart => exact ⟨0, Nat.zero_le _, rfl, by rw [sLef_zero], Lib.hid (unhide HS)⟩
  case round =>
    obtain ⟨k, hk, rfl, rfl, hS⟩ := hrel
    obtain ⟨wo, rfl⟩ : ∃ wo : World, wo = wr := ⟨_, rfl⟩
    have hbl : Below w.heap.size w wo := by rw [unhide HHz]; exact hS.out.bel
    by_cases hlt : k < s.length
    · have HN := hide ((unhide HH).keep hbl)
      have HF := hide (rflt_any b k f A' c' wo ((unhide HH').keep hbl))
      obtain ⟨g, off, rfl, _, c0⟩ := num_at ((unhide HH).keep hbl) hlt
      have kl : (k : Int) < (s.length : Int) := by omega
      have k0 : (0 : Int) ≤ (k : Int) := by omega
      have HNf := hide ((unhide HH').keep hbl)
      have HSt := hide hS.out
      have HL := hide hlt
      have hrl := sOut_len s f op k
      have e3 := sLef_no (f := f) (op := op) hlt
      rw [e3]
      clear hbl hS e3
      by_cases h0 : s.getD k 0 = 0
      · obtain ⟨e1, e2⟩ := sStep_no (f := f) (op := op) hlt h0
        have HQ := hide (show AdvS H s f op (k + 1) w wo from ⟨(unhide HSt).bel, by rw [e1]; exact (unhide HSt).row⟩)
        have HE := hide e2
        rw [h0] at c0
        clear h0 e1 e2 hrl
        go_wp2
        go_roundw
        case rel => exact ⟨k + 1, by omega, by go_num, by rw [unhide HE], Lib.hid (unhide HQ)⟩
        case measure => simp [intOf]; omega
      · have z0 : (s.getD k 0 == 0) = false := by rw [beq_eq_false_iff_ne]; exact h0
        by_cases hl : k + 1 < s.length
        · have hto : sGl s f op k < s.length := by unfold sGl; rw [if_pos hl]; exact sTgt_lt hl
          obtain ⟨e1, e2⟩ := sStep_set hlt h0 hto
          have hg : sGl s f op k = sTgt s f k := by unfold sGl; rw [if_pos hl]
          rw [hg] at e1 hto
          have HG := hide fun t : After wo => rgoal_any b k s f _ A' c c' t.to hz hl ((unhide HN).keep t.is) ((unhide HNf).keep t.is)
          have HQ := hide fun t : After wo => (show AdvS H s f op (k + 1) w (t.to.setCell ⟨H, sTgt s f k, none⟩ (.int .i64 (s.getD k 0))) from ⟨((unhide HSt).bel.trans (t.is.mono (by have := (unhide HSt).row.lt; omega))).setCell (Nat.le_refl _) _, by rw [e1]; exact ((unhide HSt).row.keep t.is).put _ _⟩)
          have HE := hide e2
          have cz := fun t : After wo => ((unhide HSt).row.keep t.is).cell (k := sTgt s f k) (by omega)
          have fz := fun t : After wo => ((unhide HSt).row.keep t.is).frozen (sTgt s f k)
          have cs := fun t : After wo => After.cell c0 t
          have l1 : (k : Int) < (s.length : Int) - 1 := by omega
          generalize sTgt s f k = t at *
          generalize s.getD k 0 = x at *
          have tl : (t : Int) < (s.length : Int) := by omega
          have t0 : (0 : Int) ≤ (t : Int) := by omega
          clear h0 e1 e2 hrl hg
          go_wp2_with fail
          refine wp_region_after_tail 10 (by kernel_rfl) (by kernel_rfl) ?_
          simp only [List.take_succ_cons, List.take_zero, List.drop_succ_cons, List.drop_zero]
          repeat (go_big_quiet_step ((first | (go_at_call 27; exact After.same (unhide HG _)))))
          refine wpQuiet_nil ?_
          rintro _ ⟨q, rfl⟩
          go_wp2
          go_roundw
          case rel => exact ⟨k + 1, by omega, by go_num, by rw [unhide HE], Lib.hid (unhide HQ q)⟩
          case measure => simp [intOf]; omega
        · have l1 : ¬ (k : Int) < (s.length : Int) - 1 := by omega
          by_cases ho : op = true ∧ sFlt f k ≠ 1
          · have hto : ¬ sGl s f op k < s.length := by unfold sGl; rw [if_neg hl, if_pos ho]; omega
            obtain ⟨e1, e2⟩ := sStep_left hlt h0 hto
            have HQ := hide (show AdvS H s f op (k + 1) w wo from ⟨(unhide HSt).bel, by rw [e1]; exact (unhide HSt).row⟩)
            have HE := hide e2
            obtain ⟨rfl, hf⟩ := ho
            have z1 : (sFlt f k != 1) = true := by rw [bne_iff_ne]; exact hf
            generalize s.getD k 0 = x at *
            generalize sFlt f k = fl at *
            clear h0 e1 e2 hrl hf hto
            go_wp2_with (first | (go_at_call 28; refine (unhide HF).mono ?_; rintro e w1 ⟨rfl, rfl⟩))
            go_roundw
            case rel => exact ⟨k + 1, by omega, by go_num, by rw [unhide HE], Lib.hid (unhide HQ)⟩
            case measure => simp [intOf]; omega
          · have hg : sGl s f op k = k := by unfold sGl; rw [if_neg hl, if_neg ho]
            obtain ⟨e1, e2⟩ := sStep_set hlt h0 (show sGl s f op k < s.length by rw [hg]; exact hlt)
            rw [hg] at e1
            have HQ := hide (show AdvS H s f op (k + 1) w (wo.setCell ⟨H, k, none⟩ (.int .i64 (s.getD k 0))) from ⟨(unhide HSt).bel.setCell (Nat.le_refl _) _, by rw [e1]; exact (unhide HSt).row.put _ _⟩)
            have HE := hide e2
            have cz := (unhide HSt).row.cell (k := k) (by omega)
            have fz := (unhide HSt).row.frozen k
            generalize s.getD k 0 = x at *
            cases op with
            | false =>
              generalize sFlt f k = fl at *
              clear h0 e1 e2 hrl hg ho
              go_wp2
              go_roundw
              case rel => exact ⟨k + 1, by omega, by go_num, by rw [unhide HE], Lib.hid (unhide HQ)⟩
              case measure => simp [intOf]; omega
            | true =>
              have hf : sFlt f k = 1 := Classical.not_not.1 fun e => ho ⟨rfl, e⟩
              rw [hf] at HF
              clear h0 e1 e2 hrl hg ho hf
              go_wp2_with (first | (go_at_call 28; refine (unhide HF).mono ?_; rintro e w1 ⟨rfl, rfl⟩))
              go_roundw
              case rel => exact ⟨k + 1, by omega, by go_num, by rw [unhide HE], Lib.hid (unhide HQ)⟩
              case measure => simp [intOf]; omega
    · obtain rfl : k = s.length := by omega
      have kl : ¬ (s.length : Int) < (s.length : Int) := by omega
      have HSt := hide hS.out
      have HE := hide (show (sAdv s f op).1.length = s.length from sAdv_len s f op)
      clear hS hbl
      go_wp2
      go_ret2
      exact ⟨H, by rw [unhide HE]; rfl, Nat.le_refl _, (unhide HSt).row, (unhide HSt).bel⟩
end Go.Proofs.Ytfddpdognelhmaa
