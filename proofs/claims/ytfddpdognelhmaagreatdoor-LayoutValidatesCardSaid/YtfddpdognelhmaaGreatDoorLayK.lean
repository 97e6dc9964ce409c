/-
  Contracts of numbers, kindOf, Join, names, word, writeLine.
-/
import Derived.Test.YtfddpdognelhmaaGreatDoorLayH
import Derived.Test.YtfddpdognelhmaaGreatDoorItoa
import Derived.Test.YtfddpdognelhmaaGreatDoorLibS

/- LayK: Contracts of the text of layouts: the tables of words and forms, numbers, kindOf, the word of a line. -/
namespace Go.Proofs.YtfddpdognelhmaaGreatDoor
open Go.RowKit

/-- The words of the kinds and the forms of their lines, as the program's tables have them. -/
def wordsL : List ByteArray := [⟨#[]⟩, ⟨#[101, 110, 116, 114, 121]⟩, ⟨#[98, 101, 108, 116]⟩, ⟨#[115, 99, 114, 101, 101, 110]⟩, ⟨#[100, 105, 118, 101, 114, 116, 101, 114]⟩, ⟨#[108, 111, 111, 112]⟩, ⟨#[103, 97, 116, 101]⟩, ⟨#[115, 116, 111, 114, 101]⟩, ⟨#[99, 104, 117, 116, 101]⟩, ⟨#[109, 97, 110, 117, 97, 108]⟩, ⟨#[112, 104, 111, 116, 111, 99, 101, 108, 108]⟩, ⟨#[115, 99, 97, 110, 110, 101, 114]⟩]
def formsL : List ByteArray := [⟨#[]⟩, ⟨#[78, 76, 90, 62, 48]⟩, ⟨#[78, 76, 90, 62, 48]⟩, ⟨#[78, 76, 90, 62, 48]⟩, ⟨#[78, 76, 90, 62, 48, 49]⟩, ⟨#[78, 76, 90, 62, 48, 49]⟩, ⟨#[78, 76, 90, 62, 48, 49]⟩, ⟨#[78, 90, 62, 48]⟩, ⟨#[78, 90]⟩, ⟨#[78, 90]⟩, ⟨#[48, 87]⟩, ⟨#[48, 87]⟩]
def kwS (i : Nat) : ByteArray := wordsL.getD i ⟨#[]⟩
def kfS (i : Nat) : ByteArray := formsL.getD i ⟨#[]⟩
/-- The program's tables in memory. -/
structure LTab (w : World) : Prop where
  words : ∀ i, i < 12 → w.cell? ⟨1, i, none⟩ = some (.string (kwS i))
  forms : ∀ i, i < 12 → w.cell? ⟨2, i, none⟩ = some (.string (kfS i))
  pow : Pow10 w
  lt : 4 < w.heap.size
theorem LTab.keep {w w1 : World} (h : LTab w) (hb : Below w.heap.size w w1) : LTab w1 := ⟨fun i hi => kept hb (h.words i hi), fun i hi => kept hb (h.forms i hi), h.pow.keep hb h.lt, Nat.lt_of_lt_of_le h.lt hb.size⟩

def numOk (s : ByteArray) : Bool := numB s && (decide (numV s ≤ 999) && ((decS (numV s)).toList == s.toList))
theorem numV_pos (s : ByteArray) (h : numB s = true) : 0 ≤ numV s := by
  rw [numV_yes h]
  unfold numB at h
  rw [Bool.and_eq_true, decide_eq_true_eq] at h
  have := (valN_pre9 s h.1.2 s.size (Nat.le_refl _) (by rw [List.take_of_length_le (by simp)]; exact h.2)).1
  rwa [List.take_of_length_le (by simp)] at this
set_option maxHeartbeats 2000000 in
theorem lnumber_any (s : ByteArray) (w : World) (hT : LTab w) :
    Calls Tryz.prog 96 #[.string s] w fun e w' => e = .returned (.tuple #[.int .i64 (numV s), .bool (numOk s)]) ∧ Below w.heap.size w w' := by
  have HV := hide (value_any s w)
  cases hb : numB s with
  | false =>
    have HR := hide (show numOk s = false by unfold numOk; rw [hb]; rfl)
    unfold Valued at HV
    rw [hb] at HV
    generalize numV s = n at *
    go_enter Tryz.func96, Tryz.ntmps96
    go_wp2_with (first | (go_at_call 106; refine (unhide HV).mono ?_; rintro e w1 ⟨rfl, rfl⟩))
    go_ret2
    exact ⟨by rw [unhide HR]; rfl, Below.refl _ _⟩
  | true =>
    have h0 := numV_pos s hb
    unfold Valued at HV
    rw [hb] at HV
    have HU := hide (show numOk s = (decide (numV s ≤ 999) && ((decS (numV s)).toList == s.toList)) by unfold numOk; rw [hb]; rfl)
    clear hb
    generalize numV s = n at *
    by_cases hn : n ≤ 999
    · have HI := hide (itoa_any n w hT.pow h0 (by omega))
      cases he : ((decS n).toList == s.toList)
      all_goals
        rw [decide_eq_true hn, he] at HU
        generalize decS n = t at *
        go_enter Tryz.func96, Tryz.ntmps96
        go_wp2_with (first
          | (go_at_call 106; refine (unhide HV).mono ?_; rintro e w1 ⟨rfl, rfl⟩)
          | (go_at_call 74; refine (unhide HI).mono ?_; rintro e w1 ⟨rfl, hb1⟩; have HB1 := hide hb1; clear hb1))
        go_ret2
        exact ⟨by rw [unhide HU]; rfl, unhide HB1⟩
    · rw [decide_eq_false hn] at HU
      go_enter Tryz.func96, Tryz.ntmps96
      go_wp2_with (first | (go_at_call 106; refine (unhide HV).mono ?_; rintro e w1 ⟨rfl, rfl⟩))
      go_ret2
      exact ⟨by rw [unhide HU]; rfl, Below.refl _ _⟩

/-- The kind with a word, or 0. -/
def kindF (s : ByteArray) : Nat := ((List.range 12).find? fun i => decide (kwS i = s)).getD 0
theorem kindF_hit {s : ByteArray} {k : Nat} (hk : k < 12) (h : ∀ j, j < k → kwS j ≠ s) (h1 : kwS k = s) : kindF s = k := by
  unfold kindF
  rw [show (List.range 12).find? (fun i => decide (kwS i = s)) = some k from by
    rw [List.find?_eq_some_iff_getElem]
    refine ⟨by simpa using h1, k, by simpa using hk, by rw [List.getElem_range], fun j hj => ?_⟩
    rw [List.getElem_range]
    simpa using h j hj]
  rfl
theorem kindF_no {s : ByteArray} (h : ∀ j, j < 12 → kwS j ≠ s) : kindF s = 0 := by
  unfold kindF
  rw [show (List.range 12).find? (fun i => decide (kwS i = s)) = none from by
    rw [List.find?_eq_none]
    intro j hj
    simpa using h j (by simpa using hj)]
  rfl
theorem kindF_lt (s : ByteArray) : kindF s < 12 := by
  unfold kindF
  cases h : (List.range 12).find? (fun i => decide (kwS i = s)) with
  | none => show 0 < 12; omega
  | some i => have := List.mem_of_find?_eq_some h
              show i < 12; simpa using this
abbrev kwA : Value := .agg #[.string (kwS 0), .string (kwS 1), .string (kwS 2), .string (kwS 3), .string (kwS 4), .string (kwS 5), .string (kwS 6), .string (kwS 7), .string (kwS 8), .string (kwS 9), .string (kwS 10), .string (kwS 11)]
theorem kw_index_0 (w : World) : (Instr.index 89 kwA (.int .i64 0)).run Tryz.prog w = .ok (.string (kwS 0)) w := by kernel_rfl
theorem kw_index_1 (w : World) : (Instr.index 89 kwA (.int .i64 1)).run Tryz.prog w = .ok (.string (kwS 1)) w := by kernel_rfl
theorem kw_index_2 (w : World) : (Instr.index 89 kwA (.int .i64 2)).run Tryz.prog w = .ok (.string (kwS 2)) w := by kernel_rfl
theorem kw_index_3 (w : World) : (Instr.index 89 kwA (.int .i64 3)).run Tryz.prog w = .ok (.string (kwS 3)) w := by kernel_rfl
theorem kw_index_4 (w : World) : (Instr.index 89 kwA (.int .i64 4)).run Tryz.prog w = .ok (.string (kwS 4)) w := by kernel_rfl
theorem kw_index_5 (w : World) : (Instr.index 89 kwA (.int .i64 5)).run Tryz.prog w = .ok (.string (kwS 5)) w := by kernel_rfl
theorem kw_index_6 (w : World) : (Instr.index 89 kwA (.int .i64 6)).run Tryz.prog w = .ok (.string (kwS 6)) w := by kernel_rfl
theorem kw_index_7 (w : World) : (Instr.index 89 kwA (.int .i64 7)).run Tryz.prog w = .ok (.string (kwS 7)) w := by kernel_rfl
theorem kw_index_8 (w : World) : (Instr.index 89 kwA (.int .i64 8)).run Tryz.prog w = .ok (.string (kwS 8)) w := by kernel_rfl
theorem kw_index_9 (w : World) : (Instr.index 89 kwA (.int .i64 9)).run Tryz.prog w = .ok (.string (kwS 9)) w := by kernel_rfl
theorem kw_index_10 (w : World) : (Instr.index 89 kwA (.int .i64 10)).run Tryz.prog w = .ok (.string (kwS 10)) w := by kernel_rfl
theorem kw_index_11 (w : World) : (Instr.index 89 kwA (.int .i64 11)).run Tryz.prog w = .ok (.string (kwS 11)) w := by kernel_rfl
theorem kw_index {k : Nat} (h : k < 12) (w : World) : (Instr.index 89 kwA (.int .i64 (k : Int))).run Tryz.prog w = .ok (.string (kwS k)) w := by
  have : k = 0 ∨ k = 1 ∨ k = 2 ∨ k = 3 ∨ k = 4 ∨ k = 5 ∨ k = 6 ∨ k = 7 ∨ k = 8 ∨ k = 9 ∨ k = 10 ∨ k = 11 := by omega
  rcases this with rfl | rfl | rfl | rfl | rfl | rfl | rfl | rfl | rfl | rfl | rfl | rfl
  · exact kw_index_0 w
  · exact kw_index_1 w
  · exact kw_index_2 w
  · exact kw_index_3 w
  · exact kw_index_4 w
  · exact kw_index_5 w
  · exact kw_index_6 w
  · exact kw_index_7 w
  · exact kw_index_8 w
  · exact kw_index_9 w
  · exact kw_index_10 w
  · exact kw_index_11 w
set_option maxHeartbeats 2000000 in
set_option maxRecDepth 100000 in
theorem lkind_any (s : ByteArray) (w : World) (hT : LTab w) :
    Calls Tryz.prog 85 #[.string s] w fun e w' => e = .returned (.int .i64 (kindF s : Nat)) ∧ w = w' := by
  have HT := hide hT.words
  clear hT
  have c0 := unhide HT 0 (by omega)
  have c1 := unhide HT 1 (by omega)
  have c2 := unhide HT 2 (by omega)
  have c3 := unhide HT 3 (by omega)
  have c4 := unhide HT 4 (by omega)
  have c5 := unhide HT 5 (by omega)
  have c6 := unhide HT 6 (by omega)
  have c7 := unhide HT 7 (by omega)
  have c8 := unhide HT 8 (by omega)
  have c9 := unhide HT 9 (by omega)
  have c10 := unhide HT 10 (by omega)
  have c11 := unhide HT 11 (by omega)
  go_enter Tryz.func85, Tryz.ntmps85
  go_wp2
  clear c0 c1 c2 c3 c4 c5 c6 c7 c8 c9 c10 c11
  go_loop [6] (fun i => ∃ k : Nat, k ≤ 12 ∧ i = .int .i64 k ∧ Hid (∀ j, j < k → kwS j ≠ s)) (fun i => 12 - (intOf i).toNat)
  case atStart => exact ⟨0, Nat.zero_le _, rfl, Lib.hid fun j hj => absurd hj (Nat.not_lt_zero _)⟩
  case round =>
    obtain ⟨k, hk, rfl, hd⟩ := hrel
    by_cases hlt : k < 12
    · have hix := kw_index hlt
      have HP := hide fun h => upto_step (p := fun j => kwS j ≠ s) (k := k) hd.out h
      have HN := hide fun (h : kwS k = s) => kindF_hit hlt hd.out h
      have kl : (k : Int) < 12 := by omega
      generalize kwS k = t at *
      cases he : (t.toList == s.toList) with
      | true =>
        have HE := hide (show t = s by rwa [toList_eq, decide_eq_true_eq] at he)
        go_wp2
        go_ret
        exact ⟨ret_int (by rw [unhide HN (unhide HE)]), rfl⟩
      | false =>
        have HE := hide (show t ≠ s by rwa [toList_eq, decide_eq_false_iff_not] at he)
        go_wp2
        go_round
        case rel => exact ⟨k + 1, by omega, by go_num, Lib.hid (unhide HP (unhide HE))⟩
        case measure => simp [intOf]; omega
    · have HE := hide (kindF_no (s := s) fun j hj => hd.out j (by omega))
      have kl : ¬ (k : Int) < 12 := by omega
      go_wp2
      go_ret
      exact ⟨ret_int (by rw [unhide HE]; rfl), rfl⟩
end Go.Proofs.YtfddpdognelhmaaGreatDoor

/- LayL: Contracts of the text of layouts: strings.Join at a space, names, the word of a line. -/
namespace Go.Proofs.YtfddpdognelhmaaGreatDoor
open Go.RowKit

/-- The strings with spaces between. -/
def jnT (r : List ByteArray) : List UInt8 := r.flatMap fun y => 32 :: y.data.toList
def jn : List ByteArray → List UInt8
  | [] => []
  | x :: r => x.data.toList ++ jnT r
theorem jnT_snoc (r : List ByteArray) (y : ByteArray) : jnT (r ++ [y]) = jnT r ++ [32] ++ y.data.toList := by
  unfold jnT; rw [List.flatMap_append]; simp
theorem jnT_len {r : List ByteArray} (h : ∀ y ∈ r, y.size ≤ 500) : (jnT r).length ≤ 501 * r.length := by
  induction r with
  | nil => simp [jnT]
  | cons x r ih =>
    have h1 := ih fun y hy => h y (List.mem_cons_of_mem _ hy)
    have h2 := h x (List.mem_cons_self ..)
    have e : jnT (x :: r) = 32 :: (x.data.toList ++ jnT r) := by unfold jnT; rw [List.flatMap_cons]; rfl
    have e2 : x.data.toList.length = x.size := by simp
    rw [e, List.length_cons, List.length_append, e2, List.length_cons]
    omega
def sumS (l : List ByteArray) : Nat := (l.map ByteArray.size).sum
theorem sumS_step {l : List ByteArray} {k : Nat} (h : k < l.length) : sumS (l.take (k + 1)) = sumS (l.take k) + (l.getD k ByteArray.empty).size := by
  unfold sumS
  rw [List.take_succ_eq_append_getElem h, List.map_append, List.sum_append, at_k h]
  simp
theorem sumS_le {l : List ByteArray} (h : ∀ y ∈ l, y.size ≤ 500) : ∀ k, k ≤ l.length → sumS (l.take k) ≤ 500 * k := by
  intro k
  induction k with
  | zero => intro _; simp [sumS]
  | succ k ih =>
    intro hk
    have := ih (by omega)
    have h2 : (l.getD k ByteArray.empty).size ≤ 500 := by rw [at_k (by omega)]; exact h _ (List.getElem_mem _)
    rw [sumS_step (by omega)]
    omega
theorem bld_fresh {B b : Nat} {w : World} (h : Lib.BuilderAt 60 5 B b (.pointer (some ⟨b, 0, none⟩)) [] w) : Bld B b [] w := Or.inr h

theorem lbgrow_any (B b : Nat) (m : Int) (w : World) (hB : B ≤ b) (hbk : w.heap[b]? = some (.cells #[.pointer none, .slice none 0 0] 60 (0, 0))) (hBw : B ≤ w.heap.size) (m0 : 0 ≤ m) (m1 : m ≤ 281474976710656) :
    Calls Tryz.prog 75 #[.pointer (some ⟨b, 0, none⟩), .int .i64 m] w fun e w' => e = .returned (.tuple #[]) ∧ (Lib.BuilderAt 60 5 B b (.pointer (some ⟨b, 0, none⟩)) [] w' ∧ Below B w w') := by
  obtain ⟨n, rfl⟩ := Int.eq_ofNat_of_zero_le m0
  exact Tryz.Builder_Grow_fresh B b n w hB hbk hBw (by omega)
set_option maxHeartbeats 4000000 in
set_option maxRecDepth 100000 in
theorem ljoin_any (b : Nat) (x : ByteArray) (r : List ByteArray) (A : Option Addr) (c : Nat) (w : World) (h1 : 1 ≤ r.length) (hz : r.length ≤ 90) (hcap : r.length + 1 ≤ c) (hs : ∀ y ∈ x :: r, y.size ≤ 500) (h : StrsIn b w A (x :: r)) :
    Calls Tryz.prog 52 #[.slice A (r.length + 1 : Nat) c, .string ⟨#[32]⟩] w fun e w' => e = .returned (.string ⟨(jn (x :: r)).toArray⟩) ∧ Below w.heap.size w w' := by
  have HS := hide (sumS_le hs)
  have HI := hide h
  have HL := hide (fun k (hk : k ≤ r.length) => (show (jnT (r.take k)).length ≤ 501 * k from Nat.le_trans (jnT_len fun y hy => hs y (List.mem_cons_of_mem _ (List.mem_of_mem_take hy))) (by rw [List.length_take]; omega)))
  have hx : x.size ≤ 500 := hs x (List.mem_cons_self ..)
  have HY := hide (fun k (hk : k < r.length) => (show (r.getD k ByteArray.empty).size ≤ 500 by rw [at_k hk]; exact hs _ (List.mem_cons_of_mem _ (List.getElem_mem _))))
  have hq : (1 : Int) < 9223372036854775807 / (r.length : Int) := by
    have : (2 : Int) ≤ 9223372036854775807 / (r.length : Int) := Int.le_ediv_of_mul_le (by omega) (by omega)
    omega
  have n0 : ((r.length : Int) + 1 == 0) = false := by rw [beq_eq_false_iff_ne]; omega
  have n1 : ((r.length : Int) + 1 == 1) = false := by rw [beq_eq_false_iff_ne]; omega
  have g0 : (1 : Int) ≤ (r.length : Int) := by omega
  obtain ⟨g, off, rfl, hgb, hcl⟩ := h (by simp)
  have HC := hide (show ∀ i, i < r.length + 1 → w.cell? ⟨g, off + i, none⟩ = some (.string ((x :: r).getD i ByteArray.empty)) from fun i hi => hcl i (by simpa using hi))
  clear h hs hcl hgb HI
  go_enter Tryz.func52, Tryz.ntmps52
  go_wp2
  go_loop [5, 41] (fun s i => ∃ k : Nat, k ≤ r.length + 1 ∧ i = .int .i64 k ∧ s = .int .i64 (r.length + (sumS ((x :: r).take k) : Nat))) (fun _ i => r.length + 1 - (intOf i).toNat)
  case atStart => exact ⟨0, Nat.zero_le _, rfl, by simp [sumS]⟩
  case round =>
    obtain ⟨k, hk, rfl, rfl⟩ := hrel
    have hsk := unhide HS k (by simpa using hk)
    by_cases hlt : k < r.length + 1
    · have y0 := unhide HC k hlt
      have HST := hide (sumS_step (l := x :: r) (k := k) (by simp; omega))
      have hyz : ((x :: r).getD k ByteArray.empty).size ≤ 500 := by
        have := unhide HS (k + 1) (by simp; omega)
        cases k with
        | zero => simpa using hx
        | succ k => simpa using unhide HY k (by omega)
      generalize (x :: r).getD k ByteArray.empty = y at *
      generalize hsm : sumS ((x :: r).take k) = sm at *
      clear hsm
      have kl : (k : Int) < (r.length : Int) + 1 := by omega
      have k0 : (0 : Int) ≤ (k : Int) := by omega
      go_wp2
      go_round
      case rel => exact ⟨k + 1, by omega, by go_num, by rw [unhide HST]; congr 1; omega⟩
      case measure => simp [intOf]; omega
    · have kl : ¬ (k : Int) < (r.length : Int) + 1 := by omega
      generalize hsm : sumS ((x :: r).take k) = sm at *
      clear hsm
      have m0 : (0 : Int) ≤ (r.length : Int) + (sm : Int) := by omega
      have m1 : (r.length : Int) + (sm : Int) ≤ 281474976710656 := by omega
      have HG := hide (lbgrow_any w.heap.size w.heap.size ((r.length : Int) + (sm : Int)) (w.alloc (.cells #[.pointer none, .slice none 0 0] 60)) (Nat.le_refl _) (heap_alloc_new w _) (by rw [World.size_alloc]; omega) m0 m1)
      have y0 := unhide HC 0 (by omega)
      have b1 := (Below.refl w.heap.size w).alloc (Nat.le_refl _) (.cells #[.pointer none, .slice none 0 0] 60)
      have B1 := hide b1
      clear b1 m0 m1 hsk
      simp only [List.getD_cons_zero, Nat.add_zero] at y0
      go_wp2_with fail
      refine (unhide HG).mono ?_
      rintro e w1 ⟨rfl, hbld, hb1⟩
      have HB1 := hide ((unhide B1).trans hb1)
      have HBl := hide (bld_fresh hbld)
      have y1 := kept (unhide HB1) y0
      clear hbld hb1 y0 hq n0 n1 HG
      go_wp2_with fail
      refine (bwrite_any w.heap.size w.heap.size [] x _ (unhide HBl) (by simp; omega) (unhide HB1).size).mono ?_
      rintro e w2 ⟨rfl, hbl2, hb2, -⟩
      have HB2 := hide ((unhide HB1).trans hb2)
      have HBl2 := hide hbl2
      clear hbl2 hb2 y1
      have hcc : ¬ ((c : Int) = 1) := by omega
      have c1 : (1 : Int) ≤ (r.length : Int) + 1 := by omega
      have c2 : (r.length : Int) + 1 ≤ (c : Int) := by omega
      have hc1 : ¬ c = 1 := by omega
      go_wp2
      go_loopw [65] (fun i wr => ∃ k : Nat, k ≤ r.length ∧ i = .int .i64 k ∧ Hid (Bld w.heap.size w.heap.size (x.data.toList ++ jnT (r.take k)) wr) ∧ Hid (Below w.heap.size w wr)) (fun i _ => r.length - (intOf i).toNat)
      case atStart => exact ⟨0, Nat.zero_le _, rfl, Lib.hid (by simpa [jnT] using unhide HBl2), Lib.hid (unhide HB2)⟩
      case round =>
        obtain ⟨k2, hk2, rfl, hbl, hb⟩ := hrel
        obtain ⟨wo, rfl⟩ : ∃ wo : World, wo = wr := ⟨_, rfl⟩
        by_cases hlt2 : k2 < r.length
        · have y0 := kept hb.out (unhide HC (k2 + 1) (by omega))
          have hyz := unhide HY k2 hlt2
          have hjl := unhide HL k2 hk2
          have HJ := hide (show jnT (r.take (k2 + 1)) = jnT (r.take k2) ++ [32] ++ (r.getD k2 ByteArray.empty).data.toList by rw [List.take_succ_eq_append_getElem hlt2, jnT_snoc, at_k hlt2])
          simp only [List.getD_cons_succ] at y0
          rw [show off + (k2 + 1) = off + 1 + k2 by omega] at y0
          generalize r.getD k2 ByteArray.empty = y at *
          generalize jnT (r.take k2) = J at *
          have kl2 : (k2 : Int) < (r.length : Int) := by omega
          have k20 : (0 : Int) ≤ (k2 : Int) := by omega
          have hxl : x.data.toList.length ≤ 500 := by simpa using hx
          go_wp2_with fail
          refine (bwrite_any w.heap.size w.heap.size _ ⟨#[32]⟩ _ hbl.out (by rw [List.length_append]; show _ + 1 ≤ _; omega) hb.out.size).mono ?_
          rintro e w3 ⟨rfl, hbl3, hb3, -⟩
          have HB3 := hide (hb.out.trans hb3)
          have HBl3 := hide hbl3
          clear hbl3 hb3 y0
          go_wp2_with fail
          refine (bwrite_any w.heap.size w.heap.size _ y _ (unhide HBl3) (by rw [List.length_append, List.length_append]; show _ + 1 + _ ≤ _; omega) (unhide HB3).size).mono ?_
          rintro e w4 ⟨rfl, hbl4, hb4, -⟩
          have HB4 := hide ((unhide HB3).trans hb4)
          have HBl4 := hide hbl4
          clear hbl4 hb4
          go_wp2
          go_roundw
          case rel => exact ⟨k2 + 1, by omega, by go_num, Lib.hid (by rw [unhide HJ]; simpa using unhide HBl4), Lib.hid (unhide HB4)⟩
          case measure => simp [intOf]; omega
        · have kl2 : ¬ (k2 : Int) < (r.length : Int) := by omega
          have HE := hide (show x.data.toList ++ jnT (r.take k2) = jn (x :: r) by rw [List.take_of_length_le (by omega)]; rfl)
          have HBl5 := hide hbl.out
          have hbs := hb.out.size
          rw [unhide HE] at HBl5
          clear HE hbl
          go_wp2_with fail
          refine (bstring_any w.heap.size w.heap.size _ _ (unhide HBl5) hbs).mono ?_
          rintro e w3 ⟨rfl, hb3⟩
          have HB3 := hide (hb.out.trans hb3)
          clear hb3
          go_wp2
          go_ret
          exact ⟨rfl, unhide HB3⟩

/-- A slice of strings of the call's own. -/
def StrsO (xs : List ByteArray) (w : World) (e : Ending) (w' : World) : Prop :=
  ∃ v, e = .returned v ∧ w'.ownsRow w.heap.size 9 1 v xs.length (xs.map Value.string) ∧ Below w.heap.size w w'
theorem linfo_str : (Tryz.prog.info? 9).map (fun i => (i.zero, i.size, i.bytes)) = some (some (.string ByteArray.empty), 1, 16) := by kernel_rfl
def nmF (l : List Nd) (is : List Int) : List ByteArray := is.map fun t => (l.getD t.toNat nd0).name
theorem nmF_step {l : List Nd} {is : List Int} {k : Nat} (h : k < is.length) : nmF l (is.take (k + 1)) = nmF l (is.take k) ++ [(l.getD (is.getD k 0).toNat nd0).name] := by
  unfold nmF
  rw [List.take_succ_eq_append_getElem h, List.map_append, at_k h]; rfl
theorem nmF_len (l : List Nd) (is : List Int) : (nmF l is).length = is.length := by unfold nmF; simp
set_option maxHeartbeats 4000000 in
theorem lnames_any (b : Nat) (l : List Nd) (is : List Int) (A B : Option Addr) (c d : Nat) (w : World) (hz : is.length ≤ 3000) (hr : ∀ t ∈ is, 0 ≤ t ∧ t < l.length) (h : NdsIn b w A l) (hi : NumsIn b w B is) :
    Calls Tryz.prog 29 #[.slice A l.length c, .slice B is.length d] w (StrsO (nmF l is) w) := by
  obtain ⟨i0, hi1, hz0, hz1, hz2⟩ := info_parts linfo_str
  have Hi := hide hi1
  have Hz0 := hide hz0
  have Hz1 := hide hz1
  have Hz2 := hide hz2
  have HI := hide h
  have HN := hide hi
  have HR := hide hr
  clear hi1 hz0 hz1 hz2 h hi hr
  go_enter Tryz.func29, Tryz.ntmps29
  go_wp2
  go_loopw [5, 10] (fun v i wr => ∃ k : Nat, k ≤ is.length ∧ i = .int .i64 k ∧ Hid (wr.ownsRow w.heap.size 9 1 v k ((nmF l (is.take k)).map Value.string)) ∧ Hid (Below w.heap.size w wr)) (fun _ i _ => is.length - (intOf i).toNat)
  case atStart => exact ⟨0, Nat.zero_le _, rfl, Lib.hid ⟨rfl, .inl ⟨rfl, rfl⟩⟩, Lib.hid (Below.refl _ _)⟩
  case round =>
    obtain ⟨k, hk, rfl, ho, hb⟩ := hrel
    obtain ⟨wo, rfl⟩ : ∃ wo : World, wo = wr := ⟨_, rfl⟩
    by_cases hlt : k < is.length
    · obtain ⟨g', off', rfl, _, hc'⟩ := ((unhide HN).keep hb.out) (by omega)
      have y0 := hc' k hlt
      clear hc'
      obtain ⟨t0, t1⟩ := unhide HR (is.getD k 0) (by rw [at_k hlt]; exact List.getElem_mem _)
      have HS := hide (nmF_step (l := l) hlt)
      obtain ⟨j, hj⟩ := Int.eq_ofNat_of_zero_le t0
      have hjl : j < l.length := by omega
      obtain ⟨g, off, rfl, _, hc⟩ := ((unhide HI).keep hb.out) (by omega)
      have c0 := (hc j hjl).c0
      rw [hj] at y0
      rw [hj, Int.toNat_natCast] at HS
      clear hj hc t0 t1
      generalize (l.getD j nd0).name = nm at *
      generalize hmm : nmF l (is.take k) = M at *
      have HO := hide ho.out
      have HML := hide (show M.length = k by rw [← hmm, nmF_len, List.length_take]; omega)
      clear hmm ho
      have hbs := hb.out.size
      have kl : (k : Int) < (is.length : Int) := by omega
      have k0 : (0 : Int) ≤ (k : Int) := by omega
      have jl : (j : Int) < (l.length : Int) := by omega
      have j0 : (0 : Int) ≤ (j : Int) := by omega
      go_wp2_with (first
        | (at_builtin; refine wpList_append_own _ rfl _ _ 66 rfl w.heap.size 9 i0 (.string ByteArray.empty) 1 16 Tryz.underlying66 (unhide Hi) (unhide Hz0) (unhide Hz1) (unhide Hz2) rfl (by decide) _ _ _ rfl ((unhide HO).alloc _) ⟨wo.heap.size, 0, none⟩ 1 1 [.string nm] rfl rfl ?c1 ?c2 ?c3 ?c4 ?c5 ?_))
      case c1 => exact lone_new wo _ _
      case c2 =>
        intro u hu
        simp at hu
        subst hu
        rfl
      case c3 => unfold maxLen; omega
      case c4 => omega
      case c5 => rw [World.size_alloc]; omega
      intro v' w2 hown2 hgrow _
      have HR2 := hide hown2
      have HB2 := hide ((hb.out.alloc hbs _).grown hgrow (by rw [World.size_alloc]; omega) (fun g hg => ((unhide HO).lt g hg).1))
      clear hown2 hgrow
      go_wp2
      go_roundw
      case rel => exact ⟨k + 1, by omega, by go_num, Lib.hid (by rw [unhide HS, List.map_append]; exact unhide HR2), Lib.hid (unhide HB2)⟩
      case measure => simp [intOf]; omega
    · have kl : ¬ (k : Int) < (is.length : Int) := by omega
      obtain rfl : k = is.length := by omega
      have HO := hide ho.out
      clear ho
      go_wp2
      go_ret
      refine ⟨_, rfl, ?_, hb.out⟩
      have := unhide HO
      rw [List.take_length] at this
      rw [nmF_len]
      exact this
end Go.Proofs.YtfddpdognelhmaaGreatDoor

/- LayN: Contracts of the text of layouts: the word of a line, writeLine. -/
namespace Go.Proofs.YtfddpdognelhmaaGreatDoor
open Go.RowKit

/-- What a line says. -/
structure Ln where
  kind : Int
  name : ByteArray
  len : Int
  zone : Int
  win : Int
  oth : List ByteArray
abbrev lnV (x : Ln) (A : Option Addr) (c : Nat) : Value := .agg #[.int .i64 x.kind, .string x.name, .int .i64 x.len, .int .i64 x.zone, .int .i64 x.win, .slice A x.oth.length c]
abbrev lnO (x : Ln) (A : Option Addr) (c : Nat) : Obj := .cells #[.int .i64 x.kind, .string x.name, .int .i64 x.len, .int .i64 x.zone, .int .i64 x.win, .slice A x.oth.length c] 69
/-- The word for a character of the form. -/
def wrdC (x : Ln) (c : Int) : ByteArray :=
  if c = 78 then x.name else if c = 76 then decS x.len else if c = 90 then decS x.zone else if c = 87 then decS x.win else if c = 62 then ⟨#[62]⟩ else x.oth.getD (c - 48).toNat ByteArray.empty
def letC (c : Int) : Prop := c = 78 ∨ c = 76 ∨ c = 90 ∨ c = 87 ∨ c = 62 ∨ c = 48 ∨ c = 49
/-- A line that can be written: its numbers are small, and it has the names that its form asks for. -/
structure LnOk (x : Ln) : Prop where
  len : 0 ≤ x.len ∧ x.len ≤ 999
  zone : 0 ≤ x.zone ∧ x.zone ≤ 999
  win : 0 ≤ x.win ∧ x.win ≤ 999
def Asks (x : Ln) (c : Int) : Prop := letC c ∧ (c = 48 → 0 < x.oth.length) ∧ (c = 49 → 1 < x.oth.length)
set_option maxHeartbeats 2000000 in
set_option maxRecDepth 100000 in
theorem lword_any (b : Nat) (x : Ln) (ch : Int) (A : Option Addr) (c : Nat) (w : World) (hT : LTab w) (hx : LnOk x) (hA : Asks x ch) (h : StrsIn b w A x.oth) :
    Calls Tryz.prog 51 #[lnV x A c, .int .i32 ch] w fun e w' => e = .returned (.string (wrdC x ch)) ∧ Below w.heap.size w w' := by
  have b1 := (Below.refl w.heap.size w).alloc (Nat.le_refl _) (lnO x A c)
  have HI := hide (h.keep b1)
  have HT := hide (hT.keep b1)
  have B1 := hide b1
  obtain ⟨hc, h48, h49⟩ := hA
  obtain ⟨⟨l0, l1⟩, ⟨z0, z1⟩, w0, w1⟩ := hx
  clear h hT b1
  rcases hc with rfl | rfl | rfl | rfl | rfl | rfl | rfl
  · have HR := hide (show wrdC x 78 = x.name from rfl)
    go_enter Tryz.func51, Tryz.ntmps51
    go_wp2
    go_ret
    exact ⟨ret_str (unhide HR).symm, unhide B1⟩
  · have HR := hide (show wrdC x 76 = decS x.len from rfl)
    go_enter Tryz.func51, Tryz.ntmps51
    go_wp2_with fail
    refine (itoa_any x.len _ (unhide HT).pow l0 (by omega)).mono ?_
    rintro e w2 ⟨rfl, hb2⟩
    have HB2 := hide ((unhide B1).trans (hb2.mono (unhide B1).size))
    clear hb2
    go_wp2
    go_ret
    exact ⟨ret_str (unhide HR).symm, unhide HB2⟩
  · have HR := hide (show wrdC x 90 = decS x.zone from rfl)
    go_enter Tryz.func51, Tryz.ntmps51
    go_wp2_with fail
    refine (itoa_any x.zone _ (unhide HT).pow z0 (by omega)).mono ?_
    rintro e w2 ⟨rfl, hb2⟩
    have HB2 := hide ((unhide B1).trans (hb2.mono (unhide B1).size))
    clear hb2
    go_wp2
    go_ret
    exact ⟨ret_str (unhide HR).symm, unhide HB2⟩
  · have HR := hide (show wrdC x 87 = decS x.win from rfl)
    go_enter Tryz.func51, Tryz.ntmps51
    go_wp2_with fail
    refine (itoa_any x.win _ (unhide HT).pow w0 (by omega)).mono ?_
    rintro e w2 ⟨rfl, hb2⟩
    have HB2 := hide ((unhide B1).trans (hb2.mono (unhide B1).size))
    clear hb2
    go_wp2
    go_ret
    exact ⟨ret_str (unhide HR).symm, unhide HB2⟩
  · have HR := hide (show wrdC x 62 = ⟨#[62]⟩ from rfl)
    go_enter Tryz.func51, Tryz.ntmps51
    go_wp2
    go_ret
    exact ⟨ret_str (unhide HR).symm, unhide B1⟩
  · have hl := h48 rfl
    have HR := hide (show wrdC x 48 = x.oth.getD 0 ByteArray.empty from rfl)
    obtain ⟨g, off, rfl, _, hcl⟩ := (unhide HI) hl
    have y0 := hcl 0 hl
    simp only [Nat.add_zero] at y0
    generalize x.oth.getD 0 ByteArray.empty = y at *
    have hl' : (0 : Int) < (x.oth.length : Int) := by omega
    clear hcl h48 h49
    go_enter Tryz.func51, Tryz.ntmps51
    go_wp2
    go_ret
    exact ⟨ret_str (unhide HR).symm, unhide B1⟩
  · have hl := h49 rfl
    have HR := hide (show wrdC x 49 = x.oth.getD 1 ByteArray.empty from rfl)
    obtain ⟨g, off, rfl, _, hcl⟩ := (unhide HI) (by omega)
    have y0 := hcl 1 hl
    generalize x.oth.getD 1 ByteArray.empty = y at *
    have hl' : (1 : Int) < (x.oth.length : Int) := by omega
    clear hcl h48 h49
    go_enter Tryz.func51, Tryz.ntmps51
    go_wp2
    go_ret
    exact ⟨ret_str (unhide HR).symm, unhide B1⟩

/-- The characters of the form of a kind, as numbers. -/
def frmI (n : Nat) : List Int := (kfS n).data.toList.map fun c => (c.toNat : Int)
theorem kf_ascii {n : Nat} (h : n < 12) : ∀ c ∈ (kfS n).data.toList, c.toNat < 128 := by
  have : n = 0 ∨ n = 1 ∨ n = 2 ∨ n = 3 ∨ n = 4 ∨ n = 5 ∨ n = 6 ∨ n = 7 ∨ n = 8 ∨ n = 9 ∨ n = 10 ∨ n = 11 := by omega
  rcases this with rfl | rfl | rfl | rfl | rfl | rfl | rfl | rfl | rfl | rfl | rfl | rfl <;> decide +kernel
theorem kf_few {n : Nat} (h : n < 12) : (kfS n).size ≤ 6 := by
  have : n = 0 ∨ n = 1 ∨ n = 2 ∨ n = 3 ∨ n = 4 ∨ n = 5 ∨ n = 6 ∨ n = 7 ∨ n = 8 ∨ n = 9 ∨ n = 10 ∨ n = 11 := by omega
  rcases this with rfl | rfl | rfl | rfl | rfl | rfl | rfl | rfl | rfl | rfl | rfl | rfl <;> decide +kernel
theorem kw_few {n : Nat} (h : n < 12) : (kwS n).size ≤ 12 := by
  have : n = 0 ∨ n = 1 ∨ n = 2 ∨ n = 3 ∨ n = 4 ∨ n = 5 ∨ n = 6 ∨ n = 7 ∨ n = 8 ∨ n = 9 ∨ n = 10 ∨ n = 11 := by omega
  rcases this with rfl | rfl | rfl | rfl | rfl | rfl | rfl | rfl | rfl | rfl | rfl | rfl <;> decide +kernel
/-- The text of a line. -/
def linX (n : Nat) (x : Ln) : ByteArray := ⟨(jn (kwS n :: (frmI n).map (wrdC x))).toArray⟩ ++ ⟨#[10]⟩
theorem own_built {w : World} (v : Value) (t : TypeId) {B : Nat} (hB : B ≤ w.heap.size) : (w.alloc (.cells #[v] t)).ownsRow B t 1 (.slice (some ⟨w.heap.size, 0, none⟩) 1 1) 1 [v] :=
  ⟨rfl, .inr ⟨w.heap.size, 1, #[v], rfl, hB, heap_alloc_new w _, Nat.le_refl _, by unfold maxLen; omega, rfl, rfl⟩⟩
theorem iter_apart {w : World} {B R k n : Nat} {s : ByteArray} {t : TypeId} {v : Value} {xs : List Value} (h : w.ownsRow B t 1 v n xs) (hi : w.heap[R]? = some (.stringIter s k)) : some R ≠ v.ownBlock := fun e => by
  rcases h.2 with ⟨rfl, _⟩ | ⟨g, cap, cur, rfl, _, hg, _⟩
  · cases e
  · have : R = g := Option.some.inj e
    subst this
    rw [hi] at hg
    cases hg
/-- What the loop over a form keeps: the line's box, the iterator, the words so far. -/
structure Wl (w : World) (R : Nat) (o : Obj) (s : ByteArray) (k : Nat) (v : Value) (m : Nat) (xs : List Value) (wr : World) : Prop where
  bel : Below w.heap.size w wr
  box : wr.heap[w.heap.size]? = some o
  it : wr.heap[R]? = some (.stringIter s k)
  row : wr.ownsRow (w.heap.size + 1) 9 1 v m xs
  rq : w.heap.size < R
theorem Wl.lt {w wr : World} {R k m : Nat} {o : Obj} {s : ByteArray} {v : Value} {xs : List Value} (h : Wl w R o s k v m xs wr) : R < wr.heap.size := (Array.getElem?_eq_some_iff.1 h.it).1
theorem Wl.next {w wr : World} {R k m : Nat} {o : Obj} {s : ByteArray} {v : Value} {xs : List Value} (h : Wl w R o s k v m xs wr) (k' : Nat) : Wl w R o s k' v m xs (wr.iterAt R s k') := by
  refine ⟨Lib.below_iterAt h.bel (Nat.le_of_lt h.rq) _ _, (Lib.iterAt_other wr R _ s k' (by have := h.rq; omega)).trans h.box, Lib.iterAt_heap wr R s k k' h.it, ⟨h.row.1, ?_⟩, h.rq⟩
  rcases h.row.2 with h1 | ⟨g, cap, cur, h1, h2, h3, h4⟩
  · exact .inl h1
  · refine .inr ⟨g, cap, cur, h1, h2, ?_, h4⟩
    rw [Lib.iterAt_other wr R g s k' (fun e => by subst e; rw [h.it] at h3; cases h3)]
    exact h3
theorem Wl.below {w wr w1 : World} {R k m : Nat} {o : Obj} {s : ByteArray} {v : Value} {xs : List Value} (h : Wl w R o s k v m xs wr) (hb : Below wr.heap.size wr w1) : Wl w R o s k v m xs w1 :=
  ⟨onward h.bel hb, (hb.block _ (Nat.lt_trans h.rq h.lt)).trans h.box, (hb.block _ h.lt).trans h.it, owns_later h.row hb, h.rq⟩
theorem Wl.push {w wr w1 : World} {R k m m' : Nat} {o : Obj} {s : ByteArray} {v v' : Value} {xs xs' : List Value} (h : Wl w R o s k v m xs wr) (hg : wr.grownBy w1 v.ownBlock) (hr : w1.ownsRow (w.heap.size + 1) 9 1 v' m' xs') : Wl w R o s k v' m' xs' w1 := by
  have hn := iter_apart h.row h.it
  refine ⟨h.bel.grown hg h.bel.size (fun g e => by have := (h.row.lt g e).1; omega), (hg.block _ (Nat.lt_trans h.rq h.lt) (fun e => by have := (h.row.lt _ e.symm).1; omega)).trans h.box, (hg.block _ h.lt hn).trans h.it, hr, h.rq⟩
set_option maxHeartbeats 4000000 in
set_option maxRecDepth 100000 in
theorem lwline_any (b : Nat) (x : Ln) (n : Nat) (A : Option Addr) (c : Nat) (w : World) (hT : LTab w) (hn : n < 12) (h2 : 2 ≤ (kfS n).size) (hk : x.kind = (n : Int)) (hx : LnOk x) (hA : ∀ ch ∈ frmI n, Asks x ch) (hsz : ∀ ch ∈ frmI n, (wrdC x ch).size ≤ 400) (hbw : b < w.heap.size) (h : StrsIn b w A x.oth) :
    Calls Tryz.prog 28 #[lnV x A c] w fun e w' => e = .returned (.string (linX n x)) ∧ Below w.heap.size w w' := by
  obtain ⟨i0, hi1, hz0, hz1, hz2⟩ := info_parts linfo_str
  have Hi := hide hi1
  have Hz0 := hide hz0
  have Hz1 := hide hz1
  have Hz2 := hide hz2
  have b1 := (Below.refl w.heap.size w).alloc (Nat.le_refl _) (lnO x A c)
  have HT := hide hT
  have HI := hide h
  have B1 := hide b1
  have q1 := (hT.keep b1).words n hn
  have q2 := (hT.keep b1).forms n hn
  have HF := hide (show frmI n = (kfS n).data.toList.map (fun c => (c.toNat : Int)) from rfl)
  have HAs := hide (kf_ascii hn)
  have HX := hide (show linX n x = ⟨(jn (kwS n :: (frmI n).map (wrdC x))).toArray⟩ ++ ⟨#[10]⟩ from rfl)
  have hfew := kf_few hn
  have hkf := kw_few hn
  have HA := hide hA
  have HZ := hide hsz
  have HXo := hide hx
  clear hi1 hz0 hz1 hz2 h hT hA hsz hx b1
  obtain ⟨kd, nm, ln, zn, wn, ot⟩ := x
  simp only [] at hk
  subst hk
  generalize linX n ⟨n, nm, ln, zn, wn, ot⟩ = L at *
  generalize kfS n = s at *
  generalize kwS n = kw at *
  have n0 : (0 : Int) ≤ (n : Int) := by omega
  have n1 : (n : Int) < 12 := by omega
  obtain ⟨W1, hW1⟩ : ∃ W1 : World, (w.alloc (.cells #[.int .i64 (n : Int), .string nm, .int .i64 ln, .int .i64 zn, .int .i64 wn, .slice A ot.length c] 69)).alloc (.cells #[.string kw] 9) = W1 := ⟨_, rfl⟩
  have b1 := (Below.refl w.heap.size w).alloc (Nat.le_refl _) (lnO ⟨n, nm, ln, zn, wn, ot⟩ A c)
  have b2 := below_new b1 (.cells #[.string kw] 9)
  have hz2 : W1.heap.size = w.heap.size + 2 := by rw [← hW1, World.size_alloc, World.size_alloc]
  have hbx : W1.heap[w.heap.size]? = some (lnO ⟨n, nm, ln, zn, wn, ot⟩ A c) := by
    rw [← hW1, ((Below.refl (w.alloc (lnO ⟨n, nm, ln, zn, wn, ot⟩ A c)).heap.size _).alloc (Nat.le_refl _) _).block _ (by rw [World.size_alloc]; omega)]
    exact heap_alloc_new w _
  have hrow : W1.ownsRow (w.heap.size + 1) 9 1 (.slice (some ⟨w.heap.size + 1, 0, none⟩) 1 1) 1 [.string kw] := by
    have := own_built (w := w.alloc (lnO ⟨n, nm, ln, zn, wn, ot⟩ A c)) (.string kw) 9 (B := w.heap.size + 1) (by rw [World.size_alloc]; omega)
    rw [World.size_alloc] at this
    rw [← hW1]; exact this
  have q3 : W1.cell? ⟨w.heap.size, 0, none⟩ = some (.int .i64 (n : Int)) := by rw [Lib.cell_of_heap hbx]; rfl
  have q4 : W1.cell? ⟨2, n, none⟩ = some (.string s) := by rw [← hW1]; exact kept ((Below.refl (w.alloc (lnO ⟨n, nm, ln, zn, wn, ot⟩ A c)).heap.size _).alloc (Nat.le_refl _) _) q2
  have HW0 := hide (show ∀ W, Below W1.heap.size W1 W → W.heap[w.heap.size + 2]? = some (.stringIter s 0) → Wl w (w.heap.size + 2) (lnO ⟨n, nm, ln, zn, wn, ot⟩ A c) s 0 (.slice (some ⟨w.heap.size + 1, 0, none⟩) 1 1) 1 [.string kw] W from fun W hb hi => ⟨onward (by rw [← hW1]; exact b2) hb, (hb.block _ (by omega)).trans hbx, hi, owns_later hrow hb, by omega⟩)
  clear b1 b2 hbx hrow q2
  go_enter Tryz.func28, Tryz.ntmps28
  go_wp2
  go_loopw [3] (fun v wr => ∃ k : Nat, k ≤ s.size ∧ Wl w (w.heap.size + 2) (lnO ⟨n, nm, ln, zn, wn, ot⟩ A c) s k v (k + 1) (.string kw :: ((frmI n).take k).map fun ch => .string (wrdC ⟨n, nm, ln, zn, wn, ot⟩ ch)) wr) (fun _ wr => s.size - wr.iterPos (w.heap.size + 2))
  case atStart => exact ⟨0, Nat.zero_le _, unhide HW0 _ ((Below.refl _ _).alloc (Nat.le_refl _) _) (by rw [← hz2]; exact World.iter_heap _ _ _)⟩
  case round =>
    obtain ⟨k, hk, hS⟩ := hrel
    obtain ⟨wo, rfl⟩ : ∃ wo : World, wo = wr := ⟨_, rfl⟩
    have hit := hS.it
    have hpos : wo.iterPos (w.heap.size + 2) = k := by unfold World.iterPos; rw [hit]
    have HP0 := hide hpos
    clear hpos
    by_cases hlt : k < s.size
    · have ha : (s[k]'hlt).toNat < 128 := unhide HAs _ (by rw [← byte_at hlt, at_k (by simpa using hlt)]; exact List.getElem_mem _)
      have hnx : ∀ ty, (Instr.next (.pointer (some ⟨w.heap.size + 2, 0, none⟩)) true ty).run Tryz.prog wo = _ := fun ty => Lib.run_next_ascii_at wo (w.heap.size + 2) s k ty hit hlt ha
      have hSa := hS.next (k + 1)
      obtain ⟨wa, hwa⟩ : ∃ wa : World, wo.iterAt (w.heap.size + 2) s (k + 1) = wa := ⟨_, rfl⟩
      rw [hwa] at hSa
      have hlen : k < (frmI n).length := by rw [unhide HF, List.length_map, size_list]; exact hlt
      have hat : (frmI n).getD k 0 = ((s[k]'hlt).toNat : Int) := by
        rw [unhide HF, at_k (by rw [List.length_map, size_list]; exact hlt), List.getElem_map]
        rw [← byte_at hlt, at_k (by rw [size_list]; exact hlt)]
      have hmem : ((s[k]'hlt).toNat : Int) ∈ frmI n := by rw [← hat, at_k hlen]; exact List.getElem_mem _
      have HTk := hide (show (frmI n).take (k + 1) = (frmI n).take k ++ [((s[k]'hlt).toNat : Int)] by rw [List.take_succ_eq_append_getElem hlen, ← hat, at_k hlen])
      have HWd := hide (lword_any b ⟨n, nm, ln, zn, wn, ot⟩ ((s[k]'hlt).toNat : Int) A c wa ((unhide HT).keep hSa.bel) (unhide HXo) (unhide HA _ hmem) ((unhide HI).keep hSa.bel))
      have HSa := hide hSa
      have d0 : wa.cell? ⟨w.heap.size, 0, none⟩ = some (.int .i64 (n : Int)) := by rw [Lib.cell_of_heap hSa.box]; rfl
      have d1 : wa.cell? ⟨w.heap.size, 1, none⟩ = some (.string nm) := by rw [Lib.cell_of_heap hSa.box]; rfl
      have d2 : wa.cell? ⟨w.heap.size, 2, none⟩ = some (.int .i64 ln) := by rw [Lib.cell_of_heap hSa.box]; rfl
      have d3 : wa.cell? ⟨w.heap.size, 3, none⟩ = some (.int .i64 zn) := by rw [Lib.cell_of_heap hSa.box]; rfl
      have d4 : wa.cell? ⟨w.heap.size, 4, none⟩ = some (.int .i64 wn) := by rw [Lib.cell_of_heap hSa.box]; rfl
      have d5 : wa.cell? ⟨w.heap.size, 5, none⟩ = some (.slice A ot.length c) := by rw [Lib.cell_of_heap hSa.box]; rfl
      clear hit hlen hat hmem ha hS hSa
      generalize ((s[k]'hlt).toNat : Int) = x at *
      generalize hyy : wrdC ⟨n, nm, ln, zn, wn, ot⟩ x = y at *
      have HYY := hide hyy
      clear hyy
      go_wp2_with fail
      refine (unhide HWd).mono ?_
      rintro e w5 ⟨rfl, hb5⟩
      have HS5 := hide ((unhide HSa).below hb5)
      have HS6 := hide (((unhide HSa).below hb5).below (below_new (Below.refl _ _) (.cells #[.string y] 9)))
      clear hb5 d0 d1 d2 d3 d4 d5 hwa hnx
      go_wp2_with (first
        | (at_builtin; refine wpList_append_own _ rfl _ _ 66 rfl (w.heap.size + 1) 9 i0 (.string ByteArray.empty) 1 16 Tryz.underlying66 (unhide Hi) (unhide Hz0) (unhide Hz1) (unhide Hz2) rfl (by decide) _ _ _ rfl (unhide HS6).row ⟨w5.heap.size, 0, none⟩ 1 1 [.string y] rfl rfl ?c1 ?c2 ?c3 ?c4 ?c5 ?_))
      case c1 => exact lone_new w5 _ _
      case c2 =>
        intro u hu
        simp at hu
        subst hu
        rfl
      case c3 => unfold maxLen; omega
      case c4 => omega
      case c5 => have := (unhide HS6).lt; have := (unhide HS6).rq; omega
      intro v' w7 hown7 hgrow _
      have HS7 := hide ((unhide HS6).push hgrow hown7)
      clear hown7 hgrow
      go_wp2
      go_roundw
      case rel => exact ⟨k + 1, by omega, by rw [unhide HTk, List.map_append, List.map_cons, List.map_nil, unhide HYY, List.map_take]; exact unhide HS7⟩
      case measure =>
        have e2 : w7.iterPos (w.heap.size + 2) = k + 1 := by unfold World.iterPos; rw [(unhide HS7).it]
        rw [e2, unhide HP0]; omega
    · have hnx : ∀ ty, (Instr.next (.pointer (some ⟨w.heap.size + 2, 0, none⟩)) true ty).run Tryz.prog wo = _ := fun ty => Lib.run_next_end_at wo (w.heap.size + 2) s k ty hit hlt
      obtain rfl : k = s.size := by omega
      have hfl : (frmI n).length = s.size := by rw [unhide HF, List.length_map, size_list]
      have hrw := hS.row
      rw [← hfl, List.take_length] at hrw
      have hml : ((frmI n).map (wrdC ⟨n, nm, ln, zn, wn, ot⟩)).length = s.size := by rw [List.length_map, hfl]
      obtain ⟨g, cap, rfl, hcap⟩ : ∃ g cap, _ = Value.slice (some ⟨g, 0, none⟩) (s.size + 1) cap ∧ s.size + 1 ≤ cap := by
        rcases hS.row.2 with ⟨_, h0⟩ | ⟨g, cap, cur, h1, _, _, h3, _⟩
        · omega
        · exact ⟨g, cap, h1, h3⟩
      have hstr : StrsIn b wo (some ⟨g, 0, none⟩) (kw :: (frmI n).map (wrdC ⟨n, nm, ln, zn, wn, ot⟩)) := by
        refine (StrRow.own (base := w.heap.size + 1) (cap := cap) ?_ (by omega)).strs
        rw [List.length_cons, hml, ← hfl, List.map_cons, List.map_map, hfl]
        exact hfl ▸ hrw
      have HJ := hide (ljoin_any b kw ((frmI n).map (wrdC ⟨n, nm, ln, zn, wn, ot⟩)) (some ⟨g, 0, none⟩) cap wo (by omega) (by omega) (by omega) (fun y hy => by
        rcases List.mem_cons.1 hy with rfl | hy
        · omega
        · obtain ⟨ch, hch, rfl⟩ := List.mem_map.1 hy
          have := unhide HZ ch hch
          omega) hstr)
      rw [hml] at HJ
      have HB := hide hS.bel
      have HX2 := hide (unhide HX)
      generalize hjj : (⟨(jn (kw :: (frmI n).map (wrdC ⟨n, nm, ln, zn, wn, ot⟩))).toArray⟩ : ByteArray) = J at *
      have hJs : J.size ≤ 4000 := by
        rw [← hjj]
        show (jn (kw :: (frmI n).map (wrdC ⟨n, nm, ln, zn, wn, ot⟩))).toArray.size ≤ 4000
        unfold jn
        rw [List.size_toArray, List.length_append]
        have h3 := jnT_len (r := (frmI n).map (wrdC ⟨n, nm, ln, zn, wn, ot⟩)) (fun y hy => by
          obtain ⟨ch, hch, rfl⟩ := List.mem_map.1 hy
          have := unhide HZ ch hch
          omega)
        have h4 : kw.data.toList.length = kw.size := by simp
        omega
      clear hS hit hrw hstr hjj hfl hml
      go_wp2_with fail
      refine (unhide HJ).mono ?_
      rintro e w5 ⟨rfl, hb5⟩
      have HB5 := hide (onward (unhide HB) hb5)
      clear hb5 hnx
      go_wp2
      go_ret
      exact ⟨ret_str (unhide HX2).symm, unhide HB5⟩
end Go.Proofs.YtfddpdognelhmaaGreatDoor
