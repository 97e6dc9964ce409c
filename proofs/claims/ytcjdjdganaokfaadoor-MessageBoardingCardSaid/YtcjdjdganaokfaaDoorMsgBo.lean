/-
  MessageBoarding: a boarding message with a list; the walk.
-/
import Derived.Test.YtcjdjdganaokfaaDoorMsgAA
import Derived.Test.YtcjdjdganaokfaaDoorMsgWL
namespace Go.Proofs.YtcjdjdganaokfaaDoor
open Go.RowKit

def gB : Lg := ⟨⟨#[83, 75]⟩, 1, ⟨#[]⟩, 0, ⟨#[67, 80, 72]⟩, ⟨#[89]⟩⟩
def boM (l : List Int) : Msg := { msg0 with kind := 5, port := ⟨#[65, 82, 78]⟩, num := 1, out := gB, lst := l }
def boL (s : Int) (k : Nat) : List Int := (List.range k).map fun i : Nat => 1 + (i : Int) * (1 + s)
theorem boL_len (s : Int) (k : Nat) : (boL s k).length = k := by unfold boL; rw [List.length_map, List.length_range]
theorem boL_snoc (s : Int) (k : Nat) : boL s (k + 1) = boL s k ++ [1 + (k : Int) * (1 + s)] := by
  unfold boL; rw [List.range_succ, List.map_append]; rfl
theorem boL_at {s : Int} {k i : Nat} (hi : i < k) : (boL s k).getD i 0 = 1 + (i : Int) * (1 + s) := by
  unfold boL
  rw [List.getD_eq_getElem?_getD, List.getElem?_map, List.getElem?_range hi]; rfl
theorem bo_bd {s : Int} (h0 : 0 ≤ s) (h1 : s ≤ 23) {i : Nat} (hi : i ≤ 41) : 0 ≤ (i : Int) * (1 + s) ∧ (i : Int) * (1 + s) ≤ (i : Int) * 24 :=
  ⟨Int.mul_nonneg (by omega) (by omega), Int.mul_le_mul_of_nonneg_left (by omega) (by omega)⟩
theorem ascB_of : ∀ (l : List Int), (∀ i, i + 1 < l.length → l.getD i 0 < l.getD (i + 1) 0) → ascB l = true
  | [], _ => rfl
  | [_], _ => rfl
  | x :: y :: l, h => by
    unfold ascB
    rw [Bool.and_eq_true]
    exact ⟨decide_eq_true (h 0 (by simp)), ascB_of (y :: l) (fun i hi => h (i + 1) (by simp only [List.length_cons] at hi ⊢; omega))⟩
theorem boL_asc {s : Int} (h0 : 0 ≤ s) (k : Nat) : ascB (boL s k) = true := ascB_of _ fun i hi => by
  rw [boL_len] at hi
  rw [boL_at (by omega), boL_at hi, Int.natCast_add, Int.add_mul]
  omega
theorem boL_seq {s : Int} (h0 : 0 ≤ s) (h1 : s ≤ 23) {k : Nat} (hk : k ≤ 41) : (boL s k).all seqB = true := List.all_eq_true.2 fun v hv => by
  obtain ⟨i, hi, rfl⟩ := List.mem_map.1 hv
  have hi' := List.mem_range.1 hi
  obtain ⟨b0, b1⟩ := bo_bd h0 h1 (i := i) (by omega)
  exact inB_iff.2 (by omega)
theorem boM_own (l : List Int) : ownM (boM l) = boM l := by
  unfold ownM
  rw [if_neg (show ¬ (boM l).kind = 1 by show ¬ (5 : Int) = 1; decide), if_neg (show ¬ (boM l).kind = 2 by show ¬ (5 : Int) = 2; decide), if_neg (show ¬ (boM l).kind = 3 by show ¬ (5 : Int) = 3; decide), if_neg (show ¬ (boM l).kind = 4 by show ¬ (5 : Int) = 4; decide), if_pos (show (boM l).kind = 5 from rfl)]
  rfl
theorem boM_zero : valE (boM []) = 0 := by decide +kernel
theorem boM_valid {l : List Int} (h1 : l.length ≤ 40) (h2 : l.all seqB = true) (h3 : ascB l = true) : valE (boM l) = 0 := by
  obtain ⟨a1, _, _, a4, a5, a6, _⟩ := valE_ok.1 boM_zero
  refine valE_ok.2 ⟨a1, (boM_own l).symm, ?_, a4, a5, ?_, h3⟩
  · unfold limB
    rw [Bool.and_eq_true]
    exact ⟨rfl, decide_eq_true h1⟩
  · refine List.all_eq_true.2 fun key hk => ?_
    have hk2 : key ∈ ([86, 70, 66] : List Int) := hk
    have a := List.all_eq_true.1 a6 key hk
    simp only [List.mem_cons, List.not_mem_nil, or_false] at hk2
    rcases hk2 with rfl | rfl | rfl
    · exact a
    · exact a
    · exact h2
theorem boM_far {l : List Int} (h : 40 < l.length) : valE (boM l) = 2 := by
  unfold valE
  have h1 : kindB (boM l) = true := rfl
  have h2 : sameM (boM l) (ownM (boM l)) = true := by rw [boM_own]; exact decide_eq_true rfl
  have h3 : limB (boM l) = false := by unfold limB; rw [Bool.and_eq_false_iff]; exact Or.inr (decide_eq_false (by show ¬ l.length ≤ 40; omega))
  rw [if_pos h1, if_pos h2, h3, if_neg Bool.false_ne_true]
theorem boM_els (l : List Int) : (encT (boM l)).els.length = 2 + nCh l.length := by
  have e : (encT (boM l)).els = elsK (boM l) 86 ++ (elsK (boM l) 70 ++ (elsK (boM l) 66 ++ [])) := rfl
  have e3 : elsK (boM l) 66 = (lstP l).map fun ps => (one 66, ps) := rfl
  rw [e, List.length_append, List.length_append, List.length_append, e3, List.length_map, lstP_eq, List.length_map, List.length_range]
  show 1 + (1 + (nCh l.length + 0)) = _
  omega
theorem boM_dec {l : List Int} (h : valE (boM l) = 0) : decM (encT (boM l)) = boM l ∧ decE (encT (boM l)) = 0 := by
  have hk : ¬ findW wKind (-1) (encT (boM l)).kind < 1 := by
    show ¬ findW wKind (-1) (wKind 5) < 1
    decide +kernel
  have ho : okD (encT (boM l)) = true := by
    unfold okD
    rw [read_enc h, decide_eq_true h, decide_eq_true rfl]; rfl
  unfold decM decE
  rw [if_neg hk, if_neg hk, ho, read_enc h]
  exact ⟨rfl, rfl⟩
theorem enc_fit {m : Msg} (h : valE m = 0) : FitT (encT m) := by
  have hs := enc_small h
  refine ⟨by have := enc_els h; omega, fun e he => ?_, fun e he p hp => ?_⟩
  · have := (hs.2.2.2 e he).1; omega
  · have := (hs.2.2.2 e he).2.2 p hp; omega
theorem bo_enc {l : List Int} (h : valE (boM l) = 0) (L : Option Addr) (d : Nat) (w : World) (hb : 0 < w.heap.size) (hn : NumsIn 0 w L l) (hd : l.length ≤ d) (hz : l.length ≤ 1000) (hg : l.all seqB = true) (hK : Keys w) (hT : Tabs w) :
    Calls Tryd.prog 10 #[msgV (boM l) none 0 L d] w fun e w' => ∃ A c, e = .returned (.tuple #[.agg #[.string ⟨#[66, 66, 77]⟩, .string ⟨#[]⟩, .slice A (2 + nCh l.length) c], .int .i64 0]) ∧ ElsIn 0 w' A (encT (boM l)).els ∧ Below w.heap.size w w' := by
  refine (enc_ok 0 (boM l) none L 0 d w hb (LegsIn.nil _ _ _) hn hK hT h (fun W _ h2 h3 _ => wr_66 0 (boM l) none L 0 d W h2 hz hg h3 hd)).mono ?_
  rintro e w' ⟨A, c, rfl, h1, h2⟩
  refine ⟨A, c, ?_, h1, h2⟩
  rw [boM_els]; rfl
theorem bo_dec {l : List Int} (h : valE (boM l) = 0) (A : Option Addr) (c : Nat) (w : World) (hb : 0 < w.heap.size) (hE : ElsIn 0 w A (encT (boM l)).els) (hz : l.length ≤ 1000) (hg : l.all seqB = true) (hK : Keys w) (hT : Tabs w) :
    Calls Tryd.prog 12 #[.agg #[.string ⟨#[66, 66, 77]⟩, .string ⟨#[]⟩, .slice A (2 + nCh l.length) c]] w fun e w' => ∃ A c L d, e = .returned (.tuple #[msgV (boM l) A c L d, .int .i64 0]) ∧ NumsIn 0 w' L l ∧ Below w.heap.size w w' := by
  have hx := dec_ok 0 (encT (boM l)) A c w hb (enc_fit h) hE hK hT (fun W A c L d _ h2 h3 _ _ h5 => by
    rw [read_enc h] at h3 h5 ⊢
    exact wr_66 0 (boM l) A L c d W h2 hz hg h3 h5)
  rw [boM_els] at hx
  refine hx.mono ?_
  rintro e w' ⟨A', c', L', d', rfl, _, h2, h3⟩
  rw [(boM_dec h).1] at h2
  refine ⟨A', c', L', d', ?_, h2, h3⟩
  rw [(boM_dec h).1, (boM_dec h).2]
theorem bo_bad {l : List Int} (h : 40 < l.length) (hz : l.length ≤ 1000) (L : Option Addr) (d : Nat) (w : World) (hn : NumsIn 0 w L l) (hK : Keys w) :
    Calls Tryd.prog 10 #[msgV (boM l) none 0 L d] w fun e w' => e = .returned (.tuple #[.agg #[.string ⟨#[]⟩, .string ⟨#[]⟩, .slice none 0 0], .int .i64 2]) ∧ Below w.heap.size w w' := by
  have hx := enc_bad 0 (boM l) none L 0 d w (Nat.zero_le _) (by show l.length ≤ 1000000000; omega) (LegsIn.nil _ _ _) hn hK (by rw [boM_far h]; decide)
  rwa [boM_far h] at hx
end Go.Proofs.YtcjdjdganaokfaaDoor
