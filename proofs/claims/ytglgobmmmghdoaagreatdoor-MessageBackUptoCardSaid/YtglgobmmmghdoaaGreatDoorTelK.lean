/-
  The mathematics of the few telegrams that the reader builds.
-/
import Derived.Test.YtglgobmmmghdoaaGreatDoorLibOB
import Derived.Test.YtglgobmmmghdoaaGreatDoorTelR
import Derived.Test.YtglgobmmmghdoaaGreatDoorTelA
namespace Go.Proofs.YtglgobmmmghdoaaGreatDoor
open Go.RowKit

/-- The few telegrams: kinds, changes, and elements of one to three parts. -/
def kindS (i : Nat) : ByteArray := if i = 0 then ⟨#[66, 83, 77]⟩ else if i = 1 then ⟨#[66, 84, 77]⟩ else ⟨#[88, 89, 90]⟩
def chngS (i : Nat) : ByteArray := if i = 0 then ⟨#[]⟩ else if i = 1 then ⟨#[67, 72, 71]⟩ else ⟨#[68, 69, 76]⟩
def partS (i : Nat) : ByteArray := if i = 0 then ⟨#[]⟩ else if i = 1 then ⟨#[65, 49]⟩ else if i = 2 then ⟨#[83, 75, 48, 49, 50, 51]⟩ else if i = 3 then ⟨#[74, 45, 32, 43]⟩ else ⟨#[48, 49, 50, 51, 52, 53, 54, 55, 56, 57, 65, 66, 67, 68, 69, 70, 71, 72, 73, 74]⟩
theorem five_strs {w : World} {x y z u v : ByteArray} {f : Nat → ByteArray} {t : TypeId} (h0 : f 0 = x) (h1 : f 1 = y) (h2 : f 2 = z) (h3 : f 3 = u) (h4 : f 4 = v) : ∀ i, i < 5 → (w.alloc (.cells #[.string x, .string y, .string z, .string u, .string v] t)).cell? ⟨w.heap.size, i, none⟩ = some (.string (f i)) := fun i hi => by
  subst h0 h1 h2 h3 h4
  match i, hi with
  | 0, _ | 1, _ | 2, _ | 3, _ | 4, _ => simp [go_sem]
/-- A part that the reader may choose. -/
def okPart (p : ByteArray) : Bool := pcB p && shB p
theorem partS_ok (i : Nat) : okPart (partS i) = true := by
  unfold partS
  split
  · decide +kernel
  · split
    · decide +kernel
    · split
      · decide +kernel
      · split <;> decide +kernel
theorem kindS_ok (i : Nat) : letN (kindS i) 3 = true := by
  unfold kindS
  split
  · decide +kernel
  · split <;> decide +kernel
theorem chngS_ok (i : Nat) : okCh (chngS i) = true := by
  unfold chngS
  split
  · decide +kernel
  · split <;> decide +kernel
def okEl (e : El) : Bool := letN e.1 1 && (decide (1 ≤ e.2.length ∧ e.2.length ≤ 3) && e.2.all okPart)
/-- A telegram that the reader may build. -/
def FewT (t : Tel) : Prop := (∃ i, t.kind = kindS i) ∧ (∃ i, t.change = chngS i) ∧ t.els.length ≤ 4 ∧ t.els.all okEl = true
theorem okPart_all {l : List ByteArray} (h : l.all okPart = true) : l.all pcB = true ∧ l.all shB = true := by
  rw [List.all_eq_true] at h
  constructor <;> rw [List.all_eq_true] <;> intro x hx <;> have := h x hx <;> unfold okPart at this <;> rw [Bool.and_eq_true] at this
  · exact this.1
  · exact this.2
theorem okEl_all {l : List El} (h : l.all okEl = true) : l.all felB = true ∧ l.all belB = true := by
  rw [List.all_eq_true] at h
  constructor <;> rw [List.all_eq_true] <;> intro x hx <;> have := h x hx <;> unfold okEl at this <;> rw [Bool.and_eq_true, Bool.and_eq_true, decide_eq_true_eq] at this <;> obtain ⟨h1, h2, h3⟩ := this <;> obtain ⟨h4, h5⟩ := okPart_all h3
  · unfold felB
    rw [h1, h4]
    have : (x.2.length == 0) = false := by rw [beq_eq_false_iff_ne]; omega
    rw [this]; rfl
  · unfold belB
    rw [h5, Bool.and_true, decide_eq_true_eq]; omega
theorem fewT_parts {l : List ByteArray} (h : l.all okPart = true) (hl : l.length ≤ 3) : (l.flatMap partX).length ≤ 63 := by
  have := parts_len (okPart_all h).2
  omega
theorem fewT_els {l : List El} (h : l.all okEl = true) : (l.flatMap elX).length ≤ 66 * l.length := by
  induction l with
  | nil => simp
  | cons x l ih =>
    rw [List.all_cons, Bool.and_eq_true] at h
    have h1 := ih h.2
    have h2 := h.1
    unfold okEl at h2
    rw [Bool.and_eq_true, Bool.and_eq_true, decide_eq_true_eq] at h2
    have h3 := fewT_parts h2.2.2 h2.2.1.2
    have h4 : (x.1.size : Int) = 1 := by
      have := h2.1
      unfold letN at this
      rw [Bool.and_eq_true, decide_eq_true_eq] at this
      exact this.1
    have h5 : (elX x).length = 1 + (x.1.size + ((x.2.flatMap partX).length + 1)) := by simp [elX]; omega
    rw [List.flatMap_cons, List.length_append, h5, List.length_cons]
    omega
theorem few_ok {t : Tel} (h : FewT t) : telE t = 0 := by
  obtain ⟨⟨i, hi⟩, ⟨j, hj⟩, h4, he⟩ := h
  obtain ⟨h1, h2⟩ := okEl_all he
  refine telE_0 ?_ ?_ ?_
  · unfold telF; rw [hi, hj, kindS_ok, chngS_ok, h1]; rfl
  · unfold telB; rw [h2, Bool.and_true, decide_eq_true_eq]; omega
  · have h5 := fewT_els he
    unfold telX headX endX
    have h6 : t.kind.data.toList.length = 3 := by
      rw [hi]; unfold kindS; split
      · rfl
      · split <;> rfl
    have h7 : t.change.data.toList.length ≤ 3 := by
      rw [hj]; unfold chngS; split
      · simp
      · split <;> simp
    simp only [List.length_append, List.length_cons, List.length_nil, h6]
    split <;> simp only [List.length_append, List.length_cons, List.length_nil] <;> omega
theorem few_small {t : Tel} (h : FewT t) : SmallT t := by
  obtain ⟨⟨i, hi⟩, ⟨j, hj⟩, h4, he⟩ := h
  refine ⟨by omega, ?_, ?_, fun e hx => ?_⟩
  · rw [hi]; unfold kindS; split
    · decide
    · split <;> decide
  · rw [hj]; unfold chngS; split
    · decide
    · split <;> decide
  · have h2 := List.all_eq_true.1 he e hx
    unfold okEl at h2
    rw [Bool.and_eq_true, Bool.and_eq_true, decide_eq_true_eq] at h2
    have h4 : (e.1.size : Int) = 1 := by
      have := h2.1
      unfold letN at this
      rw [Bool.and_eq_true, decide_eq_true_eq] at this
      exact this.1
    refine ⟨by omega, by omega, fun p hp => ?_⟩
    have := List.all_eq_true.1 (okPart_all h2.2.2).2 p hp
    have := of_decide_eq_true this
    omega
end Go.Proofs.YtglgobmmmghdoaaGreatDoor
