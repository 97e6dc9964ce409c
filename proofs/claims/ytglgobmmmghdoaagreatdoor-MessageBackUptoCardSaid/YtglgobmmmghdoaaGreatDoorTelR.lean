/-
  Telegrams: the reference's checks, text, Validate, Format.
-/
import Derived.Test.YtglgobmmmghdoaaGreatDoorTelA

/- TelR: Contracts of the checks of telegrams, the document's own: letters, plain, formed, within. -/
namespace Go.Proofs.YtglgobmmmghdoaaGreatDoor
open Go.RowKit

theorem rletN_of {s : ByteArray} {n : Int} (h : allLet s.data.toList = true) : letN s n = ((s.size : Int) == n) := by
  unfold letN; rw [h, Bool.and_true]; by_cases e : (s.size : Int) = n <;> simp [e]
theorem letN_no2 {s : ByteArray} {n : Int} (h : allLet s.data.toList = false) : letN s n = false := by unfold letN; rw [h, Bool.and_false]

theorem isPc_iff {c : Int} : isPc c = true ↔ (65 ≤ c ∧ c ≤ 90) ∨ (48 ≤ c ∧ c ≤ 57) ∨ (c == 32) = true ∨ (c == 45) = true ∨ (c == 43) = true := by
  unfold isPc isLe isD
  simp only [Bool.or_eq_true, decide_eq_true_eq, beq_iff_eq]

theorem no_pc {c : Int} (h1 : (c == 32) = false) (h2 : (c == 45) = false) (h3 : (c == 43) = false) (h4 : c < 65 ∨ 90 < c) (h5 : c < 48 ∨ 57 < c) : ¬ isPc c = true := fun h => by
  rw [isPc_iff, h1, h2, h3] at h
  rcases h with ⟨a, b⟩ | ⟨a, b⟩ | h | h | h
  · omega
  · omega
  · exact Bool.false_ne_true h
  · exact Bool.false_ne_true h
  · exact Bool.false_ne_true h

end Go.Proofs.YtglgobmmmghdoaaGreatDoor

/- TelS: Contract of the document's own formed. -/
namespace Go.Proofs.YtglgobmmmghdoaaGreatDoor
open Go.RowKit

theorem chB_cases (C : ByteArray) : Hid (okCh C = true ∧ (C.toList.isEmpty = true ∨ (C.toList.isEmpty = false ∧ (C.toList == [67, 72, 71]) = true) ∨ (C.toList.isEmpty = false ∧ (C.toList == [67, 72, 71]) = false ∧ (C.toList == [68, 69, 76]) = true))
    ∨ okCh C = false ∧ C.toList.isEmpty = false ∧ (C.toList == [67, 72, 71]) = false ∧ (C.toList == [68, 69, 76]) = false) := by
  unfold okCh chB
  show _ ∨ _
  cases C.toList.isEmpty <;> cases (C.toList == [67, 72, 71]) <;> cases (C.toList == [68, 69, 76]) <;> simp

end Go.Proofs.YtglgobmmmghdoaaGreatDoor

/- TelT: Contract of the document's own text of a telegram. -/
namespace Go.Proofs.YtglgobmmmghdoaaGreatDoor
open Go.RowKit

/-- A string whose bytes are these. -/
def IsStr (l : List UInt8) (v : Value) : Prop := ∃ S : ByteArray, v = .string S ∧ S.data.toList = l
theorem str_of {l : List UInt8} {S : ByteArray} (h : S.data.toList = l) : S = ⟨l.toArray⟩ := by
  subst h; rfl
theorem flat_step {α : Type} (f : α → List UInt8) {l : List α} {d : α} {k : Nat} (h : k < l.length) : (l.take (k + 1)).flatMap f = (l.take k).flatMap f ++ f (l.getD k d) := by
  rw [List.take_succ_eq_append_getElem h, at_k h, List.flatMap_append]; simp
theorem flat_all {α : Type} (f : α → List UInt8) {l : List α} {k : Nat} (h : l.length ≤ k) : (l.take k).flatMap f = l.flatMap f := by
  rw [List.take_of_length_le h]

theorem flat_len {α : Type} (f : α → List UInt8) (l : List α) (k : Nat) : ((l.take k).flatMap f).length ≤ (l.flatMap f).length := by
  have h : (l.flatMap f).length = ((l.take k).flatMap f).length + ((l.drop k).flatMap f).length := by
    rw [← List.length_append, ← List.flatMap_append, List.take_append_drop]
  omega
theorem tsize_list {S : ByteArray} {l : List UInt8} (h : S.data.toList = l) : S.size = l.length := by
  rw [← h]; simp
theorem tel_pre (t : Tel) (k : Nat) : (headX t ++ (t.els.take k).flatMap elX).length ≤ (telX t).length := by
  have := flat_len elX t.els k
  unfold telX
  simp only [List.length_append]
  omega
theorem tel_pre2 (t : Tel) {k : Nat} (h : k < t.els.length) : (headX t ++ (t.els.take k).flatMap elX).length + (elX (t.els.getD k el0)).length ≤ (telX t).length := by
  have h1 := tel_pre t (k + 1)
  rw [flat_step elX (d := el0) h, ← List.append_assoc, List.length_append] at h1
  exact h1
theorem el_pre (e : El) (j : Nat) : 1 + e.1.size + ((e.2.take j).flatMap partX).length + 1 ≤ (elX e).length := by
  have := flat_len partX e.2 j
  unfold elX
  simp only [List.length_append, List.length_cons, List.length_nil]
  have e1 : e.1.data.toList.length = e.1.size := by simp
  omega

end Go.Proofs.YtglgobmmmghdoaaGreatDoor

/- TelV: Contracts of the document's own Validate and Format of telegrams. -/
namespace Go.Proofs.YtglgobmmmghdoaaGreatDoor
open Go.RowKit

/-- A telegram in a block of its own. -/
def TBox (w : World) (b : Nat) (K C : ByteArray) (v : Value) : Prop := w.cell? ⟨b, 0, none⟩ = some (.string K) ∧ w.cell? ⟨b, 1, none⟩ = some (.string C) ∧ w.cell? ⟨b, 2, none⟩ = some v
theorem TBox.keep {w w1 : World} {b : Nat} {K C : ByteArray} {v : Value} (h : TBox w b K C v) (hb : Below w.heap.size w w1) : TBox w1 b K C v := ⟨kept hb h.1, kept hb h.2.1, kept hb h.2.2⟩
theorem TBox.new (w : World) (K C : ByteArray) (v : Value) (t : TypeId) : TBox (w.alloc (.cells #[.string K, .string C, v] t)) w.heap.size K C v := ⟨by simp [go_sem], by simp [go_sem], by simp [go_sem]⟩
theorem TBox.alloc {w : World} {b : Nat} {K C : ByteArray} {v : Value} (h : TBox w b K C v) (o : Obj) : TBox (w.alloc o) b K C v := h.keep ((Below.refl _ _).alloc (Nat.le_refl _) o)

end Go.Proofs.YtglgobmmmghdoaaGreatDoor
