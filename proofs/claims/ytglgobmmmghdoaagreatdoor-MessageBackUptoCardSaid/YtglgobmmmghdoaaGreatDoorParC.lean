/-
  Contract of read: a line is added to what the reader knows.
-/
import Derived.Test.YtglgobmmmghdoaaGreatDoorParB
import Derived.Test.YtglgobmmmghdoaaGreatDoorTelQ
namespace Go.Proofs.YtglgobmmmghdoaaGreatDoor
open Go.RowKit

theorem rstep_1 {q : St} {l : ByteArray} (h : q.ended = true) : rstep q l = (3, q) := by unfold rstep; rw [if_pos h]
theorem rstep_2 {q : St} {l : ByteArray} (h : q.ended = false) (h0 : q.lines = 0) (hl : letN l 3 = true) : rstep q l = (0, { q with kind := l }) := by unfold rstep; rw [if_neg (by simp [h]), if_pos h0, if_pos hl]
theorem rstep_3 {q : St} {l : ByteArray} (h : q.ended = false) (h0 : q.lines = 0) (hl : letN l 3 = false) : rstep q l = (3, q) := by unfold rstep; rw [if_neg (by simp [h]), if_pos h0, if_neg (by simp [hl])]
theorem rstep_4 {q : St} {l : ByteArray} (h : q.ended = false) (h0 : q.lines = 1) (hl : chB l = true) : rstep q l = (0, { q with change := l }) := by unfold rstep; rw [if_neg (by simp [h]), if_neg (by omega), if_pos ⟨h0, hl⟩]
theorem rstep_5 {q : St} {l : ByteArray} (h : q.ended = false) (h0 : q.lines ≠ 0) (hl : ¬ (q.lines = 1 ∧ chB l = true)) (he : l = endS q.kind) : rstep q l = (0, { q with ended := true }) := by unfold rstep; rw [if_neg (by simp [h]), if_neg h0, if_neg hl, if_pos he]
theorem rstep_6 {q : St} {l : ByteArray} (h : q.ended = false) (h0 : q.lines ≠ 0) (hl : ¬ (q.lines = 1 ∧ chB l = true)) (he : l ≠ endS q.kind) : rstep q l = estep q l := by unfold rstep estep; rw [if_neg (by simp [h]), if_neg h0, if_neg hl, if_neg he]

theorem Rdr.set {b rb i : Nat} {w : World} {q q' : St} {v : Value} (h : Rdr b rb w q) (he : q'.els = q.els)
    (hs : ∀ (A : Option Addr) (n c : Nat), w.heap[rb]? = some (.cells #[.string q.kind, .string q.change, .slice A n c, .int .i64 q.lines, .bool q.ended] 75 (0, 0)) → (w.setCell ⟨rb, i, none⟩ v).heap[rb]? = some (.cells #[.string q'.kind, .string q'.change, .slice A n c, .int .i64 q'.lines, .bool q'.ended] 75 (0, 0))) :
    Rdr b rb (w.setCell ⟨rb, i, none⟩ v) q' := by
  obtain ⟨h0, xs, A, c, h1, h2, h3, h4, h5⟩ := h
  have hg := Lib.grownBy_setB (World.grownBy.refl w (some rb)) i v
  exact ⟨h0, xs, A, c, hs _ _ _ h1, h2.kept hg (Or.inr fun e => own_ne h2 h1 (by decide) e.symm), h3.step (KeepS.other hg h1 (by decide)), by rw [he, h4], h5⟩
theorem Rdr.kind {b rb : Nat} {w : World} {q : St} (h : Rdr b rb w q) (l : ByteArray) : Rdr b rb (w.setCell ⟨rb, 0, none⟩ (.string l)) { q with kind := l } :=
  h.set rfl fun _ _ _ hh => by simp [World.setCell, Array.getElem?_modify, hh]
theorem Rdr.change {b rb : Nat} {w : World} {q : St} (h : Rdr b rb w q) (l : ByteArray) : Rdr b rb (w.setCell ⟨rb, 1, none⟩ (.string l)) { q with change := l } :=
  h.set rfl fun _ _ _ hh => by simp [World.setCell, Array.getElem?_modify, hh]
theorem Rdr.stop {b rb : Nat} {w : World} {q : St} (h : Rdr b rb w q) : Rdr b rb (w.setCell ⟨rb, 4, none⟩ (.bool true)) { q with ended := true } :=
  h.set rfl fun _ _ _ hh => by simp [World.setCell, Array.getElem?_modify, hh]
theorem Rdr.line {b rb : Nat} {w : World} {q : St} (h : Rdr b rb w q) (n : Nat) : Rdr b rb (w.setCell ⟨rb, 3, none⟩ (.int .i64 n)) { q with lines := n } :=
  h.set rfl fun _ _ _ hh => by simp [World.setCell, Array.getElem?_modify, hh]
theorem Rdr.cells {b rb : Nat} {w : World} {q : St} (h : Rdr b rb w q) : w.cell? ⟨rb, 0, none⟩ = some (.string q.kind) ∧ w.cell? ⟨rb, 1, none⟩ = some (.string q.change) ∧ w.cell? ⟨rb, 3, none⟩ = some (.int .i64 q.lines) ∧ w.cell? ⟨rb, 4, none⟩ = some (.bool q.ended) ∧ ∀ i, w.frozen? ⟨rb, i, none⟩ = false := by
  obtain ⟨h0, xs, A, c, h1, h2, h3, h4, h5⟩ := h
  exact ⟨Lib.cell_of_heap h1 0, Lib.cell_of_heap h1 1, Lib.cell_of_heap h1 3, Lib.cell_of_heap h1 4, Lib.frozen_of_heap h1⟩

set_option maxHeartbeats 4000000 in
theorem read_any (b rb : Nat) (q : St) (l : ByteArray) (w : World) (hR : Rdr b rb w q) (hl : l.size ≤ 2048) (hk : q.kind.size ≤ 2048) (hsm : SmallE (peEl l)) :
    Calls Tryz.prog 30 #[.pointer (some ⟨rb, 0, none⟩), .string l] w fun e w' => e = .returned (.int .i64 (rstep q l).1) ∧ Rdr b rb w' (rstep q l).2 ∧ Below rb w w' := by
  have HR := hide hR
  have HSM := hide hsm
  obtain ⟨c0, c1, c3, c4, hf⟩ := hR.cells
  have f0 := hf 0
  have f1 := hf 1
  have f4 := hf 4
  clear hsm hf hR
  cases hen : q.ended with
  | true =>
    have HE := hide (rstep_1 (l := l) hen)
    rw [hen] at c4
    clear hen
    go_enter Tryz.func30, Tryz.ntmps30
    go_wp2
    go_ret
    rw [unhide HE]
    exact ⟨rfl, unhide HR, Below.refl _ _⟩
  | false =>
    rw [hen] at c4
    by_cases h0 : q.lines = 0
    · have i0 : ((q.lines : Int) == 0) = true := by rw [beq_iff_eq]; omega
      cases hle : letN l 3 with
      | false =>
        have HE := hide (rstep_3 (l := l) hen h0 hle)
        have HLE := hide hle
        clear hen h0 hle
        go_enter Tryz.func30, Tryz.ntmps30
        go_wp2_with (first | (go_at_call 56; refine (kind_any _ _).mono ?_; rw [unhide HLE]; rintro e w1 ⟨rfl, rfl⟩))
        go_ret
        rw [unhide HE]
        exact ⟨rfl, unhide HR, Below.refl _ _⟩
      | true =>
        have HE := hide (rstep_2 (l := l) hen h0 hle)
        have HLE := hide hle
        clear hen h0 hle
        go_enter Tryz.func30, Tryz.ntmps30
        go_wp2_with (first | (go_at_call 56; refine (kind_any _ _).mono ?_; rw [unhide HLE]; rintro e w1 ⟨rfl, rfl⟩))
        go_ret
        rw [unhide HE]
        exact ⟨rfl, (unhide HR).kind l, (Below.refl _ _).setCell (p := ⟨rb, 0, none⟩) (Nat.le_refl _) _⟩
    · have i0 : ((q.lines : Int) == 0) = false := by rw [beq_eq_false_iff_ne]; omega
      by_cases hch : q.lines = 1 ∧ chB l = true
      · have i1 : ((q.lines : Int) == 1) = true := by rw [beq_iff_eq]; omega
        have HE := hide (rstep_4 (l := l) hen hch.1 hch.2)
        have HLE := hide hch.2
        clear hen h0 hch
        go_enter Tryz.func30, Tryz.ntmps30
        go_wp2_with (first | (go_at_call 57; refine (change_any _ _).mono ?_; rw [unhide HLE]; rintro e w1 ⟨rfl, rfl⟩))
        go_ret
        rw [unhide HE]
        exact ⟨rfl, (unhide HR).change l, (Below.refl _ _).setCell (p := ⟨rb, 1, none⟩) (Nat.le_refl _) _⟩
      · have hcase : Hid ((((q.lines : Int) == 1) = true ∧ chB l = false) ∨ ((q.lines : Int) == 1) = false) := by
          by_cases h1 : q.lines = 1
          · left
            refine ⟨by rw [beq_iff_eq]; omega, ?_⟩
            cases e : chB l with
            | true => exact absurd ⟨h1, e⟩ hch
            | false => rfl
          · right; rw [beq_eq_false_iff_ne]; omega
        by_cases hend : l = endS q.kind
        · have HE := hide (rstep_5 (l := l) hen h0 hch hend)
          have j0 : (l.toList == ({ data := #[69, 78, 68] } ++ q.kind : ByteArray).toList) = true := by rw [toList_eq]; exact decide_eq_true hend
          clear hen h0 hch hend
          rcases hcase.out with ⟨i1, i2⟩ | i1
          · have HLE := hide i2
            clear i2
            go_enter Tryz.func30, Tryz.ntmps30
            go_wp2_with (first | (go_at_call 57; refine (change_any _ _).mono ?_; rw [unhide HLE]; rintro e w1 ⟨rfl, rfl⟩))
            go_ret
            rw [unhide HE]
            exact ⟨rfl, (unhide HR).stop, (Below.refl _ _).setCell (p := ⟨rb, 4, none⟩) (Nat.le_refl _) _⟩
          · go_enter Tryz.func30, Tryz.ntmps30
            go_wp2
            go_ret
            rw [unhide HE]
            exact ⟨rfl, (unhide HR).stop, (Below.refl _ _).setCell (p := ⟨rb, 4, none⟩) (Nat.le_refl _) _⟩
        · have HE := hide (rstep_6 (l := l) hen h0 hch hend)
          have j0 : (l.toList == ({ data := #[69, 78, 68] } ++ q.kind : ByteArray).toList) = false := by rw [toList_eq]; exact decide_eq_false hend
          clear hen h0 hch hend
          rcases hcase.out with ⟨i1, i2⟩ | i1
          · have HLE := hide i2
            clear i2
            go_enter Tryz.func30, Tryz.ntmps30
            go_wp2_with (first
              | (go_at_call 57; refine (change_any _ _).mono ?_; rw [unhide HLE]; rintro e w1 ⟨rfl, rfl⟩)
              | (go_at_call 63; refine (read_el b rb q l _ (unhide HR) hl (unhide HSM)).mono ?_; rintro e w2 ⟨rfl, hr2, hb2⟩; have HR2 := hide hr2; have HB2 := hide hb2; clear hr2 hb2))
            go_ret
            rw [unhide HE]
            exact ⟨rfl, unhide HR2, unhide HB2⟩
          · go_enter Tryz.func30, Tryz.ntmps30
            go_wp2_with (first
              | (go_at_call 63; refine (read_el b rb q l _ (unhide HR) hl (unhide HSM)).mono ?_; rintro e w2 ⟨rfl, hr2, hb2⟩; have HR2 := hide hr2; have HB2 := hide hb2; clear hr2 hb2))
            go_ret
            rw [unhide HE]
            exact ⟨rfl, unhide HR2, unhide HB2⟩
end Go.Proofs.YtglgobmmmghdoaaGreatDoor
