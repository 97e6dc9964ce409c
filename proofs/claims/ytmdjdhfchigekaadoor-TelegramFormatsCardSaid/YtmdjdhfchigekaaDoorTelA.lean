/-
  Telegrams in memory; contracts of the checks of telegrams, the program's (validKind, validChange, formedPart, formedElement, formed, boundedElement, bounded).
-/
import Derived.Test.YtmdjdhfchigekaaDoorTelM
namespace Go.Proofs.YtmdjdhfchigekaaDoor
open Go.RowKit

/-- Some strings, in a block that is not b. -/
def StrsIn (b : Nat) (w : World) (A : Option Addr) (ps : List ByteArray) : Prop :=
  0 < ps.length → ∃ g off, A = some ⟨g, off, none⟩ ∧ g ≠ b ∧ ∀ i, i < ps.length → w.cell? ⟨g, off + i, none⟩ = some (.string (ps.getD i ByteArray.empty))
theorem StrsIn.keep {b : Nat} {w w1 : World} {A : Option Addr} {ps : List ByteArray} (h : StrsIn b w A ps) (hb : Below w.heap.size w w1) : StrsIn b w1 A ps := fun hn => by
  obtain ⟨g, off, hA, hg, hc⟩ := h hn
  exact ⟨g, off, hA, hg, fun i hi => kept hb (hc i hi)⟩
theorem StrsIn.grown {b : Nat} {w w1 : World} {A : Option Addr} {ps : List ByteArray} (h : StrsIn b w A ps) (hg : w.grownBy w1 (some b)) : StrsIn b w1 A ps := fun hn => by
  obtain ⟨g, off, hA, hgb, hc⟩ := h hn
  exact ⟨g, off, hA, hgb, fun i hi => hg.cell (hc i hi) (by simpa using hgb)⟩

/-- One element, in the cells 2 * i and 2 * i + 1 of block g. -/
def ElAt (b : Nat) (w : World) (g off i : Nat) (e : El) : Prop :=
  w.cell? ⟨g, off + i * 2, none⟩ = some (.string e.1) ∧ ∃ A c, w.cell? ⟨g, off + i * 2 + 1, none⟩ = some (.slice A e.2.length c) ∧ StrsIn b w A e.2
theorem ElAt.keep {b : Nat} {w w1 : World} {g off i : Nat} {e : El} (h : ElAt b w g off i e) (hb : Below w.heap.size w w1) : ElAt b w1 g off i e := by
  obtain ⟨h1, A, c, h2, h3⟩ := h
  exact ⟨kept hb h1, A, c, kept hb h2, h3.keep hb⟩
theorem ElAt.grown {b : Nat} {w w1 : World} {g off i : Nat} {e : El} (h : ElAt b w g off i e) (hg : w.grownBy w1 (some b)) (hgb : g ≠ b) : ElAt b w1 g off i e := by
  obtain ⟨h1, A, c, h2, h3⟩ := h
  exact ⟨hg.cell h1 (by simpa using hgb), A, c, hg.cell h2 (by simpa using hgb), h3.grown hg⟩
/-- Some elements, in blocks that are not b. -/
def ElsIn (b : Nat) (w : World) (A : Option Addr) (es : List El) : Prop :=
  0 < es.length → ∃ g off, A = some ⟨g, off, none⟩ ∧ g ≠ b ∧ ∀ i, i < es.length → ElAt b w g off i (es.getD i el0)
theorem ElsIn.keep {b : Nat} {w w1 : World} {A : Option Addr} {es : List El} (h : ElsIn b w A es) (hb : Below w.heap.size w w1) : ElsIn b w1 A es := fun hn => by
  obtain ⟨g, off, hA, hg, hc⟩ := h hn
  exact ⟨g, off, hA, hg, fun i hi => (hc i hi).keep hb⟩
theorem ElsIn.grown {b : Nat} {w w1 : World} {A : Option Addr} {es : List El} (h : ElsIn b w A es) (hg : w.grownBy w1 (some b)) : ElsIn b w1 A es := fun hn => by
  obtain ⟨g, off, hA, hgb, hc⟩ := h hn
  exact ⟨g, off, hA, hgb, fun i hi => (hc i hi).grown hg hgb⟩

/-- Few elements with few parts. -/
def SmallE (e : El) : Prop := e.2.length ≤ 3000 ∧ e.1.size ≤ 3000 ∧ ∀ p ∈ e.2, p.size ≤ 3000
def SmallT (t : Tel) : Prop := t.els.length ≤ 3000 ∧ t.kind.size ≤ 3000 ∧ t.change.size ≤ 3000 ∧ ∀ e ∈ t.els, SmallE e
theorem SmallE.at {e : El} (h : SmallE e) {k : Nat} (hk : k < e.2.length) : (e.2.getD k ByteArray.empty).size ≤ 3000 := by
  rw [at_k hk]; exact h.2.2 _ (List.getElem_mem _)
theorem SmallT.at {t : Tel} (h : SmallT t) {k : Nat} (hk : k < t.els.length) : SmallE (t.els.getD k el0) := by
  rw [at_k hk]; exact h.2.2.2 _ (List.getElem_mem _)

theorem kind_any (s : ByteArray) (w : World) : Calls Tryd.prog 36 #[.string s] w fun e w' => e = .returned (.bool (letN s 3)) ∧ w = w' := by
  go_enter Tryd.func36, Tryd.ntmps36
  go_wp2_with (first | (go_at_call 47; refine (letters_any _ _ _ (by omega)).mono ?_; rintro e w1 ⟨rfl, rfl⟩))
  go_ret
  exact ⟨rfl, rfl⟩

theorem change_any (s : ByteArray) (w : World) : Calls Tryd.prog 37 #[.string s] w fun e w' => e = .returned (.bool (chB s)) ∧ w = w' := by
  unfold chB
  cases h1 : (s.toList == [67, 72, 71]) <;> cases h2 : (s.toList == [68, 69, 76])
  all_goals (go_enter Tryd.func37, Tryd.ntmps37; go_wp2; go_ret; exact ⟨rfl, rfl⟩)

theorem pc_of (c : Int) : isPc c = (isLe c || (isD c || (!(c != 32) || (!(c != 45) || !(c != 43))))) := by
  unfold isPc
  have e : ∀ x : Int, decide (c = x) = !(c != x) := fun x => by
    by_cases h : c = x <;> simp [h]
  rw [e, e, e]

set_option maxHeartbeats 1000000 in
theorem part_any (s : ByteArray) (w : World) (hs : s.size ≤ 3000) : Calls Tryd.prog 48 #[.string s] w fun e w' => e = .returned (.bool (pcB s)) ∧ w = w' := by
  go_enter Tryd.func48, Tryd.ntmps48
  go_wp2
  go_loop [7] (fun i => ∃ k : Nat, k ≤ s.size ∧ i = .int .i64 k ∧ Hid ((s.data.toList.take k).all pcU = true)) (fun i => s.size - (intOf i).toNat)
  case atStart => exact ⟨0, Nat.zero_le _, rfl, Lib.hid rfl⟩
  case round =>
    obtain ⟨k, hk, rfl, hd⟩ := hrel
    by_cases hlt : k < s.size
    · cases hl : isLe (s[k].toNat : Int) <;> cases hd2 : isD (s[k].toNat : Int) <;> cases h1 : ((s[k].toNat : Int) != 32) <;> cases h2 : ((s[k].toNat : Int) != 45) <;> cases h3 : ((s[k].toNat : Int) != 43)
      all_goals
        have hv := Lib.hid (pc_of (s[k].toNat : Int))
        go_wp2_with (first | (go_at_call 52; refine (letter_any _ _).mono ?_; rintro e w1 ⟨rfl, rfl⟩) | (go_at_call 53; refine (digit_any _ _).mono ?_; rintro e w1 ⟨rfl, rfl⟩))
        replace hv := hv.out
        rw [hl, hd2, h1, h2, h3] at hv
        first
          | (go_ret; exact ⟨ret_bool (pc_no hlt hv).symm, rfl⟩)
          | (go_round
             case rel => exact ⟨k + 1, by omega, by go_num, Lib.hid (pc_step hlt hd.out hv)⟩
             case measure => simp [intOf]; omega)
    · go_wp2
      go_ret
      exact ⟨ret_bool (pc_all (by omega) hd.out).symm, rfl⟩

theorem fel_of (key : ByteArray) (ps : List ByteArray) {a b : Bool} (ha : letN key 1 = a) (hb : ps.all pcB = b) : felB (key, ps) = (a && (!(ps.length == 0) && b)) := by
  unfold felB; rw [ha, hb]

set_option maxHeartbeats 1000000 in
theorem fel_any (b : Nat) (key : ByteArray) (ps : List ByteArray) (A : Option Addr) (c : Nat) (w : World) (hS : SmallE (key, ps)) (h : StrsIn b w A ps) :
    Calls Tryd.prog 38 #[.agg #[.string key, .slice A ps.length c]] w fun e w' => e = .returned (.bool (felB (key, ps))) ∧ Below w.heap.size w w' := by
  have hz : ps.length ≤ 3000 := hS.1
  have HS := hide hS
  have HI := hide h
  clear hS h
  have B0 := Lib.hid ((Below.refl w.heap.size w).alloc (Nat.le_refl _) (.cells #[.string key, .slice A ps.length c] 34))
  have HI1 := hide ((unhide HI).keep ((Below.refl w.heap.size w).alloc (Nat.le_refl _) (.cells #[.string key, .slice A ps.length c] 34)))
  cases hk : letN key 1 with
  | false =>
    go_enter Tryd.func38, Tryd.ntmps38
    go_wp2_with (first | (go_at_call 47; refine (letters_any _ _ _ (by omega)).mono ?_; rintro e w1 ⟨rfl, rfl⟩))
    go_ret
    exact ⟨ret_bool (by unfold felB; rw [hk]; rfl), B0.out⟩
  | true =>
    by_cases h0 : ps.length = 0
    · have z0 : ((ps.length : Int) == 0) = true := by rw [h0]; rfl
      have hv : felB (key, ps) = false := by unfold felB; rw [hk]; simp [h0]
      rw [hv]
      clear hv HS HI HI1
      rw [h0] at B0 ⊢
      go_enter Tryd.func38, Tryd.ntmps38
      go_wp2_with (first | (go_at_call 47; refine (letters_any _ _ _ (by omega)).mono ?_; rintro e w1 ⟨rfl, rfl⟩))
      go_ret
      exact ⟨rfl, B0.out⟩
    · have z0 : ((ps.length : Int) == 0) = false := by rw [beq_eq_false_iff_ne]; omega
      have zn : (ps.length == 0) = false := by rw [beq_eq_false_iff_ne]; omega
      have hv : felB (key, ps) = ps.all pcB := by unfold felB; rw [hk, zn]; rfl
      have HV := hide hv
      have HN := hide h0
      clear hv zn h0
      go_enter Tryd.func38, Tryd.ntmps38
      go_wp2_with (first | (go_at_call 47; refine (letters_any _ _ _ (by omega)).mono ?_; rintro e w1 ⟨rfl, rfl⟩))
      obtain ⟨g, off, rfl, hg, hc⟩ := (unhide HI1) (by have := unhide HN; omega)
      have HC := hide hc
      clear hc
      go_loop [4, 18] (fun x i => ∃ k : Nat, k ≤ ps.length ∧ i = .int .i64 k ∧ Hid ((ps.take k).all pcB = true)) (fun _ i => ps.length - (intOf i).toNat)
      case atStart => exact ⟨0, Nat.zero_le _, rfl, Lib.hid rfl⟩
      case round =>
        obtain ⟨k, hk2, rfl, hd⟩ := hrel
        by_cases hlt : k < ps.length
        · have q := unhide HC k hlt
          have sz := (unhide HS).at hlt
          have kl : (k : Int) < (ps.length : Int) := by omega
          have Hp := fun h => all_step (d := ByteArray.empty) hlt hd.out h
          have Hn := fun h => all_no (p := pcB) (d := ByteArray.empty) hlt h
          have HP := hide Hp
          have HQ := hide Hn
          clear Hp Hn
          simp only [] at sz
          generalize ps.getD k ByteArray.empty = p at *
          cases hp : pcB p with
          | true =>
            go_wp2_with (first | (go_at_call 48; refine (part_any _ _ sz).mono ?_; rintro e w1 ⟨rfl, rfl⟩))
            go_round
            case rel => exact ⟨k + 1, by omega, by go_num, Lib.hid (unhide HP hp)⟩
            case measure => simp [intOf]; omega
          | false =>
            go_wp2_with (first | (go_at_call 48; refine (part_any _ _ sz).mono ?_; rintro e w1 ⟨rfl, rfl⟩))
            go_ret
            exact ⟨ret_bool (by rw [unhide HV, unhide HQ hp]), B0.out⟩
        · go_wp2
          go_ret
          exact ⟨ret_bool (by rw [unhide HV, all_all (by omega) hd.out]), B0.out⟩
end Go.Proofs.YtmdjdhfchigekaaDoor
