/-
  Lanes (layer 17): the document's own find and In.
-/
import Derived.Test.YtmmhchhekmcihaaLanK
import Derived.Test.YtmmhchhekmcihaaLanR
import Derived.Deep.CutRange
namespace Go.Proofs.Ytmmhchhekmcihaa
open Go.RowKit

theorem tw_len {α : Type} {p : α → Bool} {d : α} {l : List α} {k : Nat} (h : ∀ j, j < k → p (l.getD j d) = true) (hk : k < l.length) (hp : p (l.getD k d) = false) : (l.takeWhile p).length = k := by
  obtain ⟨h1, h2, h3⟩ := tw_spec (p := p) (d := d) (l := l)
  rcases Nat.lt_trichotomy (l.takeWhile p).length k with e | e | e
  · have := h2 (by omega); rw [h _ e] at this; cases this
  · exact e
  · have := h1 _ e; rw [hp] at this; cases this
theorem has_no {l : List Bg} {v : Int} (h : ∀ j, j < l.length → (l.getD j (0, 0)).1 ≠ v) : hasB l v = false := by
  rw [hasB, List.any_eq_false]
  intro s hs
  obtain ⟨j, hj, rfl⟩ := List.getElem_of_mem hs
  have := h j hj
  rw [← getElem_getD hj] at this
  simpa using this
theorem has_yes {l : List Bg} {v : Int} {k : Nat} (hk : k < l.length) (h : (l.getD k (0, 0)).1 = v) : hasB l v = true := has_iff.2 ⟨l[k], List.getElem_mem hk, by rw [getElem_getD hk]; exact h⟩
/-- What find gives. -/
def fndI (L : List (List Bg)) (v : Int) : Int := if findS L v < L.length then (findS L v : Nat) else -1
def fndK (L : List (List Bg)) (v : Int) : Int := if findS L v < L.length then (posB (L.getD (findS L v) []) v : Nat) else -1
theorem fnd_at {L : List (List Bg)} {v : Int} {i k : Nat} (hi : i < L.length) (h : ∀ j, j < i → hasB (L.getD j []) v = false) (hk : k < (L.getD i []).length) (hp : ∀ j, j < k → ((L.getD i []).getD j (0, 0)).1 ≠ v) (he : ((L.getD i []).getD k (0, 0)).1 = v) : fndI L v = i ∧ fndK L v = k := by
  have h1 : findS L v = i := tw_len (d := ([] : List Bg)) (fun j hj => by rw [h j hj]; rfl) hi (by rw [has_yes hk he]; rfl)
  have h2 : posB (L.getD i []) v = k := tw_len (d := ((0, 0) : Bg)) (fun j hj => by rw [beq_false_of_ne (hp j hj)]; rfl) hk (by rw [he, beq_self_eq_true]; rfl)
  unfold fndI fndK
  rw [h1, if_pos hi, if_pos hi, h2]
  exact ⟨rfl, rfl⟩
theorem fnd_no {L : List (List Bg)} {v : Int} (h : ∀ j, j < L.length → hasB (L.getD j []) v = false) : fndI L v = -1 ∧ fndK L v = -1 := by
  have h1 : ¬ findS L v < L.length := fun e => by
    have := find_spec.2 e
    rw [h _ e] at this; cases this
  exact ⟨if_neg h1, if_neg h1⟩
set_option maxHeartbeats 1000000 in
set_option maxRecDepth 100000 in
theorem rfind_any (S : Nat → Prop) (dp : Nat) (v : Int) (L : List (List Bg)) (A : Option Addr) (c : Nat) (w : World) (hv : ValL dp L) (h : StoI S w A L c) :
    Calls Try.prog 46 #[lnsV dp A L.length c, .int .i64 v] w fun e w' => e = .returned (.tuple #[.int .i64 (fndI L v), .int .i64 (fndK L v)]) ∧ Below w.heap.size w w' := by
  have b1 := below_new (Below.refl w.heap.size w) (lnsO dp A L.length c)
  have HX := hide (heap_alloc_new w (lnsO dp A L.length c))
  have HS := hide (h.below b1)
  have HB := hide b1
  have z1 : (w.alloc (lnsO dp A L.length c)).cell? ⟨w.heap.size, 1, none⟩ = some (.slice A L.length c) := by rw [Lib.cell_of_heap (heap_alloc_new w _)]; rfl
  have HV := hide hv
  have hL : L.length ≤ 20 := hv.n.2
  clear b1 h hv
  go_enter Try.func46, Try.ntmps46
  go_wp2
  obtain ⟨W, hW⟩ : ∃ W : World, w.alloc (lnsO dp A L.length c) = W := ⟨_, rfl⟩
  rw [hW] at HX HS HB z1 ⊢
  clear hW
  go_loop [6] (fun s => ∃ i : Nat, i ≤ L.length ∧ s = .int .i64 i ∧ Hid (∀ j, j < i → hasB (L.getD j []) v = false)) (fun s => L.length - (intOf s).toNat)
  case atStart => exact ⟨0, Nat.zero_le _, rfl, hide fun j hj => absurd hj (Nat.not_lt_zero _)⟩
  case round =>
    obtain ⟨i, hi, rfl, HJ⟩ := hrel
    by_cases hil : i < L.length
    · have il : (i : Int) < (L.length : Int) := by omega
      have i0 : (0 : Int) ≤ (i : Int) := by omega
      obtain ⟨g, off, rfl, _, hc⟩ := (unhide HS).row (by omega)
      obtain ⟨A', c', c0, hcap, hb⟩ := hc i hil
      have HBg := hide hb
      have hll : (L.getD i []).length ≤ 20 := Nat.le_trans ((unhide HV).len _ (mem_at hil)) (unhide HV).d.2
      have HFa := hide (fun k => fnd_at (v := v) (k := k) hil (unhide HJ))
      clear hc hb
      generalize hl : L.getD i [] = l at *
      have HLl := hide hl
      clear hl
      go_wp2
      go_loop [7] (fun s => ∃ k : Nat, k ≤ l.length ∧ s = .int .i64 k ∧ Hid (∀ j, j < k → (l.getD j (0, 0)).1 ≠ v)) (fun s => l.length - (intOf s).toNat)
      case atStart => exact ⟨0, Nat.zero_le _, rfl, hide fun j hj => absurd hj (Nat.not_lt_zero _)⟩
      case round =>
        obtain ⟨k, hk, rfl, HK⟩ := hrel
        by_cases hkl : k < l.length
        · have kl : (k : Int) < (l.length : Int) := by omega
          have k0 : (0 : Int) ≤ (k : Int) := by omega
          obtain ⟨g2, off2, rfl, _, hc2⟩ := (unhide HBg) (by omega)
          have d0 := (hc2 k hkl).1
          rw [Nat.mul_comm] at d0
          have HN := hide (fun h9 j (hj : j < k + 1) => if e : j < k then (unhide HK) j e else (show (l.getD j (0, 0)).1 ≠ v from (show j = k by omega) ▸ h9))
          have HE := hide ((unhide HFa) k hkl (unhide HK))
          clear hc2
          generalize hx : (l.getD k (0, 0)).1 = x at *
          by_cases hv : x = v
          · subst hv
            have he := (unhide HE) rfl
            have q : (x == x) = true := beq_self_eq_true x
            go_wp2
            go_ret2
            exact ⟨rfl, unhide HB⟩
          · have q : (x == v) = false := beq_false_of_ne hv
            go_wp2
            go_round
            case rel => exact ⟨k + 1, by omega, by go_num, hide ((unhide HN) hv)⟩
            case measure => simp [intOf]; omega
        · have kl : ¬ (k : Int) < (l.length : Int) := by omega
          obtain rfl : k = l.length := by omega
          go_wp2
          go_round
          case rel => exact ⟨i + 1, by omega, by go_num, hide (fun j hj => if e : j < i then (unhide HJ) j e else (show j = i by omega) ▸ (unhide HLl) ▸ has_no (unhide HK))⟩
          case measure => simp [intOf]; omega
    · have il : ¬ (i : Int) < (L.length : Int) := by omega
      obtain rfl : i = L.length := by omega
      have he := fnd_no (unhide HJ)
      go_wp2
      go_ret2
      exact ⟨rfl, unhide HB⟩
theorem fndI_pos {L : List (List Bg)} {v : Int} : decide (0 ≤ fndI L v) = decide (findS L v < L.length) := by
  unfold fndI
  by_cases h : findS L v < L.length
  · rw [if_pos h, decide_eq_true h, decide_eq_true (by omega)]
  · rw [if_neg h, decide_eq_false h]; rfl
set_option maxHeartbeats 1000000 in
set_option maxRecDepth 100000 in
theorem rIn_any (S : Nat → Prop) (dp : Nat) (v : Int) (L : List (List Bg)) (A : Option Addr) (c : Nat) (w : World) (hv : ValL dp L) (h : StoI S w A L c) :
    Calls Try.prog 32 #[lnsV dp A L.length c, .int .i64 v] w fun e w' => e = .returned (.bool (decide (findS L v < L.length))) ∧ Below w.heap.size w w' := by
  have b1 := below_new (Below.refl w.heap.size w) (lnsO dp A L.length c)
  have HX := hide (heap_alloc_new w (lnsO dp A L.length c))
  have HB := hide b1
  have HC := hide (rfind_any S dp v L A c _ hv (h.below b1))
  have HP := hide (fndI_pos (L := L) (v := v))
  clear b1 h hv
  go_enter Try.func32, Try.ntmps32
  go_wp2_with (first
    | (refine wpList_loadLn (unhide HX) rfl _ rfl rfl ?_)
    | (go_at_call 46; refine (unhide HC).mono ?_; rintro e w2 ⟨rfl, hb2⟩; have HB2 := hide (onward (unhide HB) hb2); clear hb2))
  go_ret
  exact ⟨by rw [unhide HP]; rfl, unhide HB2⟩
end Go.Proofs.Ytmmhchhekmcihaa
