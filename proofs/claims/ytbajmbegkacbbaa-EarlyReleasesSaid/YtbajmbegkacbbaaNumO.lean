/-
  Rows of numbers that calls own: what they read as; two that hold the same numbers are found equal.
-/
import Derived.Test.YtbajmbegkacbbaaNumR
namespace Go.Proofs.Ytbajmbegkacbbaa
open Go.RowKit

/-- What is owned reads as its numbers. -/
theorem nums_own {base b n cap : Nat} {w : World} {A : Option Addr} {l : List Int} (h : w.ownsRow base 3 1 (.slice A n cap) n (l.map (Value.int .i64))) (hb : b < base ∨ w.heap.size ≤ b) : NumsIn b w A l := fun hn => by
  have hl : l.length = n := by have := h.1; rw [List.length_map] at this; omega
  rcases h.2 with ⟨_, h0⟩ | ⟨g, cap', cur, hv, hbg, hg, _, _, _, ht⟩
  · omega
  · injection hv with hA
    have hlt := (Array.getElem?_eq_some_iff.1 hg).1
    refine ⟨g, 0, hA, by omega, fun i hi => ?_⟩
    rw [Nat.zero_add, Lib.cell_of_heap hg, ← Array.getElem?_toList]
    have : (cur.toList.take (n * 1))[i]? = some (.int .i64 (l.getD i 0)) := by
      rw [ht, List.getElem?_map, List.getElem?_eq_getElem hi, at_k hi]; rfl
    rw [List.getElem?_take] at this
    split at this
    · exact this
    · cases this
/-- Two rows that calls own and that hold the same numbers are found equal. -/
theorem ints_same {B1 B2 n n' c c' : Nat} {A A' : Option Addr} {l l' : List Int} {w : World} (hz : l.length ≤ 1000000) (h : w.ownsRow B1 3 1 (.slice A n c) n (l.map (Value.int .i64))) (h' : w.ownsRow B2 3 1 (.slice A' n' c') n' (l'.map (Value.int .i64))) (e : l = l') :
    Calls Try.prog 11 #[.slice A n c, .slice A' n' c'] w fun e w' => e = .returned (.bool true) ∧ Below w.heap.size w w' := by
  have e1 : l.length = n := by have := h.1; rw [List.length_map] at this; omega
  have e2 : l'.length = n' := by have := h'.1; rw [List.length_map] at this; omega
  subst e1 e2
  have := kints_any w.heap.size l l' A A' c c' w (by omega) (nums_own h (.inr (Nat.le_refl _))) (nums_own h' (.inr (Nat.le_refl _)))
  rwa [decide_eq_true e] at this
theorem own_some {w : World} {base n c : Nat} {A : Option Addr} {t : TypeId} {xs : List Value} (h : w.ownsRow base t 1 (.slice A n c) n xs) (hn : 0 < n) : ∃ q, A = some ⟨q, 0, none⟩ := by
  rcases h.2 with ⟨_, h0⟩ | ⟨g, cap, cur, hv, _⟩
  · omega
  · injection hv with hA; exact ⟨g, hA⟩
end Go.Proofs.Ytbajmbegkacbbaa
