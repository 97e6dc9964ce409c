/-
  Early (layer 19): stored bags in memory; the document's own sorted.
-/
import Derived.Test.YtbajmbegkacbbaaEarM
import Derived.Test.YtbajmbegkacbbaaRowK
import Derived.Test.YtbajmbegkacbbaaResK
import Derived.Test.YtbajmbegkacbbaaCpyG
import Derived.Test.YtbajmbegkacbbaaApyL
import Derived.Test.YtbajmbegkacbbaaInsK
namespace Go.Proofs.Ytbajmbegkacbbaa
open Go.RowKit

def sbC (s : Sb) : List Value := [.int .i64 s.1, .int .i64 s.2]
abbrev sbA (s : Sb) : Array Value := #[.int .i64 s.1, .int .i64 s.2]
theorem sbC_len (s : Sb) : (sbC s).length = 2 := rfl
abbrev SbIn (b : Nat) (w : World) (A : Option Addr) (l : List Sb) : Prop := RowIn sbC b w A l
theorem info_sb : (Try.prog.info? 33).map (fun i => (i.zero.map (·.cells.size), i.size, i.bytes)) = some (some 2, 2, 16) := by kernel_rfl
theorem infoSb : (Try.prog.info? 33).map (·.size) = some 2 := by kernel_rfl
theorem sb_one {l : List Sb} : ∀ u ∈ l.flatMap sbC, u.oneCell' = true := fun u hu => by
  obtain ⟨x, _, hx⟩ := List.mem_flatMap.1 hu
  simp only [sbC, List.mem_cons, List.not_mem_nil, or_false] at hx
  rcases hx with rfl | rfl <;> rfl
theorem sb_one1 {x : Sb} : ∀ u ∈ sbC x, u.oneCell' = true := fun u hx => by
  simp only [sbC, List.mem_cons, List.not_mem_nil, or_false] at hx
  rcases hx with rfl | rfl <;> rfl
theorem sb_get {b : Nat} {w : World} {A : Option Addr} {l : List Sb} (h : SbIn b w A l) {m : Nat} (hm : m < l.length) :
    ∃ g off, A = some ⟨g, off, none⟩ ∧ ∀ j u, (sbA (l.getD m (0, 0)))[j]? = some u → w.cell? ⟨g, off + m * 2 + j, none⟩ = some u := by
  obtain ⟨g, off, e, _, hc⟩ := h.at sbC_len hm ((0, 0) : Sb)
  exact ⟨g, off, e, fun j u hu => hc j u (by simpa [sbC] using hu)⟩
theorem own_openS {w : World} {B n c : Nat} {A : Option Addr} {l : List Sb} (h : w.ownsRow B 33 2 (.slice A n c) n (l.flatMap sbC)) : l.length = n ∧ ((A = none ∧ n = 0 ∧ c = 0 ∧ l = []) ∨ ∃ q, A = some ⟨q, 0, none⟩ ∧ n ≤ c ∧ c ≤ maxLen ∧ ∀ j u, (l.flatMap sbC)[j]? = some u → w.cell? ⟨q, j, none⟩ = some u) := by
  have hl : l.length = n := by have := h.1; rw [flatK_len sbC 2 sbC_len] at this; omega
  refine ⟨hl, ?_⟩
  rcases h.2 with ⟨h1, h2⟩ | ⟨g, cap, cur, hv, hb, hg, h3, h4, h5, ht⟩
  · injection h1 with e1 e2 e3
    exact .inl ⟨e1, h2, e3, List.eq_nil_of_length_eq_zero (by omega)⟩
  · injection hv with e1 e2 e3
    subst e3
    refine .inr ⟨g, e1, h3, h4, fun j u hu => ?_⟩
    rw [Lib.cell_of_heap hg, ← Array.getElem?_toList]
    rw [← ht, List.getElem?_take] at hu
    split at hu
    · exact hu
    · cases hu
end Go.Proofs.Ytbajmbegkacbbaa
