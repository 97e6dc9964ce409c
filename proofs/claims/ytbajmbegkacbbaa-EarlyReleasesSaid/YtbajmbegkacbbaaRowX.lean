/-
  Rows of things while other blocks are written.
-/
import Derived.Test.YtbajmbegkacbbaaRowK
import Derived.Test.YtbajmbegkacbbaaNumO
import Derived.Laws.Tables
namespace Go.Proofs.Ytbajmbegkacbbaa
open Go.RowKit

theorem RowIn.ne {α : Type} {f : α → List Value} {b : Nat} {w : World} {A : Option Addr} {xs : List α} (h : RowIn f b w A xs) (hn : 0 < xs.length) {q off : Nat} (hA : A = some ⟨q, off, none⟩) : q ≠ b := by
  obtain ⟨g, off', hA', hgb, _⟩ := h hn
  rw [hA] at hA'
  injection hA' with hA'
  injection hA' with e1 _
  omega
/-- A row that is not block g stays as it was when block g is written. -/
theorem RowIn.apart {α : Type} {f : α → List Value} {b g : Nat} {w : World} {A : Option Addr} {xs : List α} (h : RowIn f b w A xs) (hg : ∀ q off, A = some ⟨q, off, none⟩ → q ≠ g) (cs : Array Value) : RowIn f b (w.setRow g cs) A xs := fun hn => by
  obtain ⟨q, off, hA, hb, hc⟩ := h hn
  refine ⟨q, off, hA, hb, fun j u hu => ?_⟩
  have hq := hg q off hA
  simp only [World.cell?] at hc ⊢
  rw [setRow_other w g q cs hq]
  exact hc j u hu
theorem RowIn.box {α : Type} {f : α → List Value} {b : Nat} {w : World} {A : Option Addr} {xs : List α} (h : RowIn f b w A xs) (cs : Array Value) : RowIn f b (w.setRow b cs) A xs := fun hn => by
  obtain ⟨q, off, hA, hb, hc⟩ := h hn
  refine ⟨q, off, hA, hb, fun j u hu => ?_⟩
  simp only [World.cell?] at hc ⊢
  rw [setRow_other w b q cs hb]
  exact hc j u hu
theorem RowIn.grown2 {α : Type} {f : α → List Value} {b r : Nat} {w w1 : World} {A : Option Addr} {xs : List α} (h : RowIn f b w A xs) (h' : RowIn f r w A xs) (hg : w.grownBy w1 (some r)) : RowIn f b w1 A xs := fun hn => by
  obtain ⟨g, off, hA, hgb, hc⟩ := h hn
  obtain ⟨g', off', hA', hgr, _⟩ := h' hn
  rw [hA] at hA'
  injection hA' with hA'
  injection hA' with e1 _
  exact ⟨g, off, hA, hgb, fun j u hu => hg.cell (hc j u hu) (by simp; omega)⟩
theorem RowIn.row2 {α : Type} {f : α → List Value} {b X : Nat} {w : World} {A : Option Addr} {xs : List α} (h : RowIn f b w A xs) (h' : RowIn f X w A xs) (cs : Array Value) : RowIn f b (w.setRow X cs) A xs := fun hn => RowIn.apart h (fun _ _ hA => h'.ne hn hA) cs hn
theorem RowIn.cellset {α : Type} {f : α → List Value} {b O i : Nat} {v : Value} {w : World} {A : Option Addr} {xs : List α} (h : RowIn f b w A xs) (h' : RowIn f O w A xs) : RowIn f b (w.setCell ⟨O, i, none⟩ v) A xs := fun hn => by
  obtain ⟨g, off, hA, hgb, hc⟩ := h hn
  have hq := h'.ne hn hA
  exact ⟨g, off, hA, hgb, fun j u hu => (Lib.grownBy_setB (World.grownBy.refl w (some O)) i v).cell (hc j u hu) (by simp; omega)⟩
theorem heap_reads {W W' : World} {R k : Nat} {ob : Obj} (h : W.heap[k]? = some ob) (hg : W.grownBy W' (some R)) (hk : k ≠ R) : W'.heap[k]? = some ob :=
  (hg.block _ (Array.getElem?_eq_some_iff.1 h).1 (fun e => hk (by injection e))).trans h
end Go.Proofs.Ytbajmbegkacbbaa
