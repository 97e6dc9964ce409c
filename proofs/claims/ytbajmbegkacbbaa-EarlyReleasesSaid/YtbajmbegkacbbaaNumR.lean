/-
  Rows of numbers: a slice that reads as a list of numbers; equal lists are found equal; one of some numbers; rows that a call owns.
-/
import Derived.Test.YtbajmbegkacbbaaTelA
namespace Go.Proofs.Ytbajmbegkacbbaa
open Go.RowKit

theorem heap_set {w : World} {q i : Nat} {cs : Array Value} {t : TypeId} {fz : Nat × Nat} (h : w.heap[q]? = some (.cells cs t fz)) (v : Value) : (w.setCell ⟨q, i, none⟩ v).heap[q]? = some (.cells (cs.setIfInBounds i v) t fz) := by
  simp [World.setCell, Array.getElem?_modify, h]

theorem take_eq_step {α : Type} {l m : List α} {d : α} {k : Nat} (h : k < l.length) (h2 : k < m.length) (h0 : l.take k = m.take k) (h1 : l.getD k d = m.getD k d) : l.take (k + 1) = m.take (k + 1) := by
  rw [List.take_succ_eq_append_getElem h, List.take_succ_eq_append_getElem h2, h0]
  rw [at_k h, at_k h2] at h1
  rw [h1]
theorem ne_of_at {α : Type} {l m : List α} {d : α} {k : Nat} (h1 : l.getD k d ≠ m.getD k d) : l ≠ m := fun e => h1 (by rw [e])
/-- Some numbers, in a block that is not b. -/
def NumsIn (b : Nat) (w : World) (A : Option Addr) (l : List Int) : Prop :=
  0 < l.length → ∃ g off, A = some ⟨g, off, none⟩ ∧ g ≠ b ∧ ∀ i, i < l.length → w.cell? ⟨g, off + i, none⟩ = some (.int .i64 (l.getD i 0))
theorem NumsIn.keep {b : Nat} {w w1 : World} {A : Option Addr} {l : List Int} (h : NumsIn b w A l) (hb : Below w.heap.size w w1) : NumsIn b w1 A l := fun hn => by
  obtain ⟨g, off, hA, hg, hc⟩ := h hn
  exact ⟨g, off, hA, hg, fun i hi => kept hb (hc i hi)⟩
theorem NumsIn.grown {b : Nat} {w w1 : World} {A : Option Addr} {l : List Int} (h : NumsIn b w A l) (hg : w.grownBy w1 (some b)) : NumsIn b w1 A l := fun hn => by
  obtain ⟨g, off, hA, hgb, hc⟩ := h hn
  exact ⟨g, off, hA, hgb, fun i hi => hg.cell (hc i hi) (by simpa using hgb)⟩
theorem NumsIn.other {b b' : Nat} {w : World} {A : Option Addr} {l : List Int} (h : NumsIn b w A l) (hb : w.heap.size ≤ b') : NumsIn b' w A l := fun hn => by
  obtain ⟨g, off, hA, _, hc⟩ := h hn
  have hg := World.block_lt_of_cell? w _ (hc 0 hn)
  exact ⟨g, off, hA, by simp only [] at hg; omega, hc⟩
theorem NumsIn.nil (b : Nat) (w : World) (A : Option Addr) : NumsIn b w A [] := fun h => absurd h (Nat.lt_irrefl 0)
theorem NumsIn.later {W W' : World} {A : Option Addr} {l : List Int} (h : NumsIn W.heap.size W A l) (hb : Below W.heap.size W W') : NumsIn W'.heap.size W' A l := (h.other hb.size).keep hb
theorem heap_below {W W1 : World} {m : Nat} {o : Obj} (h : W.heap[m]? = some o) (hb : Below W.heap.size W W1) : W1.heap[m]? = some o := (hb.block _ (Array.getElem?_eq_some_iff.1 h).1).trans h
theorem heap_later {w : World} {m : Nat} {o : Obj} (h : w.heap[m]? = some o) (o' : Obj) : (w.alloc o').heap[m]? = some o :=
  (((Below.refl w.heap.size w).alloc (Nat.le_refl _) o').block _ (Array.getElem?_eq_some_iff.1 h).1).trans h
theorem own_put {w : World} {B m n c g j size : Nat} {t : TypeId} {xs : List Value} (h : w.ownsRow B t size (.slice (some ⟨g, 0, none⟩) n c) m xs) (u : Value) : (w.setCell ⟨g, j, none⟩ u).ownsRow B t size (.slice (some ⟨g, 0, none⟩) n c) m (xs.set j u) := by
  refine ⟨by rw [List.length_set]; exact h.1, ?_⟩
  rcases h.2 with ⟨h1, _⟩ | ⟨g', cap', cur, hv, hb, hg, h3, h4, h5, ht⟩
  · cases h1
  · injection hv with hA h6 h7
    have hgg : g = g' := by injection hA with hA; injection hA
    subst hgg
    refine .inr ⟨g, cap', cur.setIfInBounds j u, by rw [h6, h7], hb, heap_set hg u, h3, h4, by simpa using h5, ?_⟩
    rw [Array.toList_setIfInBounds, List.take_set, ht]
theorem own_form {w : World} {B : Nat} {e : TypeId} {size : Nat} {v : Value} {n : Nat} {xs : List Value} (h : w.ownsRow B e size v n xs) : ∃ ao cap, v = .slice ao n cap := by
  rcases h.2 with ⟨h1, rfl⟩ | ⟨g, cap, cur, h1, _⟩
  · exact ⟨_, _, h1⟩
  · exact ⟨_, _, h1⟩
theorem owns_later {w w1 : World} {base : Nat} {e : TypeId} {size : Nat} {v : Value} {n : Nat} {xs : List Value} (h : w.ownsRow base e size v n xs) (hb : Below w.heap.size w w1) : w1.ownsRow base e size v n xs :=
  h.kept (row := none) ⟨hb.os, hb.tape, hb.output, hb.size, fun k hk _ => hb.block k hk⟩ (Classical.em _)
theorem own_base {w : World} {B B' : Nat} {e : TypeId} {size : Nat} {v : Value} {n : Nat} {xs : List Value} (h : w.ownsRow B e size v n xs) (hb : B' ≤ B) : w.ownsRow B' e size v n xs := by
  refine ⟨h.1, ?_⟩
  rcases h.2 with h1 | ⟨g, cap, cur, h1, h2, h3⟩
  · exact .inl h1
  · exact .inr ⟨g, cap, cur, h1, by omega, h3⟩
theorem linfo_int : (Try.prog.info? 3).map (fun i => (i.zero, i.size, i.bytes)) = some (some (.int .i64 0), 1, 8) := by kernel_rfl
theorem lone_new (w : World) (x : Value) (t : TypeId) : ∀ j u, [x][j]? = some u → (w.alloc (.cells #[x] t)).cell? ((⟨w.heap.size, 0, none⟩ : Addr).add j) = some u := by
  intro j u hj
  match j with
  | 0 => simp at hj; subst hj; simp [go_sem, Addr.add]
  | _ + 1 => simp at hj
/-- A slice of numbers of the call's own. -/
def IntsO (xs : List Int) (w : World) (e : Ending) (w' : World) : Prop :=
  ∃ v, e = .returned v ∧ w'.ownsRow w.heap.size 3 1 v xs.length (xs.map (Value.int .i64)) ∧ Below w.heap.size w w'
set_option maxHeartbeats 2000000 in
theorem kints_any (b : Nat) (l m : List Int) (A A' : Option Addr) (c c' : Nat) (w : World) (hz : l.length ≤ 1000000000) (h : NumsIn b w A l) (h' : NumsIn b w A' m) :
    Calls Try.prog 11 #[.slice A l.length c, .slice A' m.length c'] w fun e w' => e = .returned (.bool (decide (l = m))) ∧ Below w.heap.size w w' := by
  by_cases hl : l.length = m.length
  · have z0 : ((l.length : Int) != (m.length : Int)) = false := by rw [bne_eq_false_iff_eq, hl]
    have HH := hide h
    have HH' := hide h'
    have HL := hide hl
    clear h h' hl
    go_enter Try.func11, Try.ntmps11
    go_wp2
    go_loopw [5] (fun i wr => ∃ k : Nat, k ≤ l.length ∧ i = .int .i64 k ∧ Hid (l.take k = m.take k) ∧ Below w.heap.size w wr) (fun i _ => l.length - (intOf i).toNat)
    case atStart => exact ⟨0, Nat.zero_le _, rfl, Lib.hid rfl, Below.refl _ _⟩
    case round =>
      obtain ⟨k, hk, rfl, hd, hb⟩ := hrel
      obtain ⟨wo, rfl⟩ : ∃ wo : World, wo = wr := ⟨_, rfl⟩
      have HB := Lib.hid hb
      clear hb
      by_cases hlt : k < l.length
      · have hlt2 : k < m.length := by have := unhide HL; omega
        obtain ⟨g, off, rfl, _, hc⟩ := ((unhide HH).keep HB.out) (by omega)
        obtain ⟨g', off', rfl, _, hc'⟩ := ((unhide HH').keep HB.out) (by omega)
        have c0 := hc k hlt
        have d0 := hc' k hlt2
        clear hc hc'
        have kl : (k : Int) < (l.length : Int) := by omega
        have kl2 : (k : Int) < (m.length : Int) := by omega
        have k0 : (0 : Int) ≤ (k : Int) := by omega
        have HP := hide fun h => take_eq_step (d := (0 : Int)) hlt hlt2 hd.out h
        have HN := hide fun (h : l.getD k 0 ≠ m.getD k 0) => ne_of_at h
        generalize l.getD k 0 = x at *
        generalize m.getD k 0 = y at *
        cases hxy : (x != y) with
        | false =>
          have HX := hide (show x = y by rwa [bne_eq_false_iff_eq] at hxy)
          go_wp2_with fail
          go_quiet (fail)
          go_wp2
          go_roundw
          case rel => exact ⟨k + 1, by omega, by go_num, Lib.hid (unhide HP (unhide HX)), draws HB.out _⟩
          case measure => simp [intOf]; omega
        | true =>
          have HX := hide (show x ≠ y by rwa [bne_iff_ne] at hxy)
          go_wp2_with fail
          go_quiet (fail)
          go_wp2
          go_ret
          exact ⟨ret_bool (by rw [decide_eq_false (unhide HN (unhide HX))]), draws HB.out _⟩
      · have HE := hide (show l = m by
          have := hd.out
          have := unhide HL
          rwa [List.take_of_length_le (by omega), List.take_of_length_le (by omega)] at *)
        have kl : ¬ (k : Int) < (l.length : Int) := by omega
        go_wp2
        go_ret
        exact ⟨ret_bool (by rw [decide_eq_true (unhide HE)]), HB.out⟩
  · have z0 : ((l.length : Int) != (m.length : Int)) = true := by rw [bne_iff_ne]; omega
    have hne : l ≠ m := fun e => hl (by rw [e])
    rw [decide_eq_false hne]
    clear h h' hl hne
    go_enter Try.func11, Try.ntmps11
    go_wp2
    go_ret
    exact ⟨rfl, Below.refl _ _⟩
theorem grown_set (w : World) (q i : Nat) (v : Value) : w.grownBy (w.setCell ⟨q, i, none⟩ v) (some q) :=
  ⟨rfl, rfl, rfl, by simp [World.setCell], fun k _ hne => Below.heap_setCell _ _ _ _ (fun e => hne (by have e' : k = q := e; rw [e']))⟩
theorem heap_setOther {w : World} {q i k : Nat} {o : Obj} (h : w.heap[k]? = some o) (hk : k ≠ q) (u : Value) : (w.setCell ⟨q, i, none⟩ u).heap[k]? = some o := by
  rw [RowKit.Below.heap_setCell _ _ _ _ hk]; exact h
end Go.Proofs.Ytbajmbegkacbbaa
