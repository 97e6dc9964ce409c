/-
  LayoutZones: the walk.
-/
import Derived.Test.YtfddpdognelhmaaGreatDoorLayGf
import Derived.Test.YtfddpdognelhmaaGreatDoorLayAw
namespace Go.Proofs.YtfddpdognelhmaaGreatDoor
open Go.RowKit

theorem lints_later {w w' : World} {A : Option Addr} {n : Nat} (h : IntsIn w.heap.size w A n) (hb : Below w.heap.size w w') : IntsIn w'.heap.size w' A n := fun hn => by
  obtain ⟨g, off, hA, hg, hx⟩ := h hn
  have := hb.size
  refine ⟨g, off, hA, by omega, fun i hi => ?_⟩
  obtain ⟨x, hx⟩ := hx i hi
  exact ⟨x, kept hb hx⟩
theorem GenL.few {z : GSz} {x : Lay} (h : GenL z x) {i : Nat} (hi : i < z.n) : (x.nodes.getD i nd0).exits.length ≤ 2 := by
  have u := (h.u hi).ex
  unfold exOk at u
  rw [Bool.and_eq_true, decide_eq_true_eq] at u
  have := exN_le (x.nodes.getD i nd0).kind
  omega
theorem GenL.n11 {z : GSz} {x : Lay} (h : GenL z x) : z.n ≤ 11 := by have := z.eq; have := h.ok.a2; have := h.ok.b2; have := h.ok.c2; omega
theorem GenL.lay {z : GSz} {x : Lay} (h : GenL z x) {b : Nat} {w : World} {A D : Option Addr} (hN : NdsIn b w A x.nodes) (hD : DvsIn b w D x.devs) : LayIn b w x A D :=
  ⟨hN, hD, fun y hy => by
    obtain ⟨i, hi, rfl⟩ := List.getElem_of_mem hy
    have := h.few (i := i) (by rw [← h.len]; exact hi)
    rw [at_k hi] at this
    omega, by have := h.n11; have := h.len; omega, by have := h.dv.few; omega⟩
/-- Where a bag stands that came from the Entry: after i steps, behind a Gate's exit 1 or not. -/
structure ZoP (z : GSz) (i p : Nat) (b : Bool) : Prop where
  lt : p < z.n
  zone : zoG z p = if b = true then 1 else 0
  late : 30 ≤ i → i ≤ p + 30
theorem ZoP.start {z : GSz} {x : Lay} (_h : GenL z x) : ZoP z 0 0 false := ⟨by have := z.eq; omega, by unfold zoG; rw [if_pos (.inl (Nat.zero_le _))]; rfl, fun h => by omega⟩
theorem zo_step {z : GSz} {x : Lay} (h : GenL z x) {i p k : Nat} {b b' : Bool} (hP : ZoP z i p b) (hk : k < (x.nodes.getD p nd0).exits.length)
    (hl : (x.nodes.getD p nd0).kind = 5 → 30 ≤ i → k = 1) (hb : b' = (b || (decide ((x.nodes.getD p nd0).kind = 6) && decide (k = 1)))) :
    ∃ p' : Nat, (x.nodes.getD p nd0).exits.getD k 0 = (p' : Int) ∧ ZoP z (i + 1) p' b' := by
  have u := h.u hP.lt
  obtain ⟨b1, b2, b3, b4⟩ := u.beh k hk
  obtain ⟨p', hp'⟩ := Int.eq_ofNat_of_zero_le b1
  refine ⟨p', hp', by omega, ?_, fun hi => ?_⟩
  · rw [hp', Int.toNat_natCast] at b4
    rw [b4]
    unfold zBeh
    by_cases h6 : (x.nodes.getD p nd0).kind = 6 ∧ (k : Int) = 1
    · rw [if_pos h6, hb, decide_eq_true h6.1, decide_eq_true (show k = 1 by omega)]
      simp
    · rw [if_neg h6, u.zone, hP.zone]
      have : (decide ((x.nodes.getD p nd0).kind = 6) && decide (k = 1)) = false := by
        rw [Bool.and_eq_false_iff]
        by_cases e : (x.nodes.getD p nd0).kind = 6
        · exact .inr (decide_eq_false fun e2 => h6 ⟨e, by omega⟩)
        · exact .inl (decide_eq_false e)
      rw [this, Bool.or_false] at hb
      rw [hb]
  · by_cases h30 : 30 ≤ i
    · have h1 := hP.late h30
      have hmem : (p' : Int) ∈ (x.nodes.getD p nd0).exits := by rw [← hp', at_k hk]; exact List.getElem_mem _
      have : p < p' := by
        by_cases e : (p' : Int) = (p : Int)
        · exfalso
          have h5 := u.own _ hmem e
          obtain ⟨t, ht, hlt⟩ := u.loop h5
          have := hl h5 h30
          subst this
          rw [ht] at hp'
          have : t = (p' : Int) := hp'
          omega
        · have := u.up _ hmem e
          omega
      omega
    · omega
/-- What the walk keeps. -/
structure ZoS (w : World) (q s : Nat) (x : Lay) (A : Option Addr) (c : Nat) (D : Option Addr) (d : Nat) (wr : World) : Prop where
  bel : Below w.heap.size w wr
  box : wr.heap[q]? = some (lO x A c D d)
  nds : NdsIn s wr A x.nodes
  src : Src s s wr
  wq : w.heap.size ≤ q
  qs : q < s
theorem ZoS.below {w : World} {q s : Nat} {x : Lay} {A : Option Addr} {c : Nat} {D : Option Addr} {d : Nat} {wr w1 : World} (h : ZoS w q s x A c D d wr) (hb : Below wr.heap.size wr w1) : ZoS w q s x A c D d w1 :=
  ⟨onward h.bel hb, heap_below h.box hb, h.nds.keep hb, h.src.keep hb, h.wq, h.qs⟩
theorem ZoS.read {w : World} {q s : Nat} {x : Lay} {A : Option Addr} {c : Nat} {D : Option Addr} {d : Nat} {wr w1 : World} (h : ZoS w q s x A c D d wr) (hs : Src s s w1) (hg : wr.grownBy w1 (some s)) : ZoS w q s x A c D d w1 :=
  ⟨below_reads h.bel hg (by have := h.wq; have := h.qs; omega) h.bel.size, (hg.block q (Array.getElem?_eq_some_iff.1 h.box).1 (by have := h.qs; simp; omega)).trans h.box, h.nds.grown hg, hs, h.wq, h.qs⟩

end Go.Proofs.YtfddpdognelhmaaGreatDoor
