/-
  Receive of an inbox that knows one sender or none: the five verdicts in one contract; and the mathematics of a sender's numbered messages.
-/
import Derived.Test.YtcjdjdganaokfaaDoorInbO
namespace Go.Proofs.YtcjdjdganaokfaaDoor
open Go.RowKit

theorem numM_lt {t : Int} {m : Msg} : numM t m < 0 ↔ m.num < t := by unfold numM Lib.compareInt; split <;> (try split) <;> omega
theorem numM_zero {t : Int} {m : Msg} : numM t m = 0 ↔ m.num = t := by unfold numM Lib.compareInt; split <;> (try split) <;> omega
theorem getD_map' {α β : Type} (f : α → β) (l : List α) (i : Nat) (d : α) : (l.map f).getD i (f d) = f (l.getD i d) := by
  rw [List.getD_eq_getElem?_getD, List.getD_eq_getElem?_getD, List.getElem?_map]
  cases l[i]? <;> rfl
theorem mono_map {α β : Type} (f : β → Int) (g : α → β) (l : List α) (d : α) (h : MonoF f (l.map g) (g d)) : MonoF (fun x => f (g x)) l d := fun a b hab hb hn => by
  have := h a b hab (by rwa [List.length_map])
  rw [getD_map' g, getD_map' g] at this
  exact this hn
/-- Ascending numbers. -/
def Asc (l : List Msg) : Prop := l.Pairwise fun a b => a.num < b.num
theorem Asc.mono {l : List Msg} (h : Asc l) (t : Int) (d : Msg) : MonoF (numM t) l d := fun a b hab hb hn => by
  rcases Nat.eq_or_lt_of_le hab with rfl | hlt
  · exact hn
  · rw [at_k hb] at hn
    rw [at_k (by omega)]
    have := List.pairwise_iff_getElem.1 h a b (by omega) hb hlt
    rw [numM_lt] at hn ⊢
    omega
/-- The verdict on a message, of a sender's model. -/
def vrdM (s : Snd) (win : Int) (m : Msg) : Int :=
  if m.num < s.next then 3 else if s.next + win ≤ m.num then 4 else
  if hasF (numM m.num) s.held then (if sameM (s.held.getD (lbF (numM m.num) s.held) msg0) m then 3 else 5) else if s.next < m.num then 2 else 1
theorem decR_mod (s : SnS) (win : Int) (m : Msg) : decR s win m = vrdM s.mod win m := by
  unfold decR vrdM
  rw [numC_has, numC_lb]
  have := getD_map' (fun x : MsS => x.m) s.held (lbF (numM m.num) (s.held.map (·.m))) ms0
  rw [← this]
  rfl
theorem vrdM_five (s : Snd) (win : Int) (m : Msg) : vrdM s win m = 1 ∨ vrdM s win m = 2 ∨ vrdM s win m = 3 ∨ vrdM s win m = 4 ∨ vrdM s win m = 5 := by
  unfold vrdM
  split
  · simp
  · split
    · simp
    · split
      · split <;> simp
      · split <;> simp
/-- The senders of an inbox that knows one or none; that sender; what becomes of it; what is released. -/
def oneL (s : Option Snd) : List Snd := s.toList
def curS (p : ByteArray) (s : Option Snd) : Snd := s.getD (snd0 p)
def nxtS (p : ByteArray) (s : Option Snd) (win : Int) (m : Msg) : Option Snd := if vrdM (curS p s) win m = 1 ∨ vrdM (curS p s) win m = 2 then some (rcvS (curS p s) m) else s
def outS (p : ByteArray) (s : Option Snd) (win : Int) (m : Msg) : List Msg := if vrdM (curS p s) win m = 1 ∨ vrdM (curS p s) win m = 2 then rcvO (curS p s) m else []
structure One (p : ByteArray) (s : Option Snd) : Prop where
  port : (curS p s).port = p
  few : ∀ m ∈ (curS p s).held, m.onw.length ≤ 1000 ∧ m.lst.length ≤ 1000
  len : (curS p s).held.length ≤ 100
  asc : Asc (curS p s).held
  n1 : 1 ≤ (curS p s).next
  n2 : (curS p s).next ≤ 1000
  self : Lib.compareBytes p.data.toList p.data.toList = 0
theorem lb_one {p : ByteArray} {t : SnS} (hp : t.port = p) (hs : Lib.compareBytes p.data.toList p.data.toList = 0) : lbF (portC p) [t] = 0 ∧ hasF (portC p) [t] = true := by
  have e : portC p t = 0 := by unfold portC; rw [hp]; exact hs
  have hl : lbF (portC p) [t] = 0 := by unfold lbF; rw [List.takeWhile_cons_of_neg (by rw [e]; decide)]; rfl
  refine ⟨hl, ?_⟩
  unfold hasF
  rw [hl]
  show decide (portC p t = 0) = true
  rw [e]; rfl
theorem fewM_mod {t : SnS} {s : Snd} (ht : t.mod = s) (hf : ∀ m ∈ s.held, m.onw.length ≤ 1000 ∧ m.lst.length ≤ 1000) (hl : s.held.length ≤ 100) : FewM t.held ∧ t.held.length ≤ 100 := by
  have h3 : t.held.map (·.m) = s.held := congrArg Snd.held ht
  have h4 : t.held.length = s.held.length := by have := congrArg List.length h3; simpa using this
  exact ⟨⟨by omega, fun y hy => hf y.m (by rw [← h3]; exact List.mem_map.2 ⟨y, hy, rfl⟩)⟩, by omega⟩
theorem ibx_one {b : Nat} {w : World} {win : Int} {A : Option Addr} {t : SnS} {s : Snd} {p : ByteArray} (h : SndsIn b w A [t]) (ht : t.mod = s) (h1 : One p (some s)) (m : Msg) (hw0 : 0 ≤ win) (hw1 : win ≤ 1000) : Ibx b w win A [t] m := by
  have h2 : t.next = s.next := congrArg Snd.next ht
  have h3 : t.held.map (·.m) = s.held := congrArg Snd.held ht
  refine ⟨h, by simp, fun u hu => ?_, mono_one _ _ _, fun u hu => ?_, fun u hu => ?_, hw0, hw1⟩
  · rw [List.mem_singleton.1 hu]; exact fewM_mod ht h1.few h1.len
  · rw [List.mem_singleton.1 hu]
    refine mono_map (numM m.num) (fun x : MsS => x.m) t.held ms0 ?_
    rw [h3]; exact h1.asc.mono _ _
  · rw [List.mem_singleton.1 hu, h2]
    have := h1.n1; have := h1.n2
    simp only [curS, Option.getD_some] at *
    omega

theorem rcv_one (b : Nat) (win : Int) (A : Option Addr) (c : Nat) (ss : List SnS) (p : ByteArray) (s : Option Snd) (x : MsS) (w : World) (h : SndsIn b w A ss) (hs : ss.map SnS.mod = oneL s) (h1 : One p s) (hK : Keys w) (hb : b < w.heap.size) (hx : x.Lies b w)
    (hpx : x.m.port = p) (hn : 1 ≤ x.m.num) (hv : valE x.m = 0) (hz1 : x.m.onw.length ≤ 1000) (hz2 : x.m.lst.length ≤ 1000) (hw0 : 0 ≤ win) (hw1 : win ≤ 1000) :
    Calls Tryd.prog 18 #[ibV win A ss.length c, x.v] w fun e w' => ∃ (A' : Option Addr) (c' : Nat) (ss' : List SnS) (Ao : Option Addr) (co : Nat) (out : List MsS),
      e = .returned (.tuple #[ibV win A' ss'.length c', .slice Ao out.length co, .int .i64 (vrdM (curS p s) win x.m), .int .i64 0]) ∧ ss'.map SnS.mod = oneL (nxtS p s win x.m) ∧ out.map (·.m) = outS p s win x.m ∧ (∀ b', b' < w.heap.size → SndsIn b' w' A' ss') ∧ (∀ b', b' < w.heap.size → MsgsIn b' w' Ao out) ∧ Below w.heap.size w w' := by
  cases s with
  | none =>
    have hss : ss = [] := by simpa [oneL] using hs
    subst hss
    have hI : Ibx b w win A [] x.m := ibx_nil b w win A x.m hw0 hw1
    have hd : decR (sns0 x.m.port) win x.m = vrdM (curS p none) win x.m := by rw [decR_mod, hpx]; rfl
    have hm : (sns0 x.m.port).mod = curS p none := by rw [hpx]; rfl
    have h3 : vrdM (curS p none) win x.m ≠ 3 ∧ vrdM (curS p none) win x.m ≠ 5 := by
      unfold vrdM
      have e1 : ¬ x.m.num < (curS p none).next := by show ¬ x.m.num < 1; omega
      have e2 : hasF (numM x.m.num) (curS p none).held = false := rfl
      rw [if_neg e1, e2]
      split
      · exact ⟨by decide, by decide⟩
      · rw [if_neg Bool.false_ne_true]
        split <;> exact ⟨by decide, by decide⟩
    rcases vrdM_five (curS p none) win x.m with d | d | d | d | d
    · refine (rcv_new1 b win A c [] x w hI hK hb hx hv hz1 hz2 rfl (hd.trans d) (by decide)).mono ?_
      rintro e w' ⟨A', c', ss', Ao, co, out, rfl, e1, e2, e3, e4, e5⟩
      refine ⟨A', c', ss', Ao, co, out, by rw [d], ?_, ?_, e3, e4, e5⟩
      · rw [e1, hm]; unfold nxtS; rw [if_pos (Or.inl d)]; rfl
      · rw [e2, hm]; unfold outS; rw [if_pos (Or.inl d)]
    · refine (rcv_new2 b win A c [] x w hI hK hb hx hv hz1 hz2 rfl (hd.trans d) (by decide)).mono ?_
      rintro e w' ⟨A', c', ss', Ao, co, out, rfl, e1, e2, e3, e4, e5⟩
      refine ⟨A', c', ss', Ao, co, out, by rw [d], ?_, ?_, e3, e4, e5⟩
      · rw [e1, hm]; unfold nxtS; rw [if_pos (Or.inr d)]; rfl
      · rw [e2, hm]; unfold outS; rw [if_pos (Or.inr d)]
    · exact absurd d h3.1
    · refine (kp_new4 b win A c [] x w hI hK hb hx hv hz1 hz2 rfl (hd.trans d)).mono ?_
      rintro e w' ⟨A', c', ss', rfl, e1, e3, e5⟩
      refine ⟨A', c', ss', none, 0, [], by rw [d]; rfl, ?_, ?_, e3, fun _ _ => MsgsIn.nil _ _ _, e5⟩
      · rw [e1]; unfold nxtS; rw [if_neg (by rw [d]; decide)]; rfl
      · unfold outS; rw [if_neg (by rw [d]; decide)]; rfl
    · exact absurd d h3.2
  | some s0 =>
    obtain ⟨t, rfl, ht⟩ := mod_one (show ss.map SnS.mod = [s0] from hs)
    have hI : Ibx b w win A [t] x.m := ibx_one h ht h1 x.m hw0 hw1
    have hpt : t.port = p := (congrArg Snd.port ht).trans h1.port
    obtain ⟨hl, hh⟩ := lb_one hpt h1.self
    have hh' : hasF (portC x.m.port) [t] = true := by rw [hpx]; exact hh
    have e0 : ([t] : List SnS).getD (lbF (portC x.m.port) [t]) sn0 = t := by rw [hpx, hl]; rfl
    have hd : decR (([t] : List SnS).getD (lbF (portC x.m.port) [t]) sn0) win x.m = vrdM (curS p (some s0)) win x.m := by rw [e0, decR_mod, ht]; rfl
    have hset : ∀ y : Snd, ([t].map SnS.mod).set (lbF (portM x.m.port) ([t].map SnS.mod)) y = [y] := fun y => by rw [← portC_lb, hpx, hl]; rfl
    rcases vrdM_five (curS p (some s0)) win x.m with d | d | d | d | d
    · refine (rcv_old1 b win A c [t] x w hI hK hb hx hv hz1 hz2 hh' (hd.trans d)).mono ?_
      rintro e w' ⟨A', c', ss', Ao, co, out, rfl, e1, e2, e3, e4, e5⟩
      refine ⟨A', c', ss', Ao, co, out, by rw [d], ?_, ?_, e3, e4, e5⟩
      · rw [e1, hset, e0, ht]; unfold nxtS; rw [if_pos (Or.inl d)]; rfl
      · rw [e2, e0, ht]; unfold outS; rw [if_pos (Or.inl d)]; rfl
    · refine (rcv_old2 b win A c [t] x w hI hK hb hx hv hz1 hz2 hh' (hd.trans d)).mono ?_
      rintro e w' ⟨A', c', ss', Ao, co, out, rfl, e1, e2, e3, e4, e5⟩
      refine ⟨A', c', ss', Ao, co, out, by rw [d], ?_, ?_, e3, e4, e5⟩
      · rw [e1, hset, e0, ht]; unfold nxtS; rw [if_pos (Or.inr d)]; rfl
      · rw [e2, e0, ht]; unfold outS; rw [if_pos (Or.inr d)]; rfl
    all_goals have hnn : nxtS p (some s0) win x.m = some s0 ∧ outS p (some s0) win x.m = [] := by unfold nxtS outS; rw [if_neg (by rw [d]; decide), if_neg (by rw [d]; decide)]; exact ⟨rfl, rfl⟩
    · refine (kp_old3 b win A c [t] x w hI hK hb hx hv hz1 hz2 hh' (hd.trans d)).mono ?_
      rintro e w' ⟨A', c', ss', rfl, e1, e3, e5⟩
      exact ⟨A', c', ss', none, 0, [], by rw [d]; rfl, by rw [e1, hnn.1]; exact hs, by rw [hnn.2]; rfl, e3, fun _ _ => MsgsIn.nil _ _ _, e5⟩
    · refine (kp_old4 b win A c [t] x w hI hK hb hx hv hz1 hz2 hh' (hd.trans d)).mono ?_
      rintro e w' ⟨A', c', ss', rfl, e1, e3, e5⟩
      exact ⟨A', c', ss', none, 0, [], by rw [d]; rfl, by rw [e1, hnn.1]; exact hs, by rw [hnn.2]; rfl, e3, fun _ _ => MsgsIn.nil _ _ _, e5⟩
    · refine (kp_old5 b win A c [t] x w hI hK hb hx hv hz1 hz2 hh' (hd.trans d)).mono ?_
      rintro e w' ⟨A', c', ss', rfl, e1, e3, e5⟩
      exact ⟨A', c', ss', none, 0, [], by rw [d]; rfl, by rw [e1, hnn.1]; exact hs, by rw [hnn.2]; rfl, e3, fun _ _ => MsgsIn.nil _ _ _, e5⟩

/-! The messages of a sender with the numbers of a set, from a number on. -/
def lst (p : ByteArray) (D : Nat → Bool) : Nat → Nat → List Msg
  | _, 0 => []
  | lo, c + 1 => (if D lo then [nbd p (lo : Int)] else []) ++ lst p D (lo + 1) c
theorem lst_mem {p : ByteArray} {D : Nat → Bool} : ∀ (c lo : Nat) {m : Msg}, m ∈ lst p D lo c → ∃ i, lo ≤ i ∧ i < lo + c ∧ D i = true ∧ m = nbd p (i : Int)
  | 0, _, _, h => by cases h
  | c + 1, lo, m, h => by
    unfold lst at h
    rcases List.mem_append.1 h with h | h
    · split at h
      · rename_i hd
        exact ⟨lo, Nat.le_refl _, by omega, hd, List.mem_singleton.1 h⟩
      · cases h
    · obtain ⟨i, h1, h2, h3, h4⟩ := lst_mem c (lo + 1) h
      exact ⟨i, by omega, by omega, h3, h4⟩
theorem nbd_num (p : ByteArray) (n : Int) : (nbd p n).num = n := rfl
theorem lst_gt {p : ByteArray} {D : Nat → Bool} {c lo : Nat} {m : Msg} (h : m ∈ lst p D lo c) : (lo : Int) ≤ m.num ∧ m.num < (lo : Int) + (c : Int) := by
  obtain ⟨i, h1, h2, _, rfl⟩ := lst_mem c lo h
  rw [nbd_num]; omega
theorem lst_asc (p : ByteArray) (D : Nat → Bool) : ∀ (c lo : Nat), Asc (lst p D lo c)
  | 0, _ => List.Pairwise.nil
  | c + 1, lo => by
    unfold lst Asc
    rw [List.pairwise_append]
    refine ⟨by split <;> simp, lst_asc p D c (lo + 1), fun a ha b hb => ?_⟩
    split at ha
    · rw [List.mem_singleton.1 ha, nbd_num]
      have := (lst_gt hb).1
      omega
    · cases ha
theorem lst_len (p : ByteArray) (D : Nat → Bool) : ∀ (c lo : Nat), (lst p D lo c).length ≤ c
  | 0, _ => Nat.le_refl _
  | c + 1, lo => by
    have := lst_len p D c (lo + 1)
    unfold lst
    split <;> simp <;> omega
theorem lst_congr {p : ByteArray} {D E : Nat → Bool} : ∀ (c lo : Nat), (∀ i, lo ≤ i → i < lo + c → D i = E i) → lst p D lo c = lst p E lo c
  | 0, _, _ => rfl
  | c + 1, lo, h => by
    unfold lst
    rw [h lo (Nat.le_refl _) (by omega), lst_congr c (lo + 1) (fun i h1 h2 => h i (by omega) (by omega))]
/-- A set with one more number. -/
def addD (D : Nat → Bool) (k : Nat) : Nat → Bool := fun i => D i || decide (i = k)
theorem lb_pos {f : Msg → Int} {l : List Msg} (h : ∀ m ∈ l, 0 ≤ f m) : lbF f l = 0 := by
  cases l with
  | nil => rfl
  | cons x r =>
    unfold lbF
    rw [List.takeWhile_cons_of_neg (by have := h x (by simp); simp; omega)]
    rfl
theorem lb_cons {f : Msg → Int} {x : Msg} {l : List Msg} (h : f x < 0) : lbF f (x :: l) = lbF f l + 1 := by
  unfold lbF
  rw [List.takeWhile_cons_of_pos (by simp; omega)]
  rfl
theorem lst_ins {p : ByteArray} {D : Nat → Bool} {k : Nat} (hD : D k = false) : ∀ (c lo : Nat), lo ≤ k → k < lo + c → insL (lst p D lo c) (lbF (numM (k : Int)) (lst p D lo c)) (nbd p (k : Int)) = lst p (addD D k) lo c
  | 0, lo, h1, h2 => by omega
  | c + 1, lo, h1, h2 => by
    unfold lst
    rcases Nat.eq_or_lt_of_le h1 with e | hlt
    · subst e
      have hk : addD D lo lo = true := by unfold addD; simp
      have hc : lst p D (lo + 1) c = lst p (addD D lo) (lo + 1) c := lst_congr c (lo + 1) (fun i hi _ => by unfold addD; rw [decide_eq_false (by omega), Bool.or_false])
      rw [hD, hk, if_neg Bool.false_ne_true, if_pos rfl, List.nil_append, lb_pos, hc]
      · rfl
      · intro m hm
        have := (lst_gt hm).1
        have h3 : ¬ numM (lo : Int) m < 0 := by rw [numM_lt]; omega
        omega
    · have hk : addD D k lo = D lo := by unfold addD; rw [decide_eq_false (by omega), Bool.or_false]
      rw [hk]
      have ih := lst_ins (p := p) hD c (lo + 1) hlt (by omega)
      cases D lo with
      | false => rw [if_neg Bool.false_ne_true]; exact ih
      | true =>
        rw [if_pos rfl, List.singleton_append, List.singleton_append, lb_cons (by rw [numM_lt, nbd_num]; omega)]
        rw [← ih]
        rfl
theorem lst_has {p : ByteArray} {D : Nat → Bool} {k : Nat} : ∀ (c lo : Nat), lo ≤ k → k < lo + c → hasF (numM (k : Int)) (lst p D lo c) = D k ∧ (D k = true → (lst p D lo c).getD (lbF (numM (k : Int)) (lst p D lo c)) msg0 = nbd p (k : Int))
  | 0, lo, h1, h2 => by omega
  | c + 1, lo, h1, h2 => by
    unfold lst
    rcases Nat.eq_or_lt_of_le h1 with e | hlt
    · subst e
      have hge : ∀ m ∈ (if D lo then [nbd p (lo : Int)] else []) ++ lst p D (lo + 1) c, 0 ≤ numM (lo : Int) m := fun m hm => by
        have := (lst_gt (show m ∈ lst p D lo (c + 1) from hm)).1
        have h3 : ¬ numM (lo : Int) m < 0 := by rw [numM_lt]; omega
        omega
      have h0 := lb_pos hge
      cases hd : D lo with
      | true =>
        rw [hd] at h0
        rw [h0]
        refine ⟨?_, fun _ => rfl⟩
        unfold hasF
        rw [h0]
        show decide (numM (lo : Int) (nbd p (lo : Int)) = 0) = true
        exact decide_eq_true (numM_zero.2 rfl)
      | false =>
        refine ⟨?_, fun h => by cases h⟩
        rw [hd] at h0
        unfold hasF
        rw [h0, if_neg Bool.false_ne_true, List.nil_append]
        cases hl : (lst p D (lo + 1) c)[0]? with
        | none => rfl
        | some m =>
          show decide (numM (lo : Int) m = 0) = false
          have hm : m ∈ lst p D (lo + 1) c := List.mem_of_getElem? hl
          have := (lst_gt hm).1
          exact decide_eq_false (by rw [numM_zero]; omega)
    · have ih := lst_has (p := p) (D := D) (k := k) c (lo + 1) hlt (by omega)
      cases D lo with
      | false => rw [if_neg Bool.false_ne_true]; exact ih
      | true =>
        rw [if_pos rfl, List.singleton_append]
        have hl := lb_cons (x := nbd p (lo : Int)) (l := lst p D (lo + 1) c) (f := numM (k : Int)) (by rw [numM_lt, nbd_num]; omega)
        rw [hl]
        refine ⟨?_, ih.2⟩
        rw [← ih.1]
        unfold hasF
        rw [hl]
        rfl
/-- How many numbers of a set follow one another. -/
def run (D : Nat → Bool) : Nat → Nat → Nat
  | _, 0 => 0
  | lo, c + 1 => if D lo then run D (lo + 1) c + 1 else 0
theorem run_le (D : Nat → Bool) : ∀ (c lo : Nat), run D lo c ≤ c
  | 0, _ => Nat.le_refl _
  | c + 1, lo => by
    have := run_le D c (lo + 1)
    unfold run
    split <;> omega
theorem run_in {D : Nat → Bool} : ∀ (c lo : Nat) {i : Nat}, lo ≤ i → i < lo + run D lo c → D i = true
  | 0, lo, i, h1, h2 => by simp only [run] at h2; omega
  | c + 1, lo, i, h1, h2 => by
    unfold run at h2
    split at h2
    · rename_i hd
      rcases Nat.eq_or_lt_of_le h1 with rfl | h
      · exact hd
      · exact run_in c (lo + 1) h (by omega)
    · omega
theorem run_end {D : Nat → Bool} : ∀ (c lo : Nat), run D lo c < c → D (lo + run D lo c) = false
  | 0, lo, h => by omega
  | c + 1, lo, h => by
    unfold run at h ⊢
    split at h
    · rename_i hd
      rw [if_pos hd, show lo + (run D (lo + 1) c + 1) = lo + 1 + run D (lo + 1) c from by omega]
      exact run_end c (lo + 1) (by omega)
    · rename_i hd
      rw [if_neg hd]
      simpa using hd
theorem lst_rel {p : ByteArray} {D : Nat → Bool} : ∀ (c lo : Nat), relN (lo : Int) (lst p D lo c) = run D lo c
  | 0, _ => rfl
  | c + 1, lo => by
    have ih := lst_rel (p := p) (D := D) c (lo + 1)
    unfold lst run
    cases hd : D lo with
    | true =>
      rw [if_pos rfl, if_pos rfl, List.singleton_append]
      unfold relN
      rw [if_pos (nbd_num _ _), ← ih]
      rfl
    | false =>
      rw [if_neg Bool.false_ne_true, if_neg Bool.false_ne_true, List.nil_append]
      cases hl : lst p D (lo + 1) c with
      | nil => rfl
      | cons m r =>
        unfold relN
        have := (lst_gt (show m ∈ lst p D (lo + 1) c by rw [hl]; simp)).1
        rw [if_neg (by omega)]
/-- Numbered messages one behind the other. -/
def seqL (p : ByteArray) : Nat → Nat → List Msg
  | _, 0 => []
  | lo, c + 1 => nbd p (lo : Int) :: seqL p (lo + 1) c
theorem seqL_len (p : ByteArray) : ∀ (c lo : Nat), (seqL p lo c).length = c
  | 0, _ => rfl
  | c + 1, lo => by unfold seqL; rw [List.length_cons, seqL_len p c (lo + 1)]
theorem seqL_at (p : ByteArray) (d : Msg) : ∀ (c lo i : Nat), i < c → (seqL p lo c).getD i d = nbd p ((lo + i : Nat) : Int)
  | 0, _, _, h => by omega
  | c + 1, lo, 0, _ => rfl
  | c + 1, lo, i + 1, h => by
    unfold seqL
    rw [List.getD_cons_succ, seqL_at p d c (lo + 1) i (by omega), show lo + 1 + i = lo + (i + 1) from by omega]
theorem lst_take {p : ByteArray} {D : Nat → Bool} : ∀ (c lo : Nat), (lst p D lo c).take (run D lo c) = seqL p lo (run D lo c) ∧ (lst p D lo c).drop (run D lo c) = lst p D (lo + run D lo c) (c - run D lo c)
  | 0, _ => ⟨rfl, rfl⟩
  | c + 1, lo => by
    have ih := lst_take (p := p) (D := D) c (lo + 1)
    cases hd : D lo with
    | true =>
      have e1 : run D lo (c + 1) = run D (lo + 1) c + 1 := by conv => lhs; unfold run; rw [if_pos hd]
      have e2 : lst p D lo (c + 1) = nbd p (lo : Int) :: lst p D (lo + 1) c := by
        show (if D lo then [nbd p (lo : Int)] else []) ++ lst p D (lo + 1) c = _
        rw [if_pos hd]; rfl
      rw [e1, e2]
      refine ⟨?_, ?_⟩
      · rw [List.take_succ_cons, ih.1]; rfl
      · rw [List.drop_succ_cons, ih.2, show lo + (run D (lo + 1) c + 1) = lo + 1 + run D (lo + 1) c from by omega, show c + 1 - (run D (lo + 1) c + 1) = c - run D (lo + 1) c from by omega]
    | false =>
      have e1 : run D lo (c + 1) = 0 := by unfold run; rw [hd, if_neg Bool.false_ne_true]
      rw [e1]
      exact ⟨rfl, rfl⟩
/-- A sender of whom some numbers from the next one on are held. -/
def sndD (p : ByteArray) (D : Nat → Bool) (lo c : Nat) : Snd := ⟨p, (lo : Int), lst p D lo c⟩
theorem decD {p : ByteArray} {D : Nat → Bool} {lo c k : Nat} {win : Nat} (h1 : lo ≤ k) (h2 : k < lo + c) (h3 : k < lo + win) :
    vrdM (sndD p D lo c) (win : Int) (nbd p (k : Int)) = if D k then 3 else if lo < k then 2 else 1 := by
  obtain ⟨hh, hg⟩ := lst_has (p := p) (D := D) c lo h1 h2
  unfold vrdM
  have e1 : (nbd p (k : Int)).num = (k : Int) := rfl
  have e2 : (sndD p D lo c).next = (lo : Int) := rfl
  have e3 : (sndD p D lo c).held = lst p D lo c := rfl
  rw [e1, e2, e3, if_neg (by omega), if_neg (by omega), hh]
  cases hd : D k with
  | true => rw [if_pos rfl, if_pos rfl, hg hd]; unfold sameM; rw [decide_eq_true rfl, if_pos rfl]
  | false =>
    rw [if_neg Bool.false_ne_true, if_neg Bool.false_ne_true]
    by_cases hk : lo < k
    · rw [if_pos hk, if_pos (by omega)]
    · rw [if_neg hk, if_neg (by omega)]
theorem decD_old {p : ByteArray} {D : Nat → Bool} {lo c k : Nat} {win : Int} (h : k < lo) : vrdM (sndD p D lo c) win (nbd p (k : Int)) = 3 := by
  unfold vrdM
  exact if_pos (show (k : Int) < (lo : Int) by omega)
theorem rcvD {p : ByteArray} {D : Nat → Bool} {lo c k : Nat} (h1 : lo ≤ k) (h2 : k < lo + c) (hd : D k = false) :
    rcvS (sndD p D lo c) (nbd p (k : Int)) = sndD p (addD D k) (lo + run (addD D k) lo c) (c - run (addD D k) lo c) ∧ rcvO (sndD p D lo c) (nbd p (k : Int)) = seqL p lo (run (addD D k) lo c) := by
  have hH : rcvH (sndD p D lo c) (nbd p (k : Int)) = lst p (addD D k) lo c := lst_ins hd c lo h1 h2
  have hk : rcvK (sndD p D lo c) (nbd p (k : Int)) = run (addD D k) lo c := by unfold rcvK; rw [hH]; exact lst_rel c lo
  refine ⟨?_, ?_⟩
  · unfold rcvS
    rw [hH, hk, (lst_take c lo).2]
    unfold sndD
    congr 1
  · unfold rcvO
    rw [hH, hk, (lst_take c lo).1]
theorem oneD {p : ByteArray} {D : Nat → Bool} {lo c : Nat} (hp : Lib.compareBytes p.data.toList p.data.toList = 0) (h1 : 1 ≤ lo) (h2 : lo ≤ 1000) (h3 : c ≤ 100) : One p (some (sndD p D lo c)) where
  port := rfl
  few := fun m hm => by obtain ⟨i, _, _, _, rfl⟩ := lst_mem c lo hm; exact ⟨Nat.zero_le _, Nat.zero_le _⟩
  len := Nat.le_trans (lst_len p D c lo) h3
  asc := lst_asc p D c lo
  n1 := by show (1 : Int) ≤ (lo : Int); omega
  n2 := by show (lo : Int) ≤ 1000; omega
  self := hp
theorem one_none {p : ByteArray} (hp : Lib.compareBytes p.data.toList p.data.toList = 0) : One p none :=
  ⟨rfl, fun m hm => absurd hm List.not_mem_nil, Nat.zero_le _, List.Pairwise.nil, Int.le_refl 1, (show (1 : Int) ≤ 1000 by decide), hp⟩
theorem self_ARN : Lib.compareBytes ARN.data.toList ARN.data.toList = 0 := by decide +kernel
theorem self_CPH : Lib.compareBytes CPH.data.toList CPH.data.toList = 0 := by decide +kernel
end Go.Proofs.YtcjdjdganaokfaaDoor
