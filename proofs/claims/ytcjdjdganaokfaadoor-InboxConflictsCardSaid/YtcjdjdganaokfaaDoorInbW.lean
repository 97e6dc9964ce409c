/-
  Receive of an inbox of several senders in the order of their ports: the five verdicts in one contract; what is kept of a sender while messages come.
-/
import Derived.Test.YtcjdjdganaokfaaDoorInbR
namespace Go.Proofs.YtcjdjdganaokfaaDoor
open Go.RowKit

section
variable {α : Type} {f : α → Int}
theorem lbF_app : ∀ (pre r : List α), (∀ u ∈ pre, f u < 0) → lbF f (pre ++ r) = pre.length + lbF f r
  | [], r, _ => by simp
  | x :: l, r, h => by
    have ih := lbF_app l r (fun u hu => h u (List.mem_cons_of_mem _ hu))
    have hx : f x < 0 := h x (by simp)
    have h1 : lbF f (x :: (l ++ r)) = lbF f (l ++ r) + 1 := by
      unfold lbF
      rw [List.takeWhile_cons_of_pos (p := fun x => decide (f x < 0)) (decide_eq_true hx)]
      rfl
    rw [List.cons_append, h1, ih, List.length_cons]
    omega
theorem lbF_none {l : List α} (h : ∀ u ∈ l, 0 ≤ f u) : lbF f l = 0 := by
  cases l with
  | nil => rfl
  | cons x r =>
    unfold lbF
    have hx : ¬ f x < 0 := by have := h x (by simp); omega
    rw [List.takeWhile_cons_of_neg (p := fun x => decide (f x < 0)) (by simp; omega)]
    rfl
theorem mono_mid {pre r : List α} (d : α) (h1 : ∀ u ∈ pre, f u < 0) (h2 : ∀ u ∈ r, 0 ≤ f u) : MonoF f (pre ++ r) d := fun a b hab hb hn => by
  have hbp : b < pre.length := by
    rcases Nat.lt_or_ge b pre.length with h | h
    · exact h
    · rw [at_k hb, List.getElem_append_right h] at hn
      have := h2 (r[b - pre.length]'(by rw [List.length_append] at hb; omega)) (List.getElem_mem _)
      omega
  have ha : a < (pre ++ r).length := by omega
  rw [at_k ha, List.getElem_append_left (by omega)]
  exact h1 _ (List.getElem_mem _)
end
theorem portC_has (t : ByteArray) (l : List SnS) : hasF (portC t) l = hasF (portM t) (l.map SnS.mod) := by
  unfold hasF
  rw [portC_lb, List.getElem?_map]
  cases l[lbF (portM t) (l.map SnS.mod)]? <;> rfl
/-- What is known of each sender. -/
structure Tame (u : Snd) : Prop where
  few : ∀ m ∈ u.held, m.onw.length ≤ 1000 ∧ m.lst.length ≤ 1000
  len : u.held.length ≤ 100
  asc : Asc u.held
  n1 : 1 ≤ u.next
  n2 : u.next ≤ 1000
/-- The place of port p. -/
structure Mid (p : ByteArray) (pre : List Snd) (s : Option Snd) (post : List Snd) : Prop where
  lo : ∀ u ∈ pre, portM p u < 0
  hi : ∀ u ∈ post, 0 < portM p u
  own : ∀ u ∈ s.toList, u.port = p
  self : Lib.compareBytes p.data.toList p.data.toList = 0
  tame : ∀ u ∈ pre ++ (s.toList ++ post), Tame u
  len : pre.length + post.length < 16
theorem Mid.rest {p : ByteArray} {pre post : List Snd} {s : Option Snd} (h : Mid p pre s post) : ∀ u ∈ s.toList ++ post, 0 ≤ portM p u := fun u hu => by
  rcases List.mem_append.1 hu with h1 | h1
  · have : portM p u = 0 := by unfold portM; rw [h.own u h1]; exact h.self
    omega
  · have := h.hi u h1
    omega
theorem Mid.lb {p : ByteArray} {pre post : List Snd} {s : Option Snd} (h : Mid p pre s post) : lbF (portM p) (pre ++ (s.toList ++ post)) = pre.length := by
  rw [lbF_app pre _ h.lo, lbF_none h.rest, Nat.add_zero]
theorem Mid.has {p : ByteArray} {pre post : List Snd} {s : Option Snd} (h : Mid p pre s post) : hasF (portM p) (pre ++ (s.toList ++ post)) = s.isSome := by
  unfold hasF
  rw [h.lb, List.getElem?_append_right (Nat.le_refl _), Nat.sub_self]
  cases s with
  | none =>
    cases post with
    | nil => rfl
    | cons u r =>
      have := h.hi u (by simp)
      show decide (portM p u = 0) = false
      exact decide_eq_false (by omega)
  | some t =>
    have : portM p t = 0 := by unfold portM; rw [h.own t (by simp)]; exact h.self
    show decide (portM p t = 0) = true
    rw [this]; rfl
theorem Mid.ibx {b : Nat} {w : World} {win : Int} {A : Option Addr} {ss : List SnS} {p : ByteArray} {pre post : List Snd} {s : Option Snd} (h : Mid p pre s post) (hi : SndsIn b w A ss) (hs : ss.map SnS.mod = pre ++ (s.toList ++ post)) {m : Msg} (hm : m.port = p) (hw0 : 0 ≤ win) (hw1 : win ≤ 1000) : Ibx b w win A ss m := by
  have hT : ∀ u ∈ ss, Tame u.mod := fun u hu => h.tame _ (by rw [← hs]; exact List.mem_map.2 ⟨u, hu, rfl⟩)
  refine ⟨hi, ?_, fun u hu => fewM_mod rfl (hT u hu).few (hT u hu).len, ?_, fun u hu => ?_, fun u hu => ?_, hw0, hw1⟩
  · have h1 := congrArg List.length hs
    rw [List.length_map, List.length_append, List.length_append] at h1
    have h2 := h.len
    have h3 : s.toList.length ≤ 1 := by cases s <;> simp
    omega
  · rw [hm]
    refine mono_map (portM p) SnS.mod ss sn0 ?_
    rw [hs]
    exact mono_mid _ h.lo h.rest
  · exact mono_map (numM m.num) (fun x : MsS => x.m) u.held ms0 ((hT u hu).asc.mono _ _)
  · have h1 := (hT u hu).n1
    have h2 := (hT u hu).n2
    have h3 : u.mod.next = u.next := rfl
    omega

theorem rcv_mid (b : Nat) (win : Int) (A : Option Addr) (c : Nat) (ss : List SnS) (p : ByteArray) (pre post : List Snd) (s : Option Snd) (x : MsS) (w : World) (h : SndsIn b w A ss) (hs : ss.map SnS.mod = pre ++ (s.toList ++ post)) (h1 : Mid p pre s post) (hK : Keys w) (hb : b < w.heap.size) (hx : x.Lies b w)
    (hpx : x.m.port = p) (hn : 1 ≤ x.m.num) (hv : valE x.m = 0) (hz1 : x.m.onw.length ≤ 1000) (hz2 : x.m.lst.length ≤ 1000) (hw0 : 0 ≤ win) (hw1 : win ≤ 1000) :
    Calls Tryd.prog 18 #[ibV win A ss.length c, x.v] w fun e w' => ∃ (A' : Option Addr) (c' : Nat) (ss' : List SnS) (Ao : Option Addr) (co : Nat) (out : List MsS),
      e = .returned (.tuple #[ibV win A' ss'.length c', .slice Ao out.length co, .int .i64 (vrdM (curS p s) win x.m), .int .i64 0]) ∧ ss'.map SnS.mod = pre ++ ((nxtS p s win x.m).toList ++ post) ∧ out.map (·.m) = outS p s win x.m ∧ (∀ b', b' < w.heap.size → SndsIn b' w' A' ss') ∧ (∀ b', b' < w.heap.size → MsgsIn b' w' Ao out) ∧ Below w.heap.size w w' := by
  have hI : Ibx b w win A ss x.m := h1.ibx h hs hpx hw0 hw1
  have hlbM : lbF (portM x.m.port) (ss.map SnS.mod) = pre.length := by rw [hpx, hs]; exact h1.lb
  have hlb : lbF (portC x.m.port) ss = pre.length := by rw [portC_lb]; exact hlbM
  have hhas : hasF (portC x.m.port) ss = s.isSome := by rw [portC_has, hpx, hs]; exact h1.has
  have hlen : ss.length = pre.length + (s.toList.length + post.length) := by have := congrArg List.length hs; rwa [List.length_map, List.length_append, List.length_append] at this
  cases s with
  | none =>
    have hd : decR (sns0 x.m.port) win x.m = vrdM (curS p none) win x.m := by rw [decR_mod, hpx]; rfl
    have hm : (sns0 x.m.port).mod = curS p none := by rw [hpx]; rfl
    have hl16 : ss.length < 16 := by have := h1.len; simp at hlen; omega
    have hins : ∀ y : Snd, insL (ss.map SnS.mod) (lbF (portM x.m.port) (ss.map SnS.mod)) y = pre ++ ([y] ++ post) := fun y => by
      rw [hlbM, hs]
      unfold insL
      rw [List.take_left, List.drop_left, List.append_assoc]
      rfl
    have h3 : vrdM (curS p none) win x.m ≠ 3 ∧ vrdM (curS p none) win x.m ≠ 5 := by
      unfold vrdM
      have e1 : ¬ x.m.num < (curS p none).next := by show ¬ x.m.num < 1; omega
      have e2 : hasF (numM x.m.num) (curS p none).held = false := rfl
      rw [if_neg e1, e2]
      split
      · exact ⟨by decide, by decide⟩
      · rw [if_neg Bool.false_ne_true]
        split <;> exact ⟨by decide, by decide⟩
    rcases vrdM_five (curS p none) win x.m with d | d | d | d | d
    · refine (rcv_new1 b win A c ss x w hI hK hb hx hv hz1 hz2 hhas (hd.trans d) hl16).mono ?_
      rintro e w' ⟨A', c', ss', Ao, co, out, rfl, e1, e2, e3, e4, e5⟩
      refine ⟨A', c', ss', Ao, co, out, by rw [d], ?_, ?_, e3, e4, e5⟩
      · rw [e1, hins, hm]; unfold nxtS; rw [if_pos (Or.inl d)]; rfl
      · rw [e2, hm]; unfold outS; rw [if_pos (Or.inl d)]
    · refine (rcv_new2 b win A c ss x w hI hK hb hx hv hz1 hz2 hhas (hd.trans d) hl16).mono ?_
      rintro e w' ⟨A', c', ss', Ao, co, out, rfl, e1, e2, e3, e4, e5⟩
      refine ⟨A', c', ss', Ao, co, out, by rw [d], ?_, ?_, e3, e4, e5⟩
      · rw [e1, hins, hm]; unfold nxtS; rw [if_pos (Or.inr d)]; rfl
      · rw [e2, hm]; unfold outS; rw [if_pos (Or.inr d)]
    · exact absurd d h3.1
    · refine (kp_new4 b win A c ss x w hI hK hb hx hv hz1 hz2 hhas (hd.trans d)).mono ?_
      rintro e w' ⟨A', c', ss', rfl, e1, e3, e5⟩
      refine ⟨A', c', ss', none, 0, [], by rw [d]; rfl, ?_, ?_, e3, fun _ _ => MsgsIn.nil _ _ _, e5⟩
      · rw [e1, hs]; unfold nxtS; rw [if_neg (by rw [d]; decide)]
      · unfold outS; rw [if_neg (by rw [d]; decide)]; rfl
    · exact absurd d h3.2
  | some s0 =>
    have hmod : (ss.getD (lbF (portC x.m.port) ss) sn0).mod = s0 := by
      have e := getD_map' SnS.mod ss (lbF (portC x.m.port) ss) sn0
      rw [← e, hlb, hs, List.getD_eq_getElem?_getD, List.getElem?_append_right (Nat.le_refl _), Nat.sub_self]
      rfl
    have hd : decR (ss.getD (lbF (portC x.m.port) ss) sn0) win x.m = vrdM (curS p (some s0)) win x.m := by rw [decR_mod, hmod]; rfl
    have hset : ∀ y : Snd, (ss.map SnS.mod).set (lbF (portM x.m.port) (ss.map SnS.mod)) y = pre ++ ([y] ++ post) := fun y => by
      rw [hlbM, hs, List.set_append_right _ _ (Nat.le_refl _), Nat.sub_self]
      rfl
    have hcur : curS p (some s0) = s0 := rfl
    rcases vrdM_five (curS p (some s0)) win x.m with d | d | d | d | d
    · refine (rcv_old1 b win A c ss x w hI hK hb hx hv hz1 hz2 hhas (hd.trans d)).mono ?_
      rintro e w' ⟨A', c', ss', Ao, co, out, rfl, e1, e2, e3, e4, e5⟩
      refine ⟨A', c', ss', Ao, co, out, by rw [d], ?_, ?_, e3, e4, e5⟩
      · rw [e1, hset, hmod]; unfold nxtS; rw [if_pos (Or.inl d)]; rfl
      · rw [e2, hmod]; unfold outS; rw [if_pos (Or.inl d)]; rfl
    · refine (rcv_old2 b win A c ss x w hI hK hb hx hv hz1 hz2 hhas (hd.trans d)).mono ?_
      rintro e w' ⟨A', c', ss', Ao, co, out, rfl, e1, e2, e3, e4, e5⟩
      refine ⟨A', c', ss', Ao, co, out, by rw [d], ?_, ?_, e3, e4, e5⟩
      · rw [e1, hset, hmod]; unfold nxtS; rw [if_pos (Or.inr d)]; rfl
      · rw [e2, hmod]; unfold outS; rw [if_pos (Or.inr d)]; rfl
    all_goals have hnn : nxtS p (some s0) win x.m = some s0 ∧ outS p (some s0) win x.m = [] := by unfold nxtS outS; rw [if_neg (by rw [d]; decide), if_neg (by rw [d]; decide)]; exact ⟨rfl, rfl⟩
    · refine (kp_old3 b win A c ss x w hI hK hb hx hv hz1 hz2 hhas (hd.trans d)).mono ?_
      rintro e w' ⟨A', c', ss', rfl, e1, e3, e5⟩
      exact ⟨A', c', ss', none, 0, [], by rw [d]; rfl, by rw [e1, hnn.1]; exact hs, by rw [hnn.2]; rfl, e3, fun _ _ => MsgsIn.nil _ _ _, e5⟩
    · refine (kp_old4 b win A c ss x w hI hK hb hx hv hz1 hz2 hhas (hd.trans d)).mono ?_
      rintro e w' ⟨A', c', ss', rfl, e1, e3, e5⟩
      exact ⟨A', c', ss', none, 0, [], by rw [d]; rfl, by rw [e1, hnn.1]; exact hs, by rw [hnn.2]; rfl, e3, fun _ _ => MsgsIn.nil _ _ _, e5⟩
    · refine (kp_old5 b win A c ss x w hI hK hb hx hv hz1 hz2 hhas (hd.trans d)).mono ?_
      rintro e w' ⟨A', c', ss', rfl, e1, e3, e5⟩
      exact ⟨A', c', ss', none, 0, [], by rw [d]; rfl, by rw [e1, hnn.1]; exact hs, by rw [hnn.2]; rfl, e3, fun _ _ => MsgsIn.nil _ _ _, e5⟩

/-! What is kept of a sender after i messages. -/
structure Tm (i : Nat) (u : Snd) : Prop where
  few : ∀ m ∈ u.held, m.onw.length ≤ 1000 ∧ m.lst.length ≤ 1000
  asc : Asc u.held
  n1 : 1 ≤ u.next
  cnt : u.next + (u.held.length : Int) ≤ 1 + (i : Int)
theorem Tm.tame {i : Nat} {u : Snd} (h : Tm i u) (hi : i ≤ 90) : Tame u := by
  have h1 := h.n1
  have h2 := h.cnt
  exact ⟨h.few, by omega, h.asc, h1, by omega⟩
theorem Tm.mono {i j : Nat} {u : Snd} (h : Tm i u) (hi : i ≤ j) : Tm j u := ⟨h.few, h.asc, h.n1, by have := h.cnt; omega⟩
theorem Tm.snd0 (i : Nat) (p : ByteArray) : Tm i (snd0 p) := ⟨fun m hm => absurd hm List.not_mem_nil, List.Pairwise.nil, Int.le_refl 1, by show (1 : Int) + ((0 : Nat) : Int) ≤ _; omega⟩
theorem relN_le : ∀ (l : List Msg) (n : Int), relN n l ≤ l.length
  | [], _ => Nat.le_refl _
  | m :: l, n => by
    have := relN_le l (n + 1)
    unfold relN
    split
    · rw [List.length_cons]; omega
    · exact Nat.zero_le _
theorem asc_ins {m : Msg} : ∀ {l : List Msg}, Asc l → hasF (numM m.num) l = false → Asc (insL l (lbF (numM m.num) l) m)
  | [], _, _ => List.pairwise_singleton _ _
  | x :: r, h, hn => by
    have hx : ∀ y ∈ r, x.num < y.num := (List.pairwise_cons.1 h).1
    have hr : Asc r := (List.pairwise_cons.1 h).2
    by_cases hlt : numM m.num x < 0
    · have hl : lbF (numM m.num) (x :: r) = lbF (numM m.num) r + 1 := lb_cons hlt
      have hh : hasF (numM m.num) r = false := by
        rw [← hn]
        unfold hasF
        rw [hl]
        rfl
      have ih := asc_ins hr hh
      rw [hl]
      show Asc (x :: insL r (lbF (numM m.num) r) m)
      refine List.pairwise_cons.2 ⟨fun y hy => ?_, ih⟩
      rcases insL_mem hy with rfl | hy
      · exact numM_lt.1 hlt
      · exact hx y hy
    · have hl : lbF (numM m.num) (x :: r) = 0 := by
        unfold lbF
        rw [List.takeWhile_cons_of_neg (p := fun x => decide (numM m.num x < 0)) (by simp; omega)]
        rfl
      have hne : ¬ x.num = m.num := fun e => by
        have : hasF (numM m.num) (x :: r) = true := by
          unfold hasF
          rw [hl]
          show decide (numM m.num x = 0) = true
          exact decide_eq_true (numM_zero.2 e)
        rw [this] at hn; cases hn
      have hge : ¬ x.num < m.num := fun e => hlt (numM_lt.2 e)
      rw [hl]
      show Asc (m :: x :: r)
      refine List.pairwise_cons.2 ⟨fun y hy => ?_, h⟩
      rcases List.mem_cons.1 hy with rfl | hy
      · omega
      · have := hx y hy
        omega
theorem vrd_new {s : Snd} {win : Int} {m : Msg} (h : vrdM s win m = 1 ∨ vrdM s win m = 2) : hasF (numM m.num) s.held = false := by
  cases hh : hasF (numM m.num) s.held with
  | false => rfl
  | true =>
    unfold vrdM at h
    rw [hh, if_pos rfl] at h
    split at h
    · omega
    · split at h
      · omega
      · split at h <;> omega
theorem rcv_tm {i : Nat} {s : Snd} {m : Msg} (h : Tm i s) (hn : hasF (numM m.num) s.held = false) (hm : m.onw.length ≤ 1000 ∧ m.lst.length ≤ 1000) : Tm (i + 1) (rcvS s m) := by
  have hmem : ∀ y ∈ rcvH s m, y.onw.length ≤ 1000 ∧ y.lst.length ≤ 1000 := fun y hy => by
    rcases insL_mem hy with rfl | hy
    · exact hm
    · exact h.few y hy
  have hlen : (rcvH s m).length = s.held.length + 1 := insL_len _ _ _
  have hK : rcvK s m ≤ (rcvH s m).length := relN_le _ _
  have h1 := h.n1
  have h2 := h.cnt
  refine ⟨fun y hy => hmem y (List.mem_of_mem_drop hy), List.Pairwise.drop (asc_ins h.asc hn), ?_, ?_⟩
  · show 1 ≤ s.next + ((rcvK s m : Nat) : Int)
    omega
  · show s.next + ((rcvK s m : Nat) : Int) + ((((rcvH s m).drop (rcvK s m)).length : Nat) : Int) ≤ 1 + ((i + 1 : Nat) : Int)
    rw [List.length_drop]
    omega
theorem cur_tm {i : Nat} {p : ByteArray} {s : Option Snd} (h : ∀ u ∈ s.toList, Tm i u) : Tm i (curS p s) := by
  cases s with
  | none => exact Tm.snd0 i p
  | some t => exact h t (by simp)
theorem nxt_tm {i : Nat} {p : ByteArray} {s : Option Snd} {win : Int} {m : Msg} (h : ∀ u ∈ s.toList, Tm i u) (hm : m.onw.length ≤ 1000 ∧ m.lst.length ≤ 1000) : ∀ u ∈ (nxtS p s win m).toList, Tm (i + 1) u := fun u hu => by
  unfold nxtS at hu
  split at hu
  · rename_i hv
    rw [List.mem_singleton.1 (show u ∈ [rcvS (curS p s) m] from hu)]
    exact rcv_tm (cur_tm h) (vrd_new hv) hm
  · exact (h u hu).mono (Nat.le_succ i)
theorem nxt_port {p : ByteArray} {s : Option Snd} {win : Int} {m : Msg} (h : ∀ u ∈ s.toList, u.port = p) : ∀ u ∈ (nxtS p s win m).toList, u.port = p := fun u hu => by
  unfold nxtS at hu
  split at hu
  · rw [List.mem_singleton.1 (show u ∈ [rcvS (curS p s) m] from hu)]
    show (curS p s).port = p
    cases s with
    | none => rfl
    | some t => exact h t (by simp)
  · exact h u hu
theorem out_few {i : Nat} {p : ByteArray} {s : Option Snd} {win : Int} {m : Msg} (h : ∀ u ∈ s.toList, Tm i u) (hm : m.onw.length ≤ 1000 ∧ m.lst.length ≤ 1000) : (outS p s win m).length ≤ i + 1 ∧ ∀ y ∈ outS p s win m, y.onw.length ≤ 1000 ∧ y.lst.length ≤ 1000 := by
  have hc := cur_tm (p := p) h
  unfold outS
  split
  · refine ⟨?_, fun y hy => ?_⟩
    · have h1 := hc.n1
      have h2 := hc.cnt
      have h3 : (rcvO (curS p s) m).length ≤ (rcvH (curS p s) m).length := by
        show ((rcvH (curS p s) m).take (rcvK (curS p s) m)).length ≤ _
        rw [List.length_take]; omega
      have h4 : (rcvH (curS p s) m).length = (curS p s).held.length + 1 := insL_len _ _ _
      omega
    · rcases insL_mem (List.mem_of_mem_take (show y ∈ (rcvH (curS p s) m).take _ from hy)) with rfl | hy
      · exact hm
      · exact hc.few y hy
  · exact ⟨Nat.zero_le _, fun y hy => absurd hy List.not_mem_nil⟩

/-! Two senders: Stockholm and Copenhagen. -/
theorem ARN_CPH (u : Snd) (h : u.port = ARN) : portM CPH u < 0 := by unfold portM; rw [h]; decide +kernel
theorem CPH_ARN (u : Snd) (h : u.port = CPH) : 0 < portM ARN u := by unfold portM; rw [h]; decide +kernel
theorem mid_ARN {i : Nat} {a c : Option Snd} (ha : ∀ u ∈ a.toList, u.port = ARN) (hc : ∀ u ∈ c.toList, u.port = CPH) (ta : ∀ u ∈ a.toList, Tm i u) (tc : ∀ u ∈ c.toList, Tm i u) (hi : i ≤ 90) : Mid ARN [] a c.toList :=
  ⟨(fun _ h => by cases h), fun u hu => CPH_ARN u (hc u hu), ha, self_ARN, (fun u hu => by
    rcases List.mem_append.1 (show u ∈ a.toList ++ c.toList from hu) with h | h
    · exact (ta u h).tame hi
    · exact (tc u h).tame hi), (by cases c <;> simp)⟩
theorem mid_CPH {i : Nat} {a c : Option Snd} (ha : ∀ u ∈ a.toList, u.port = ARN) (hc : ∀ u ∈ c.toList, u.port = CPH) (ta : ∀ u ∈ a.toList, Tm i u) (tc : ∀ u ∈ c.toList, Tm i u) (hi : i ≤ 90) : Mid CPH a.toList c [] :=
  ⟨fun u hu => ARN_CPH u (ha u hu), (fun _ h => by cases h), hc, self_CPH, (fun u hu => by
    rcases List.mem_append.1 hu with h | h
    · exact (ta u h).tame hi
    · rw [List.append_nil] at h
      exact (tc u h).tame hi), (by cases a <;> simp)⟩
end Go.Proofs.YtcjdjdganaokfaaDoor
