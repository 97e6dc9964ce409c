/-
  InboxGaps: the mathematics; an inbox in a box.
-/
import Derived.Test.YtcjdjdganaokfaaDoorInbR
import Derived.Test.YtcjdjdganaokfaaDoorInbP

/- InbS: The mathematics of InboxGaps: what is held, what is missing, what Skip releases. -/
namespace Go.Proofs.YtcjdjdganaokfaaDoor
open Go.RowKit

/-- The numbers from 2 to below n that come. -/
def G (f : Nat → Bool) (n : Nat) : Nat → Bool := fun i => decide (2 ≤ i) && decide (i < n) && f i
theorem G_one (f : Nat → Bool) (n : Nat) : G f n 1 = false := rfl
theorem G_self (f : Nat → Bool) (n : Nat) : G f n n = false := by unfold G; rw [decide_eq_false (Nat.lt_irrefl n), Bool.and_false, Bool.false_and]
theorem G_next {f : Nat → Bool} {n : Nat} (h2 : 2 ≤ n) (h : f n = true) : addD (G f n) n = G f (n + 1) := by
  funext i
  unfold addD G
  by_cases e : i = n
  · subst e
    rw [h, decide_eq_true h2, decide_eq_true (Nat.lt_succ_self i)]; simp
  · rw [decide_eq_false e, Bool.or_false]
    by_cases h3 : i < n
    · rw [decide_eq_true h3, decide_eq_true (show i < n + 1 by omega)]
    · rw [decide_eq_false h3, decide_eq_false (show ¬ i < n + 1 by omega)]
theorem G_same {f : Nat → Bool} {n : Nat} (h : f n = false) : G f (n + 1) = G f n := by
  funext i
  unfold G
  by_cases e : i = n
  · subst e; rw [h, Bool.and_false, Bool.and_false]
  · by_cases h3 : i < n
    · rw [decide_eq_true h3, decide_eq_true (show i < n + 1 by omega)]
    · rw [decide_eq_false h3, decide_eq_false (show ¬ i < n + 1 by omega)]
/-- The sender behind the numbers below n, the greatest of them top (none: 0). -/
def stG (f : Nat → Bool) (n top : Nat) : Option Snd := if top = 0 then none else some (sndD CPH (G f n) 1 8)
structure Top (f : Nat → Bool) (n top : Nat) : Prop where
  zero : top = 0 ∨ (2 ≤ top ∧ top < n ∧ f top = true)
  none : ∀ i, top < i → 2 ≤ i → i < n → f i = false
theorem Top.start (f : Nat → Bool) : Top f 2 0 := ⟨Or.inl rfl, fun i _ h1 h2 => by omega⟩
theorem Top.hit {f : Nat → Bool} {n top : Nat} (_h : Top f n top) (h2 : 2 ≤ n) (hf : f n = true) : Top f (n + 1) n := ⟨Or.inr ⟨h2, Nat.lt_succ_self n, hf⟩, fun i h3 h4 h5 => by omega⟩
theorem Top.miss {f : Nat → Bool} {n top : Nat} (h : Top f n top) (hf : f n = false) : Top f (n + 1) top :=
  ⟨h.zero.imp id fun ⟨a, b, c⟩ => ⟨a, by omega, c⟩, fun i h3 h4 h5 => by
    by_cases e : i = n
    · subst e; exact hf
    · exact h.none i h3 h4 (by omega)⟩
theorem cur_G {f : Nat → Bool} {n top : Nat} (h : Top f n top) : curS CPH (stG f n top) = sndD CPH (G f n) 1 8 := by
  unfold stG curS
  by_cases e : top = 0
  · subst e
    rw [if_pos rfl]
    have : lst CPH (G f n) 1 8 = lst CPH (fun _ => false) 1 8 := lst_congr 8 1 (fun i h1 h2 => by
      unfold G
      by_cases h3 : 2 ≤ i
      · by_cases h4 : i < n
        · rw [h.none i (by omega) h3 h4, Bool.and_false]
        · rw [decide_eq_false h4, Bool.and_false, Bool.false_and]
      · rw [decide_eq_false h3, Bool.false_and, Bool.false_and])
    unfold sndD
    rw [this]
    rfl
  · rw [if_neg e]; rfl
theorem dec_G {f : Nat → Bool} {n top : Nat} (h : Top f n top) (h2 : 2 ≤ n) (h8 : n ≤ 8) : vrdM (curS CPH (stG f n top)) 8 (nbd CPH (n : Int)) = 2 := by
  rw [cur_G h]
  refine (decD (win := 8) (by omega) (by omega) (by omega)).trans ?_
  rw [G_self, if_neg Bool.false_ne_true, if_pos (by omega)]
theorem run_G (f : Nat → Bool) (n : Nat) : run (G f n) 1 8 = 0 := by unfold run; rw [G_one, if_neg Bool.false_ne_true]
theorem nxt_G {f : Nat → Bool} {n top : Nat} (h : Top f n top) (h2 : 2 ≤ n) (h8 : n ≤ 8) (hf : f n = true) : nxtS CPH (stG f n top) 8 (nbd CPH (n : Int)) = stG f (n + 1) n ∧ outS CPH (stG f n top) 8 (nbd CPH (n : Int)) = [] := by
  have hd := dec_G h h2 h8
  unfold nxtS outS
  rw [if_pos (Or.inr hd), if_pos (Or.inr hd), cur_G h]
  obtain ⟨e1, e2⟩ := rcvD (p := CPH) (D := G f n) (lo := 1) (c := 8) (k := n) (by omega) (by omega) (G_self f n)
  rw [e1, e2, G_next h2 hf, run_G]
  refine ⟨?_, rfl⟩
  unfold stG
  rw [if_neg (by omega)]
theorem one_G {f : Nat → Bool} {n top : Nat} : One CPH (stG f n top) := by
  unfold stG
  split
  · exact one_none self_CPH
  · exact oneD self_CPH (by omega) (by omega) (by omega)
theorem same_G {f : Nat → Bool} {n top : Nat} (hf : f n = false) : stG f (n + 1) top = stG f n top := by unfold stG; rw [G_same hf]

/-- The numbers below top that did not come, among the first k. -/
def wantN (f : Nat → Bool) (top : Nat) : Nat → List Int
  | 0 => []
  | k + 1 => wantN f top k ++ (if (decide (k + 1 = 1) || !f (k + 1)) && decide (k + 1 < top) then [((k + 1 : Nat) : Int)] else [])
theorem wantN_len (f : Nat → Bool) (top : Nat) : ∀ k, (wantN f top k).length ≤ k
  | 0 => Nat.le_refl _
  | k + 1 => by
    have := wantN_len f top k
    unfold wantN
    split <;> simp <;> omega
theorem wantN_stop (f : Nat → Bool) (top : Nat) : ∀ j, wantN f top (top - 1 + j) = wantN f top (top - 1)
  | 0 => rfl
  | j + 1 => by
    rw [← Nat.add_assoc]
    conv => lhs; unfold wantN
    rw [decide_eq_false (show ¬ top - 1 + j + 1 < top by omega), Bool.and_false, if_neg Bool.false_ne_true, List.append_nil]
    exact wantN_stop f top j
theorem miss_G {f : Nat → Bool} (top : Nat) : ∀ k, k ≤ 8 → missN (sndD CPH (G f 9) 1 8) (top : Int) k = wantN f top k
  | 0, _ => rfl
  | k + 1, hk => by
    have ih := miss_G (f := f) top k (by omega)
    unfold missN wantN
    rw [ih]
    have e1 : (sndD CPH (G f 9) 1 8).next + (k : Int) = ((k + 1 : Nat) : Int) := by show (1 : Int) + (k : Int) = _; omega
    have e2 : hasF (numM ((k + 1 : Nat) : Int)) (sndD CPH (G f 9) 1 8).held = G f 9 (k + 1) := (lst_has (p := CPH) (D := G f 9) 8 1 (by omega) (by omega)).1
    have e3 : (!G f 9 (k + 1)) = (decide (k + 1 = 1) || !f (k + 1)) := by
      unfold G
      rw [decide_eq_true (show k + 1 < 9 by omega), Bool.and_true]
      by_cases h : k = 0
      · subst h; rfl
      · rw [decide_eq_true (show 2 ≤ k + 1 by omega), decide_eq_false (show ¬ k + 1 = 1 by omega), Bool.true_and, Bool.false_or]
    have e4 : decide (((k + 1 : Nat) : Int) < (top : Int)) = decide (k + 1 < top) := by
      rw [decide_eq_decide]; omega
    rw [e1, e2, e3, e4]
/-- A set from its first number on. -/
theorem lst_skip {p : ByteArray} {D : Nat → Bool} : ∀ (j c lo : Nat), j ≤ c → (∀ i, lo ≤ i → i < lo + j → D i = false) → lst p D lo c = lst p D (lo + j) (c - j)
  | 0, _, _, _, _ => rfl
  | j + 1, 0, _, h, _ => by omega
  | j + 1, c + 1, lo, h, hD => by
    conv => lhs; unfold lst
    rw [hD lo (Nat.le_refl _) (by omega), if_neg Bool.false_ne_true, List.nil_append, lst_skip j c (lo + 1) (by omega) (fun i h1 h2 => hD i (by omega) (by omega)), show lo + 1 + j = lo + (j + 1) from by omega, show c - j = c + 1 - (j + 1) from by omega]
/-- A set ends with its greatest number. -/
theorem lst_last {p : ByteArray} {D : Nat → Bool} {t : Nat} (ht : D t = true) : ∀ (c lo : Nat), lo ≤ t → t < lo + c → (∀ i, t < i → i < lo + c → D i = false) → ∃ l, lst p D lo c = l ++ [nbd p (t : Int)]
  | 0, lo, h1, h2, _ => by omega
  | c + 1, lo, h1, h2, h3 => by
    rcases Nat.eq_or_lt_of_le h1 with e | hlt
    · subst e
      have : lst p D (lo + 1) c = [] := by
        rw [lst_skip c c (lo + 1) (Nat.le_refl _) (fun i h4 h5 => h3 i (by omega) (by omega)), Nat.sub_self]; rfl
      exact ⟨[], by unfold lst; rw [ht, if_pos rfl, this]; rfl⟩
    · obtain ⟨l, hl⟩ := lst_last (p := p) ht c (lo + 1) hlt (by omega) (fun i h4 h5 => h3 i h4 (by omega))
      exact ⟨(if D lo then [nbd p (lo : Int)] else []) ++ l, by unfold lst; rw [hl, List.append_assoc]⟩
theorem G_at {f : Nat → Bool} {i : Nat} (h2 : 2 ≤ i) (h8 : i ≤ 8) : G f 9 i = f i := by
  unfold G
  rw [decide_eq_true h2, decide_eq_true (show i < 9 by omega), Bool.true_and, Bool.true_and]
theorem missL_G {f : Nat → Bool} {top : Nat} (h : Top f 9 top) (h0 : top ≠ 0) : missL (sndD CPH (G f 9) 1 8) = wantN f top (top - 1) := by
  obtain ⟨h2, h9, hf⟩ := h.zero.resolve_left h0
  obtain ⟨l, hl⟩ := lst_last (p := CPH) (D := G f 9) (t := top) (by rw [G_at h2 (by omega)]; exact hf) 8 1 (by omega) (by omega) (fun i h3 h4 => by rw [G_at (by omega) (by omega)]; exact h.none i h3 (by omega) (by omega))
  unfold missL
  have e : (sndD CPH (G f 9) 1 8).held = l ++ [nbd CPH (top : Int)] := hl
  have e2 : ((l ++ [nbd CPH (top : Int)]).getD ((l ++ [nbd CPH (top : Int)]).length - 1) msg0).num = (top : Int) := by
    rw [List.length_append, List.length_singleton, Nat.add_sub_cancel, at_k (by simp), List.getElem_append_right (Nat.le_refl _)]
    simp [nbd_num]
  rw [e, e2, miss_G top 8 (Nat.le_refl _)]
  have := wantN_stop f top (8 - (top - 1))
  rwa [show top - 1 + (8 - (top - 1)) = 8 from by omega] at this
/-- What Skip releases begins with the first number that came. -/
theorem skip_G {f : Nat → Bool} {t : Nat} (h2 : 2 ≤ t) (h8 : t ≤ 8) (hf : f t = true) (hn : ∀ i, 2 ≤ i → i < t → f i = false) :
    skN (sndD CPH (G f 9) 1 8) = (t : Int) ∧ 1 ≤ run (G f 9) t (9 - t) ∧ (sndD CPH (G f 9) 1 8).held.take (skK (sndD CPH (G f 9) 1 8)) = seqL CPH t (run (G f 9) t (9 - t)) := by
  have e : lst CPH (G f 9) 1 8 = lst CPH (G f 9) t (9 - t) := by
    have := lst_skip (p := CPH) (D := G f 9) (t - 1) 8 1 (by omega) (fun i h3 h4 => by
      by_cases h5 : 2 ≤ i
      · rw [G_at h5 (by omega)]; exact hn i h5 (by omega)
      · obtain rfl : i = 1 := by omega
        rfl)
    rwa [show 1 + (t - 1) = t from by omega, show 8 - (t - 1) = 9 - t from by omega] at this
  obtain ⟨c, hc⟩ : ∃ c, 9 - t = c + 1 := ⟨8 - t, by omega⟩
  have hg : G f 9 t = true := by rw [G_at h2 h8]; exact hf
  have e1 : skN (sndD CPH (G f 9) 1 8) = (t : Int) := by
    unfold skN
    show ((lst CPH (G f 9) 1 8).getD 0 msg0).num = _
    rw [e, hc]
    unfold lst
    rw [hg, if_pos rfl]
    rfl
  have e2 : skK (sndD CPH (G f 9) 1 8) = run (G f 9) t (9 - t) := by
    unfold skK
    rw [e1]
    show relN (t : Int) (lst CPH (G f 9) 1 8) = _
    rw [e]
    exact lst_rel (9 - t) t
  refine ⟨e1, ?_, ?_⟩
  · rw [hc]
    unfold run
    rw [hg, if_pos rfl]
    omega
  · rw [e2]
    show (lst CPH (G f 9) 1 8).take _ = _
    rw [e]
    exact (lst_take (9 - t) t).1
end Go.Proofs.YtcjdjdganaokfaaDoor

/- InbT: An inbox in a box, as the statements hold one: what it keeps when worlds change; Receive at such a box. -/
namespace Go.Proofs.YtcjdjdganaokfaaDoor
open Go.RowKit

/-- Messages without legs and passengers. -/
def Plain (xs : List MsS) : Prop := ∀ x ∈ xs, x.m.onw = [] ∧ x.m.lst = []
def PlainS (s : Snd) : Prop := ∀ m ∈ s.held, m.onw = [] ∧ m.lst = []
theorem MsS.Lies.plain {b : Nat} {w : World} {x : MsS} (h : x.m.onw = [] ∧ x.m.lst = []) : x.Lies b w := ⟨by rw [h.1]; exact LegsIn.nil _ _ _, by rw [h.2]; exact NumsIn.nil _ _ _⟩
theorem MsgsIn.box {b b' : Nat} {w : World} {A : Option Addr} {xs : List MsS} {win : Int} {B : Option Addr} {n c : Nat} (h : MsgsIn b w A xs) (hp : Plain xs) (hx : w.heap[b']? = some (ibO win B n c)) : MsgsIn b' w A xs := fun hn => by
  obtain ⟨g, off, hA, _, hc, _⟩ := h hn
  refine ⟨g, off, hA, ?_, hc, fun x hm => MsS.Lies.plain (hp x hm)⟩
  rintro rfl
  have h2 := hc 29 _ (by rw [show (29 : Nat) = 0 * 30 + 29 from rfl, flatK_at MsS.cs 30 MsS.cs_len xs 0 hn 29 (by omega)]; rfl)
  rw [Lib.cell_of_heap hx, Array.getElem?_eq_none (by simp)] at h2
  cases h2
theorem SndsIn.box {b b' : Nat} {w : World} {A : Option Addr} {ss : List SnS} {win : Int} {B : Option Addr} {n c : Nat} (h : SndsIn b w A ss) (hp : ∀ t ∈ ss, Plain t.held) (hx : w.heap[b']? = some (ibO win B n c)) : SndsIn b' w A ss := fun hn => by
  obtain ⟨g, off, hA, _, hc, hl⟩ := h hn
  refine ⟨g, off, hA, ?_, hc, fun t ht => (hl t ht).box (hp t ht) hx⟩
  rintro rfl
  have h2 := hc 2 _ (by rw [show (2 : Nat) = 0 * 3 + 2 from rfl, flatK_at SnS.cs 3 SnS.cs_len ss 0 hn 2 (by omega)]; rfl)
  rw [Lib.cell_of_heap hx, Array.getElem?_eq_none (by simp)] at h2
  cases h2
theorem plain_mod {ss : List SnS} {l : List Snd} (e : ss.map SnS.mod = l) (h : ∀ u ∈ l, PlainS u) : ∀ t ∈ ss, Plain t.held := fun t ht x hx =>
  h t.mod (by rw [← e]; exact List.mem_map.2 ⟨t, ht, rfl⟩) x.m (List.mem_map.2 ⟨x, hx, rfl⟩)
theorem plain_D (p : ByteArray) (D : Nat → Bool) (lo c : Nat) : PlainS (sndD p D lo c) := fun m hm => by
  obtain ⟨i, _, _, _, rfl⟩ := lst_mem c lo hm
  exact ⟨rfl, rfl⟩
/-- An inbox of one sender or none in box X. -/
structure IBx (X : Nat) (win : Int) (s : Option Snd) (A : Option Addr) (c : Nat) (ss : List SnS) (W : World) : Prop where
  box : W.heap[X]? = some (ibO win A ss.length c)
  ins : SndsIn X W A ss
  mod : ss.map SnS.mod = oneL s
  plain : ∀ u ∈ oneL s, PlainS u
theorem IBx.lt {X : Nat} {win : Int} {s : Option Snd} {A : Option Addr} {c : Nat} {ss : List SnS} {W : World} (h : IBx X win s A c ss W) : X < W.heap.size := (Array.getElem?_eq_some_iff.1 h.box).1
theorem IBx.below {X : Nat} {win : Int} {s : Option Snd} {A : Option Addr} {c : Nat} {ss : List SnS} {W W' : World} (h : IBx X win s A c ss W) (hb : Below W.heap.size W W') : IBx X win s A c ss W' :=
  ⟨(hb.block _ h.lt).trans h.box, h.ins.keep hb, h.mod, h.plain⟩
theorem IBx.grown {X Y : Nat} {win : Int} {s : Option Snd} {A : Option Addr} {c : Nat} {ss : List SnS} {W W' : World} {win' : Int} {B : Option Addr} {n c' : Nat} (h : IBx X win s A c ss W) (hne : X ≠ Y) (hY : W.heap[Y]? = some (ibO win' B n c')) (hg : W.grownBy W' (some Y)) : IBx X win s A c ss W' := by
  have hb : W'.heap[X]? = some (ibO win A ss.length c) := by
    rw [← h.box]
    exact hg.block X h.lt (by simpa using hne)
  exact ⟨hb, ((h.ins.box (plain_mod h.mod h.plain) hY).grown hg).merge h.ins, h.mod, h.plain⟩
/-- What is laid into box X: an inbox that can be read, its rows in no box. -/
theorem IBx.put {X : Nat} {win : Int} {s : Option Snd} {A : Option Addr} {c : Nat} {ss : List SnS} {W W' : World} {b : Nat} {win' : Int} {B : Option Addr} {n c' : Nat} (hX : W.heap[X]? = some (ibO win' B n c')) (hin : SndsIn b W A ss) (hm : ss.map SnS.mod = oneL s) (hp : ∀ u ∈ oneL s, PlainS u)
    (hg : W.grownBy W' (some X)) (hb : W'.heap[X]? = some (ibO win A ss.length c)) : IBx X win s A c ss W' :=
  ⟨hb, (hin.box (plain_mod hm hp) hX).grown hg, hm, hp⟩
/-- One box's inbox moved into another box. -/
theorem IBx.move {X Y : Nat} {win : Int} {s s' : Option Snd} {A B : Option Addr} {c d : Nat} {ss ss' : List SnS} {W : World} (h : IBx X win s A c ss W) (hY : IBx Y win s' B d ss' W) : IBx X win s' B d ss' (W.setRow X #[.int .i64 win, .slice B ss'.length d]) :=
  IBx.put h.box hY.ins hY.mod hY.plain (gr_setRow W X _) (setRow_heap W X _ _ _ _ h.box)
/-- Receive of a numbered message at what a box holds. -/
theorem IBx.rcv {X : Nat} {win : Int} {s : Option Snd} {A : Option Addr} {c : Nat} {ss : List SnS} {W : World} (h : IBx X win s A c ss W) {p : ByteArray} (h1 : One p s) (hK : Keys W) (n : Int) (hn : 1 ≤ n) (hv : valE (nbd p n) = 0) (hw0 : 0 ≤ win) (hw1 : win ≤ 1000) :
    Calls Tryd.prog 18 #[ibV win A ss.length c, (nbS p n).v] W fun e w' => ∃ (A' : Option Addr) (c' : Nat) (ss' : List SnS) (Ao : Option Addr) (co : Nat) (out : List MsS),
      e = .returned (.tuple #[ibV win A' ss'.length c', .slice Ao out.length co, .int .i64 (vrdM (curS p s) win (nbd p n)), .int .i64 0]) ∧ ss'.map SnS.mod = oneL (nxtS p s win (nbd p n)) ∧ out.map (·.m) = outS p s win (nbd p n) ∧ SndsIn X w' A' ss' ∧ MsgsIn X w' Ao out ∧ Below W.heap.size W w' :=
  (rcv_one X win A c ss p s (nbS p n) W h.ins h.mod h1 hK h.lt (nbS_lies X W p n) rfl hn hv (Nat.zero_le _) (Nat.zero_le _) hw0 hw1).mono fun _ _ ⟨A', c', ss', Ao, co, out, e, e1, e2, e3, e4, e5⟩ => ⟨A', c', ss', Ao, co, out, e, e1, e2, e3 X h.lt, e4 X h.lt, e5⟩
end Go.Proofs.YtcjdjdganaokfaaDoor
