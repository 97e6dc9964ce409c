/-
  Contract of Receive where the message is accepted or held.
-/
import Derived.Test.YtcjdjdganaokfaaDoorInbH
namespace Go.Proofs.YtcjdjdganaokfaaDoor
open Go.RowKit

def portM (t : ByteArray) (s : Snd) : Int := Lib.compareBytes s.port.data.toList t.data.toList
theorem portC_lb (t : ByteArray) (l : List SnS) : lbF (portC t) l = lbF (portM t) (l.map SnS.mod) := by
  show lbF (fun x : SnS => portM t x.mod) l = _
  exact lbF_map (portM t) SnS.mod l
def snd0 (p : ByteArray) : Snd := ⟨p, 1, []⟩
def sns0 (p : ByteArray) : SnS := ⟨p, 1, none, 0, []⟩
/-- A sender with one more message, and what it releases. -/
def rcvH (s : Snd) (m : Msg) : List Msg := insL s.held (lbF (numM m.num) s.held) m
def rcvK (s : Snd) (m : Msg) : Nat := relN s.next (rcvH s m)
def rcvS (s : Snd) (m : Msg) : Snd := ⟨s.port, s.next + (rcvK s m : Nat), (rcvH s m).drop (rcvK s m)⟩
def rcvO (s : Snd) (m : Msg) : List Msg := (rcvH s m).take (rcvK s m)

theorem mono_of {l l' : List MsS} {t : Int} (e : l'.map (·.m) = l.map (·.m)) (h : MonoF (numC t) l ms0) : MonoF (numC t) l' ms0 := fun a b hab hb hn => by
  have hlen := congrArg List.length e
  simp only [List.length_map] at hlen
  have key : ∀ k (h1 : k < l'.length) (h2 : k < l.length), (l'[k]).m = (l[k]).m := fun k h1 h2 => by
    have := List.getElem_of_eq e (by simpa using h1)
    simpa using this
  have ha' : a < l'.length := by omega
  have h2 := h a b hab (by omega)
  rw [at_k hb] at hn
  rw [at_k ha']
  rw [at_k (by omega), at_k (by omega)] at h2
  unfold numC at *
  rw [key b hb (by omega)] at hn
  rw [key a ha' (by omega)]
  exact h2 hn
theorem mod_at {l l' : List SnS} (e : l'.map SnS.mod = l.map SnS.mod) {i : Nat} (hi : i < l.length) : (l'.getD i sn0).mod = (l.getD i sn0).mod := by
  have hlen := congrArg List.length e
  simp only [List.length_map] at hlen
  rw [at_k hi, at_k (by omega)]
  have := List.getElem_of_eq e (by simpa using (show i < l'.length by omega))
  simpa using this
theorem insL_at {α : Type} (l : List α) (i : Nat) (hi : i ≤ l.length) (x d : α) : (insL l i x).getD i d = x := by
  rw [at_k (by rw [insL_len]; omega)]
  unfold insL
  rw [List.getElem_append_left (by simp; omega), List.getElem_append_right (by simp; omega)]
  simp
theorem insL_set {α : Type} (l : List α) (i : Nat) (hi : i ≤ l.length) (x y : α) : (insL l i x).set i y = insL l i y := by
  unfold insL
  have h : (l.take i).length = i := by rw [List.length_take]; omega
  rw [List.append_assoc, List.append_assoc, List.set_append_right _ _ (by omega), h, Nat.sub_self]
  rfl
theorem LegsIn.merge {b b1 : Nat} {w w' : World} {A : Option Addr} {l : List Lg} (h1 : LegsIn b1 w' A l) (h2 : LegsIn b w A l) : LegsIn b w' A l := fun hn => by
  obtain ⟨g, off, hA, _, hc⟩ := h1 hn
  obtain ⟨g2, off2, hA2, hg2, _⟩ := h2 hn
  rw [hA] at hA2
  injection hA2 with e
  injection e with e
  exact ⟨g, off, hA, by rw [e]; exact hg2, hc⟩
theorem NumsIn.merge {b b1 : Nat} {w w' : World} {A : Option Addr} {l : List Int} (h1 : NumsIn b1 w' A l) (h2 : NumsIn b w A l) : NumsIn b w' A l := fun hn => by
  obtain ⟨g, off, hA, _, hc⟩ := h1 hn
  obtain ⟨g2, off2, hA2, hg2, _⟩ := h2 hn
  rw [hA] at hA2
  injection hA2 with e
  injection e with e
  exact ⟨g, off, hA, by rw [e]; exact hg2, hc⟩
theorem MsgsIn.merge {b b1 : Nat} {w w' : World} {A : Option Addr} {l : List MsS} (h1 : MsgsIn b1 w' A l) (h2 : MsgsIn b w A l) : MsgsIn b w' A l := fun hn => by
  obtain ⟨g, off, hA, _, hc, hl⟩ := h1 hn
  obtain ⟨g2, off2, hA2, hg2, _, hl2⟩ := h2 hn
  rw [hA] at hA2
  injection hA2 with e
  injection e with e
  exact ⟨g, off, hA, by rw [e]; exact hg2, hc, fun x hx => ⟨(hl x hx).1.merge (hl2 x hx).1, (hl x hx).2.merge (hl2 x hx).2⟩⟩
theorem SndsIn.merge {b b1 : Nat} {w w' : World} {A : Option Addr} {l : List SnS} (h1 : SndsIn b1 w' A l) (h2 : SndsIn b w A l) : SndsIn b w' A l := fun hn => by
  obtain ⟨g, off, hA, _, hc, hl⟩ := h1 hn
  obtain ⟨g2, off2, hA2, hg2, _, hl2⟩ := h2 hn
  rw [hA] at hA2
  injection hA2 with e
  injection e with e
  exact ⟨g, off, hA, by rw [e]; exact hg2, hc, fun x hx => (hl x hx).merge (hl2 x hx)⟩
theorem gr_setRow (w : World) (g : Nat) (cs : Array Value) : w.grownBy (w.setRow g cs) (some g) :=
  ⟨rfl, rfl, rfl, by simp [World.setRow], fun k _ hne => setRow_other _ _ _ _ (by simpa using hne)⟩
/-- What Receive asks of an inbox in memory. -/
structure Ibx (b : Nat) (w : World) (win : Int) (A : Option Addr) (ss : List SnS) (m : Msg) : Prop where
  ins : SndsIn b w A ss
  len : ss.length ≤ 16
  few : ∀ s ∈ ss, FewM s.held ∧ s.held.length ≤ 100
  mono : MonoF (portC m.port) ss sn0
  monoH : ∀ s ∈ ss, MonoF (numC m.num) s.held ms0
  next : ∀ s ∈ ss, 0 ≤ s.next ∧ s.next ≤ 1000000
  win0 : 0 ≤ win
  win1 : win ≤ 1000

section
variable {ops : Array Oper} {rest : List Oper} {o : Oper} {a : Act} {W : World} {Q : Exit → Act → World → Prop}
end
theorem KeepTy.alloc' {t : TypeId} (w : World) (o : Obj) : KeepTy t w (w.alloc o) := KeepTy.below ((Below.refl _ _).alloc (Nat.le_refl _) _)
/-- One sender is laid into a row of senders. -/
theorem SndsOwn.insert {base : Nat} {W W' : World} {A A' : Option Addr} {c c' i : Nat} {ss : List SnS} {p : ByteArray} (h : SndsOwn base W A c ss)
    (hown : W'.ownsRow base 93 3 (.slice A' (ss.length + 1) c') (ss.length + 1) ((ss.flatMap SnS.cs).take (i * 3) ++ (sns0 p).cs ++ (ss.flatMap SnS.cs).drop (i * 3))) (hg : W.grownBy W' (Value.slice A ss.length c).ownBlock) :
    SndsOwn base W' A' c' (insL ss i (sns0 p)) := by
  have k0 : KeepTy 32 W W' := KeepTy.grow h.row (by decide) hg
  have k1 : KeepTy 26 W W' := KeepTy.grow h.row (by decide) hg
  have k2 : KeepTy 3 W W' := KeepTy.grow h.row (by decide) hg
  refine ⟨?_, fun s hs => ?_, ?_⟩
  · rw [insL_len, ← insL_flat SnS.cs 3 SnS.cs_len]; exact hown
  · rcases insL_mem hs with rfl | hs
    · exact MsgsOwn.nil _ _
    · exact (h.each s hs).step k0 k1 k2
  · unfold insL
    have h1 := h.apart
    rw [← List.take_append_drop i ss, List.pairwise_append] at h1
    rw [List.pairwise_append, List.pairwise_append]
    refine ⟨⟨h1.1, List.pairwise_singleton _ _, fun s _ t ht k _ e => ?_⟩, h1.2.1, fun s hs t ht => ?_⟩
    · rw [List.mem_singleton.1 ht] at e; cases e
    · rcases List.mem_append.1 hs with hs | hs
      · exact h1.2.2 s hs t ht
      · intro k hk
        rw [List.mem_singleton.1 hs] at hk; cases hk
end Go.Proofs.YtcjdjdganaokfaaDoor
