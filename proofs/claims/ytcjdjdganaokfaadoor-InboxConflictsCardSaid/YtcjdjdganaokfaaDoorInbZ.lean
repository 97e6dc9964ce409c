/-
  Messages of the reader in an inbox of two senders, and in one that hears the first alone: what is kept while the walk of InboxSenders goes on.
-/
import Derived.Test.YtcjdjdganaokfaaDoorInbW
import Derived.Test.YtcjdjdganaokfaaDoorMsgAD
import Derived.Test.YtcjdjdganaokfaaDoorInbV
import Derived.Test.YtcjdjdganaokfaaDoorInbY
namespace Go.Proofs.YtcjdjdganaokfaaDoor
open Go.RowKit

theorem fewPort_two (i : Nat) : fewPort i = ARN ∨ fewPort i = CPH := by
  unfold fewPort
  split
  · exact Or.inl rfl
  · exact Or.inr rfl
/-- A block turns in which no row lies. -/
theorem SndsIn.turn {b g : Nat} {W W' : World} {A : Option Addr} {ss : List SnS} (h : SndsIn b W A ss) (hg : SndsIn g W A ss) (hgr : W.grownBy W' (some g)) : SndsIn b W' A ss := (hg.grown hgr).merge h
theorem MsgsIn.turn {b g : Nat} {W W' : World} {A : Option Addr} {xs : List MsS} (h : MsgsIn b W A xs) (hg : MsgsIn g W A xs) (hgr : W.grownBy W' (some g)) : MsgsIn b W' A xs := (hg.grown hgr).merge h
theorem MsS.Lies.turn {b g : Nat} {W W' : World} {x : MsS} (h : x.Lies b W) (hg : x.Lies g W) (hgr : W.grownBy W' (some g)) : x.Lies b W' := ⟨(hg.1.grown hgr).merge h.1, (hg.2.grown hgr).merge h.2⟩
/-- The limits of a valid message. -/
theorem valid_few {m : Msg} (h : valE m = 0) : m.onw.length ≤ 1000 ∧ m.lst.length ≤ 1000 := by
  obtain ⟨_, _, h3, _⟩ := valE_ok.1 h
  unfold limB at h3
  simp at h3
  omega

/-- The blocks: the reader, the two boxes. -/
structure Blk3 (w0 : World) (S X Z : Nat) : Prop where
  s0 : w0.heap.size ≤ S
  sx : S < X
  xz : X < Z
def In3 (S X Z b : Nat) : Prop := b = S ∨ b = X ∨ b = Z
structure TwoS (w0 : World) (S X Z i : Nat) (a a2 c : Option Snd) (A : Option Addr) (n1 : Nat) (ss : List SnS) (A2 : Option Addr) (n2 : Nat) (ts : List SnS) (W : World) : Prop where
  box1 : W.heap[X]? = some (ibO 3 A ss.length n1)
  box2 : W.heap[Z]? = some (ibO 3 A2 ts.length n2)
  in1 : ∀ b, In3 S X Z b → SndsIn b W A ss
  in2 : ∀ b, In3 S X Z b → SndsIn b W A2 ts
  mod1 : ss.map SnS.mod = a.toList ++ c.toList
  mod2 : ts.map SnS.mod = a2.toList
  pa : ∀ u ∈ a.toList, u.port = ARN
  pa2 : ∀ u ∈ a2.toList, u.port = ARN
  pc : ∀ u ∈ c.toList, u.port = CPH
  ta : ∀ u ∈ a.toList, Tm i u
  ta2 : ∀ u ∈ a2.toList, Tm i u
  tc : ∀ u ∈ c.toList, Tm i u
  src : Src w0.heap.size S W
  bel : Below w0.heap.size w0 W
section
variable {w0 : World} {S X Z i : Nat} {a a2 c : Option Snd} {A A2 : Option Addr} {n1 n2 : Nat} {ss ts : List SnS} {W W' : World}
theorem TwoS.l1 (h : TwoS w0 S X Z i a a2 c A n1 ss A2 n2 ts W) : X < W.heap.size := (Array.getElem?_eq_some_iff.1 h.box1).1
theorem TwoS.l2 (h : TwoS w0 S X Z i a a2 c A n1 ss A2 n2 ts W) : Z < W.heap.size := (Array.getElem?_eq_some_iff.1 h.box2).1
theorem TwoS.lt (h : TwoS w0 S X Z i a a2 c A n1 ss A2 n2 ts W) : ∀ b, In3 S X Z b → b < W.heap.size := fun b hb => by
  rcases hb with rfl | rfl | rfl
  · exact h.src.lt
  · exact h.l1
  · exact h.l2
theorem TwoS.below (h : TwoS w0 S X Z i a a2 c A n1 ss A2 n2 ts W) (hb : Below W.heap.size W W') : TwoS w0 S X Z i a a2 c A n1 ss A2 n2 ts W' :=
  ⟨(hb.block _ h.l1).trans h.box1, (hb.block _ h.l2).trans h.box2, fun b hb' => (h.in1 b hb').keep hb, fun b hb' => (h.in2 b hb').keep hb, h.mod1, h.mod2, h.pa, h.pa2, h.pc, h.ta, h.ta2, h.tc, h.src.keep hb, onward h.bel hb⟩
theorem TwoS.reads (h : TwoS w0 S X Z i a a2 c A n1 ss A2 n2 ts W) (hbl : Blk3 w0 S X Z) (hs : Src w0.heap.size S W') (hg : W.grownBy W' (some S)) : TwoS w0 S X Z i a a2 c A n1 ss A2 n2 ts W' := by
  have h0 := hbl.s0
  have h1 := hbl.sx
  have h2 := hbl.xz
  exact ⟨(hg.block X h.l1 (by simp; omega)).trans h.box1, (hg.block Z h.l2 (by simp; omega)).trans h.box2, fun b hb' => (h.in1 b hb').turn (h.in1 S (Or.inl rfl)) hg, fun b hb' => (h.in2 b hb').turn (h.in2 S (Or.inl rfl)) hg,
    h.mod1, h.mod2, h.pa, h.pa2, h.pc, h.ta, h.ta2, h.tc, hs, below_reads h.bel hg h0 h.bel.size⟩
theorem src_turn (hs : Src w0.heap.size S W) (hb : Below w0.heap.size w0 W) {g : Nat} (hg : W.grownBy W' (some g)) (h0 : w0.heap.size ≤ g) (hne : S ≠ g) : Src w0.heap.size S W' := by
  obtain ⟨s1, ⟨A1, n1, c1, k1, e1, e2, e3, e4, e5⟩, s3, s4⟩ := hs
  have hbk : W'.heap[S]? = W.heap[S]? := hg.block S s4 (by simp; omega)
  refine ⟨s1, ⟨A1, n1, c1, k1, ?_, ?_, e3, e4, ?_⟩, ?_, Nat.lt_of_lt_of_le s4 hg.size⟩
  · rw [← e1]; simp [World.cell?, hbk]
  · rw [← e2]; simp [World.cell?, hbk]
  · refine e5.keep hb.size (fun i hi => hg.block i ?_ (by simp; omega))
    have := hb.size
    omega
  · rw [← s3]; simp [World.frozen?, hbk]
/-- The first inbox is replaced. -/
theorem TwoS.put1 (h : TwoS w0 S X Z i a a2 c A n1 ss A2 n2 ts W) (hbl : Blk3 w0 S X Z) {B : Option Addr} {n : Nat} {us : List SnS} {a' c' : Option Snd} (hin : ∀ b, In3 S X Z b → SndsIn b W B us) (hm : us.map SnS.mod = a'.toList ++ c'.toList)
    (pa : ∀ u ∈ a'.toList, u.port = ARN) (pc : ∀ u ∈ c'.toList, u.port = CPH) (ta : ∀ u ∈ a'.toList, Tm (i + 1) u) (tc : ∀ u ∈ c'.toList, Tm (i + 1) u) :
    TwoS w0 S X Z (i + 1) a' a2 c' B n us A2 n2 ts (W.setRow X #[.int .i64 3, .slice B us.length n]) := by
  have h0 := hbl.s0
  have h1 := hbl.sx
  have h2 := hbl.xz
  have hg := gr_setRow W X #[.int .i64 3, .slice B us.length n]
  exact ⟨setRow_heap W X _ _ _ _ h.box1, (hg.block Z h.l2 (by simp; omega)).trans h.box2, fun b hb' => (hin b hb').turn (hin X (Or.inr (Or.inl rfl))) hg, fun b hb' => (h.in2 b hb').turn (h.in2 X (Or.inr (Or.inl rfl))) hg,
    hm, h.mod2, pa, h.pa2, pc, ta, fun u hu => (h.ta2 u hu).mono (Nat.le_succ i), tc, src_turn h.src h.bel hg (by omega) (by omega), below_setRow h.bel (by omega) _⟩
/-- The second inbox is replaced. -/
theorem TwoS.put2 (h : TwoS w0 S X Z i a a2 c A n1 ss A2 n2 ts W) (hbl : Blk3 w0 S X Z) {B : Option Addr} {n : Nat} {us : List SnS} {a' : Option Snd} (hin : ∀ b, In3 S X Z b → SndsIn b W B us) (hm : us.map SnS.mod = a'.toList)
    (pa : ∀ u ∈ a'.toList, u.port = ARN) (ta : ∀ u ∈ a'.toList, Tm i u) :
    TwoS w0 S X Z i a a' c A n1 ss B n us (W.setRow Z #[.int .i64 3, .slice B us.length n]) := by
  have h0 := hbl.s0
  have h1 := hbl.sx
  have h2 := hbl.xz
  have hg := gr_setRow W Z #[.int .i64 3, .slice B us.length n]
  exact ⟨(hg.block X h.l1 (by simp; omega)).trans h.box1, setRow_heap W Z _ _ _ _ h.box2, fun b hb' => (h.in1 b hb').turn (h.in1 Z (Or.inr (Or.inr rfl))) hg, fun b hb' => (hin b hb').turn (hin Z (Or.inr (Or.inr rfl))) hg,
    h.mod1, hm, h.pa, pa, h.pc, h.ta, ta, h.tc, src_turn h.src h.bel hg (by omega) (by omega), below_setRow h.bel (by omega) _⟩
/-- Receive at the inbox of two senders. -/
theorem two_rcv (h : TwoS w0 S X Z i a a2 c A n1 ss A2 n2 ts W) (hi : i ≤ 90) (hK : Keys W) (x : MsS) (hx : x.Lies S W) (hv : valE x.m = 0) (hn : 1 ≤ x.m.num) (hp : x.m.port = ARN ∨ x.m.port = CPH) :
    Calls Tryd.prog 18 #[ibV 3 A ss.length n1, x.v] W fun e w' => ∃ (B : Option Addr) (n : Nat) (us : List SnS) (Ao : Option Addr) (co : Nat) (out : List MsS) (v : Int) (a' c' : Option Snd),
      e = .returned (.tuple #[ibV 3 B us.length n, .slice Ao out.length co, .int .i64 v, .int .i64 0]) ∧ us.map SnS.mod = a'.toList ++ c'.toList ∧
      (∀ u ∈ a'.toList, u.port = ARN) ∧ (∀ u ∈ c'.toList, u.port = CPH) ∧ (∀ u ∈ a'.toList, Tm (i + 1) u) ∧ (∀ u ∈ c'.toList, Tm (i + 1) u) ∧
      ((x.m.port = ARN ∧ a' = nxtS ARN a 3 x.m ∧ out.map (·.m) = outS ARN a 3 x.m) ∨ (x.m.port ≠ ARN ∧ a' = a)) ∧
      (∀ b', b' < W.heap.size → SndsIn b' w' B us) ∧ (∀ b', b' < W.heap.size → MsgsIn b' w' Ao out) ∧ Below W.heap.size W w' := by
  have hz := valid_few hv
  rcases hp with hp | hp
  · refine (rcv_mid S 3 A n1 ss ARN [] c.toList a x W (h.in1 S (Or.inl rfl)) h.mod1 (mid_ARN h.pa h.pc h.ta h.tc hi) hK h.src.lt hx hp hn hv hz.1 hz.2 (by decide) (by decide)).mono ?_
    rintro e w' ⟨B, n, us, Ao, co, out, rfl, e1, e2, e3, e4, e5⟩
    exact ⟨B, n, us, Ao, co, out, _, _, c, rfl, e1, nxt_port h.pa, h.pc, nxt_tm h.ta hz, fun u hu => (h.tc u hu).mono (Nat.le_succ i), Or.inl ⟨hp, rfl, e2⟩, e3, e4, e5⟩
  · have hne : x.m.port ≠ ARN := by rw [hp]; decide +kernel
    refine (rcv_mid S 3 A n1 ss CPH a.toList [] c x W (h.in1 S (Or.inl rfl)) (by rw [h.mod1, List.append_nil]) (mid_CPH h.pa h.pc h.ta h.tc hi) hK h.src.lt hx hp hn hv hz.1 hz.2 (by decide) (by decide)).mono ?_
    rintro e w' ⟨B, n, us, Ao, co, out, rfl, e1, e2, e3, e4, e5⟩
    rw [List.append_nil] at e1
    exact ⟨B, n, us, Ao, co, out, _, a, _, rfl, e1, h.pa, nxt_port h.pc, fun u hu => (h.ta u hu).mono (Nat.le_succ i), nxt_tm h.tc hz, Or.inr ⟨hne, rfl⟩, e3, e4, e5⟩
/-- Receive at the inbox that hears the first sender alone. -/
theorem alone_rcv (h : TwoS w0 S X Z i a a2 c A n1 ss A2 n2 ts W) (hi : i ≤ 90) (hK : Keys W) (x : MsS) (hx : x.Lies S W) (hv : valE x.m = 0) (hn : 1 ≤ x.m.num) (hp : x.m.port = ARN) :
    Calls Tryd.prog 18 #[ibV 3 A2 ts.length n2, x.v] W fun e w' => ∃ (B : Option Addr) (n : Nat) (us : List SnS) (Ao : Option Addr) (co : Nat) (out : List MsS) (v : Int),
      e = .returned (.tuple #[ibV 3 B us.length n, .slice Ao out.length co, .int .i64 v, .int .i64 0]) ∧ us.map SnS.mod = (nxtS ARN a2 3 x.m).toList ∧ out.map (·.m) = outS ARN a2 3 x.m ∧
      (∀ b', b' < W.heap.size → SndsIn b' w' B us) ∧ (∀ b', b' < W.heap.size → MsgsIn b' w' Ao out) ∧ Below W.heap.size W w' := by
  have hz := valid_few hv
  have hM : Mid ARN [] a2 (none : Option Snd).toList := mid_ARN h.pa2 (fun _ hu => by cases hu) h.ta2 (fun _ hu => by cases hu) hi
  refine (rcv_mid S 3 A2 n2 ts ARN [] [] a2 x W (h.in2 S (Or.inl rfl)) (by rw [h.mod2, List.append_nil]; rfl) hM hK h.src.lt hx hp hn hv hz.1 hz.2 (by decide) (by decide)).mono ?_
  rintro e w' ⟨B, n, us, Ao, co, out, rfl, e1, e2, e3, e4, e5⟩
  rw [List.append_nil] at e1
  exact ⟨B, n, us, Ao, co, out, _, rfl, e1, e2, e3, e4, e5⟩
end
end Go.Proofs.YtcjdjdganaokfaaDoor
