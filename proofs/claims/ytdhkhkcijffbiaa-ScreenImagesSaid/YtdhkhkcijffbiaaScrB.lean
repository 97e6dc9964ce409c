/-
  Screening (layer 15): a screening under way; contract of the document's own Expire.
-/
import Derived.Test.YtdhkhkcijffbiaaScrA
import Derived.Lib.BufferOwn
import Derived.Laws.OwnMore
import Derived.Deep.AppendLies
import Derived.Deep.CutRange
namespace Go.Proofs.Ytdhkhkcijffbiaa
open Go.RowKit

theorem linfo_ck : (Try.prog.info? 42).map (fun i => (i.zero, i.size, i.bytes)) = some (some (.agg #[.int .i64 0, .int .i64 0, .int .i64 0, .int .i64 0, .int .i64 0]), 5, 40) := by kernel_rfl
theorem below_row {B g : Nat} {a w : World} (h : Below B a w) (hg : B ≤ g) (cs : Array Value) : Below B a (w.setRow g cs) := by
  refine ⟨h.os, h.tape, h.output, ?_, fun k hk => ?_⟩
  · simpa [World.setRow] using h.size
  · rw [setRow_other w g k cs (by omega)]; exact h.block k hk
theorem ck_one {l : List Ck} : ∀ u ∈ l.flatMap Ck.cs, u.oneCell' = true := fun u hu => by
  obtain ⟨x, _, hx⟩ := List.mem_flatMap.1 hu
  simp only [Ck.cs, List.mem_cons, List.not_mem_nil, or_false] at hx
  rcases hx with rfl | rfl | rfl | rfl | rfl <;> rfl
theorem infoS : (Try.prog.info? 28).map (·.size) = some 6 := by kernel_rfl
theorem scr_all (s : Scr) (A : Option Addr) (c : Nat) : (scrA s A c).all (·.oneCell') = true := by simp [Value.oneCell']
theorem ck_all (x : Ck) : x.arr.all (·.oneCell') = true := by simp [Value.oneCell']
theorem ck_cells (l : List Ck) : (l.flatMap Ck.cs).length = l.length * 5 := flatK_len Ck.cs 5 Ck.cs_len l
theorem expG_snoc (s : Scr) (now : Int) (x : Ck) : ∀ (l : List Ck) (n : Int), expG s now (l ++ [x]) n = ((expG s now l n).1 ++ [(expC s now x (expG s now l n).2).1], (expC s now x (expG s now l n).2).2)
  | [], _ => rfl
  | y :: l, n => by
    show ((expC s now y n).1 :: (expG s now (l ++ [x]) (expC s now y n).2).1, (expG s now (l ++ [x]) (expC s now y n).2).2) = _
    rw [expG_snoc s now x l]
    rfl
/-- The screening after some of its checks have been looked at. -/
def outS (s : Scr) (now : Int) (k : Nat) : Scr := { s with next := (expG s now (s.l.take k) s.next).2, l := (expG s now (s.l.take k) s.next).1 }
theorem outS_len {s : Scr} {now : Int} {k : Nat} (hk : k ≤ s.l.length) : (outS s now k).l.length = k := by
  show (expG s now (s.l.take k) s.next).1.length = k
  rw [expG_len, List.length_take]; omega
theorem outS_step {s : Scr} {now : Int} {k : Nat} {x : Ck} (hk : k < s.l.length) (hx : s.l.getD k ck0 = x) :
    outS s now (k + 1) = { outS s now k with next := (expC s now x (outS s now k).next).2, l := (outS s now k).l ++ [(expC s now x (outS s now k).next).1] } := by
  have e : s.l.take (k + 1) = s.l.take k ++ [x] := by rw [List.take_succ_eq_append_getElem hk, ← hx, at_k hk]
  unfold outS
  rw [e, expG_snoc]
theorem outS_all (s : Scr) (now : Int) : outS s now s.l.length = expT s now := by unfold outS expT; rw [List.take_length]
theorem outS_next {s : Scr} {now : Int} {k : Nat} (hv : ValS s) (hk : k ≤ s.l.length) : s.next ≤ (outS s now k).next ∧ (outS s now k).next ≤ 1048617 := by
  have h := expG_next s now (s.l.take k) s.next
  have h1 := hv.nx
  have h2 := hv.len
  rw [List.length_take] at h
  show s.next ≤ (expG s now (s.l.take k) s.next).2 ∧ (expG s now (s.l.take k) s.next).2 ≤ 1048617
  omega

theorem results_row2' {P : Program} {fn : Func} {p q : Tmp} {ty : TypeId} (h : fn.results = #[.cell p ty, .tmp q]) (tmps : Array Value) (w : World) (g : Nat) (t : TypeId) (cs : Array Value) (fr : Nat × Nat) (d : TypeDesc) (v : Value)
    (hp : tmps.getD p undef = .pointer (some ⟨g, 0, none⟩)) (hq : tmps.getD q undef = v) (hg : w.heap[g]? = some (.cells cs t fr))
    (hu : P.underlying ty = some d) (hd : (match d with | .struct _ | .array _ _ => true | _ => false) = true) (hi : (P.info? ty).map (·.size) = some cs.size) :
    (results fn tmps).run P w = .ok (.tuple #[.agg cs, v]) w := by
  have hp' : tmps[p]?.getD undef = .pointer (some ⟨g, 0, none⟩) := by simpa using hp
  have hq' : tmps[q]?.getD undef = v := by simpa using hq
  simp [results, h, hp', hq', asAddr, run_loadVar_row w g t ty cs fr d hg hu hd hi]
/-- What a call that returns a screening gives. -/
def GivesS (w : World) (o : Scr) (er : Int) (e : Ending) (w' : World) : Prop :=
  ∃ A c, e = .returned (.tuple #[scrV o A c, .int .i64 er]) ∧ (∀ b, b < w.heap.size → CksIn b w' A o.l) ∧ Below w.heap.size w w' ∧ o.l.length ≤ c
/-- A screening under way: its box ob, its checks in a row of the call's own. -/
structure OutS (B ob : Nat) (o : Scr) (A : Option Addr) (c : Nat) (W : World) : Prop where
  box : W.heap[ob]? = some (scrO o A c)
  own : W.ownsRow B 42 5 (.slice A o.l.length c) o.l.length (o.l.flatMap Ck.cs)
  lt : ob < B
section
variable {B ob c : Nat} {o : Scr} {A : Option Addr} {W W' w1 : World}
theorem OutS.below (h : OutS B ob o A c W) (hb : Below W.heap.size W W') : OutS B ob o A c W' := ⟨heap_below h.box hb, owns_later h.own hb, h.lt⟩
theorem OutS.next (h : OutS B ob o A c W) (n : Int) : OutS B ob { o with next := n } A c (W.setCell ⟨ob, 4, none⟩ (.int .i64 n)) :=
  ⟨heap_set h.box _, h.own.kept (grown_set _ _ _ _) (.inr (fun e => by have := (h.own.lt _ e).1; have := h.lt; omega)), h.lt⟩
theorem OutS.push {q cap : Nat} {x : Ck} (h : OutS B ob o A c W) (hown : w1.ownsRow B 42 5 (.slice (some ⟨q, 0, none⟩) (o.l.length + 1) cap) (o.l.length + 1) (o.l.flatMap Ck.cs ++ x.cs))
    (hgrow : W.grownBy w1 (Value.slice A o.l.length c).ownBlock) :
    w1.heap[ob]? = some (scrO o A c) ∧ OutS B ob { o with l := o.l ++ [x] } (some ⟨q, 0, none⟩) cap (w1.setCell ⟨ob, 5, none⟩ (.slice (some ⟨q, 0, none⟩) (o.l.length + 1) cap)) := by
  have hlt := (Array.getElem?_eq_some_iff.1 h.box).1
  have h1 : w1.heap[ob]? = some (scrO o A c) := (hgrow.block _ hlt (fun e => by have := (h.own.lt _ e.symm).1; have := h.lt; omega)).trans h.box
  refine ⟨h1, ?_, ?_, h.lt⟩
  · rw [heap_set h1, show (scrO { o with l := o.l ++ [x] } (some ⟨q, 0, none⟩) cap) = .cells #[.int .i64 o.l0, .int .i64 o.l1, .int .i64 o.l2, .int .i64 o.l3, .int .i64 o.next, .slice (some ⟨q, 0, none⟩) (o.l ++ [x]).length cap] 28 from rfl, List.length_append]
    rfl
  · have hk := hown.kept (grown_set w1 ob 5 (.slice (some ⟨q, 0, none⟩) (o.l.length + 1) cap)) (.inr (fun e => by have := (hown.lt _ e).1; have := h.lt; omega))
    show World.ownsRow _ B 42 5 (.slice (some ⟨q, 0, none⟩) (o.l ++ [x]).length cap) (o.l ++ [x]).length ((o.l ++ [x]).flatMap Ck.cs)
    rw [List.flatMap_append, List.length_append]
    simpa using hk
theorem OutS.gives {b : Nat} (h : OutS B ob o A c W) (hb : b < B) : CksIn b W A o.l := RowIn.own h.own (.inl hb)
end
/-- A screening that is built while another one is read: its box, the result's box, the box of the one under way. -/
structure ExS (w : World) (s : Scr) (A : Option Addr) (c : Nat) (o : Scr) (A' : Option Addr) (c' : Nat) (W : World) : Prop where
  bel : Below w.heap.size w W
  bx : W.heap[w.heap.size]? = some (scrO s A c)
  rs : W.heap[w.heap.size + 1]? = some (scrO scr0 none 0)
  out : OutS (w.heap.size + 3) (w.heap.size + 2) o A' c' W
section
variable {w W W' w1 : World} {s o : Scr} {A A' : Option Addr} {c c' : Nat}
theorem ExS.below (h : ExS w s A c o A' c' W) (hb : Below W.heap.size W W') : ExS w s A c o A' c' W' := ⟨onward h.bel hb, heap_below h.bx hb, heap_below h.rs hb, h.out.below hb⟩
theorem ExS.next (h : ExS w s A c o A' c' W) (n : Int) : ExS w s A c { o with next := n } A' c' (W.setCell ⟨w.heap.size + 2, 4, none⟩ (.int .i64 n)) :=
  ⟨h.bel.setCell (p := ⟨w.heap.size + 2, 4, none⟩) (by simp) _, heap_setOther h.bx (by omega) _, heap_setOther h.rs (by omega) _, h.out.next n⟩
theorem ExS.push {q cap : Nat} {x : Ck} (h : ExS w s A c o A' c' W) (hown : w1.ownsRow (w.heap.size + 3) 42 5 (.slice (some ⟨q, 0, none⟩) (o.l.length + 1) cap) (o.l.length + 1) (o.l.flatMap Ck.cs ++ x.cs))
    (hgrow : W.grownBy w1 (Value.slice A' o.l.length c').ownBlock) :
    w1.heap[w.heap.size + 2]? = some (scrO o A' c') ∧ ExS w s A c { o with l := o.l ++ [x] } (some ⟨q, 0, none⟩) cap (w1.setCell ⟨w.heap.size + 2, 5, none⟩ (.slice (some ⟨q, 0, none⟩) (o.l.length + 1) cap)) := by
  obtain ⟨k1, k2⟩ := h.out.push hown hgrow
  have hl : ∀ k, (Value.slice A' o.l.length c').ownBlock = some k → w.heap.size + 3 ≤ k := fun k e => (h.out.own.lt _ e).1
  refine ⟨k1, (h.bel.grown hgrow h.bel.size (fun k e => by have := hl k e; omega)).setCell (p := ⟨w.heap.size + 2, 5, none⟩) (by simp) _, heap_setOther ?_ (by omega) _, heap_setOther ?_ (by omega) _, k2⟩
  · exact (hgrow.block _ (Array.getElem?_eq_some_iff.1 h.bx).1 (fun e => by have := hl _ e.symm; omega)).trans h.bx
  · exact (hgrow.block _ (Array.getElem?_eq_some_iff.1 h.rs).1 (fun e => by have := hl _ e.symm; omega)).trans h.rs
theorem ExS.gap (h : ExS w s A c o A' c' W) : w.heap.size + 3 ≤ W.heap.size := by
  have := (Array.getElem?_eq_some_iff.1 h.out.box).1
  omega
end

set_option maxRecDepth 100000 in
set_option maxHeartbeats 4000000 in
theorem rexpire_any (b : Nat) (s : Scr) (now : Int) (A : Option Addr) (c : Nat) (w : World) (hv : ValS s) (h : CksIn b w A s.l) :
    Calls Try.prog 18 #[scrV s A c, .int .i64 now] w (GivesS w (expS s now) (expE s now)) := by
  by_cases hr : 0 ≤ now ∧ now ≤ 1048576
  · obtain ⟨n0, n1⟩ := hr
    have HV := hide hv
    have HL := hide h
    have HR := hide (show ∀ n, (expG s now s.l s.next).2 = n → expE s now = if 1048577 < n then 2 else 0 from fun n e => by unfold expE; rw [if_pos ⟨n0, n1⟩, e])
    have HZ := hide hv.len
    obtain ⟨i0, hi, hz0, hz1, hz2⟩ := info_parts linfo_ck
    have HI0 := hide hi
    have HZ0 := hide hz0
    have HZ1 := hide hz1
    have HZ2 := hide hz2
    have HE0 : Hid (ExS w s A c (outS s now 0) none 0 (((w.alloc (scrO s A c)).alloc (scrO scr0 none 0)).alloc (scrO (outS s now 0) none 0))) := by
      refine ⟨below_new (below_new (below_new (Below.refl _ _) _) _) _, ?_, ?_, ?_, ?_, ?_⟩
      · exact heap_later (heap_later (heap_alloc_new w _) _) _
      · have := heap_later (heap_alloc_new (w.alloc (scrO s A c)) (scrO scr0 none 0)) (scrO (outS s now 0) none 0)
        rwa [World.size_alloc] at this
      · have := heap_alloc_new ((w.alloc (scrO s A c)).alloc (scrO scr0 none 0)) (scrO (outS s now 0) none 0)
        rwa [World.size_alloc, World.size_alloc] at this
      · exact World.ownsRow_nil _ _ _ _
      · omega
    clear hv h hi hz0 hz1 hz2
    go_enter Try.func18, Try.ntmps18
    go_wp2
    go_loopw [7] (fun i wr => ∃ (k : Nat) (A' : Option Addr) (c' : Nat), k ≤ s.l.length ∧ i = .int .i64 k ∧ Hid (ExS w s A c (outS s now k) A' c' wr)) (fun i _ => s.l.length - (intOf i).toNat)
    case atStart => exact ⟨0, none, 0, Nat.zero_le _, rfl, HE0⟩
    case round =>
      obtain ⟨k, A', c', hk, rfl, HP⟩ := hrel
      obtain ⟨wo, rfl⟩ : ∃ wo : World, wo = wr := ⟨_, rfl⟩
      clear HE0
      have q5 : wo.cell? ⟨w.heap.size, 5, none⟩ = some (.slice A s.l.length c) := by rw [Lib.cell_of_heap (unhide HP).bx]; rfl
      by_cases hlt : k < s.l.length
      · have kl : (k : Int) < (s.l.length : Int) := by omega
        have k0 : (0 : Int) ≤ (k : Int) := by omega
        have hz40 := unhide HZ
        obtain ⟨g, off, rfl, _, hc⟩ := ck_at ((unhide HL).keep (unhide HP).bel) hlt
        have HOK := hide ((unhide HV).ok _ (getD_mem hlt))
        have HST := hide (fun y (hy : s.l.getD k ck0 = y) => outS_step (now := now) hlt hy)
        have HNX := hide (outS_next (now := now) (unhide HV) (Nat.le_of_lt hlt))
        have HLN := hide (outS_len (s := s) (now := now) (Nat.le_of_lt hlt))
        generalize hx : s.l.getD k ck0 = x at hc HOK
        have HX := hide hx
        have HC := hide hc
        clear hc hx
        have HS1 := hide (unhide HST x (unhide HX))
        clear HST HX
        obtain ⟨o, ho⟩ : ∃ o, outS s now k = o := ⟨_, rfl⟩
        rw [ho] at HS1 HNX HLN
        have HPo := hide (show ExS w s (some ⟨g, off, none⟩) c o A' c' wo by rw [← ho]; exact unhide HP)
        have HS1 := hide (unhide HS1)
        clear ho
        have q0 : wo.cell? ⟨w.heap.size, 0, none⟩ = some (.int .i64 s.l0) := by rw [Lib.cell_of_heap (unhide HP).bx]; rfl
        have q1 : wo.cell? ⟨w.heap.size, 1, none⟩ = some (.int .i64 s.l1) := by rw [Lib.cell_of_heap (unhide HP).bx]; rfl
        have q2 : wo.cell? ⟨w.heap.size, 2, none⟩ = some (.int .i64 s.l2) := by rw [Lib.cell_of_heap (unhide HP).bx]; rfl
        have q3 : wo.cell? ⟨w.heap.size, 3, none⟩ = some (.int .i64 s.l3) := by rw [Lib.cell_of_heap (unhide HP).bx]; rfl
        have q4 : wo.cell? ⟨w.heap.size, 4, none⟩ = some (.int .i64 s.next) := by rw [Lib.cell_of_heap (unhide HP).bx]; rfl
        have HLT3 := hide ((unhide HPo).gap)
        have b1 := (Below.refl wo.heap.size wo).alloc (Nat.le_refl _) (.cells x.arr 42)
        have HB1 := hide b1
        have HXB := hide (heap_alloc_new wo (.cells x.arr 42))
        have hbx1 := heap_below (unhide HP).bx b1
        have p0 : (wo.alloc (.cells x.arr 42)).cell? ⟨w.heap.size, 0, none⟩ = some (.int .i64 s.l0) := by rw [Lib.cell_of_heap hbx1]; rfl
        have p1 : (wo.alloc (.cells x.arr 42)).cell? ⟨w.heap.size, 1, none⟩ = some (.int .i64 s.l1) := by rw [Lib.cell_of_heap hbx1]; rfl
        have p2 : (wo.alloc (.cells x.arr 42)).cell? ⟨w.heap.size, 2, none⟩ = some (.int .i64 s.l2) := by rw [Lib.cell_of_heap hbx1]; rfl
        have p3 : (wo.alloc (.cells x.arr 42)).cell? ⟨w.heap.size, 3, none⟩ = some (.int .i64 s.l3) := by rw [Lib.cell_of_heap hbx1]; rfl
        have p4 : (wo.alloc (.cells x.arr 42)).cell? ⟨w.heap.size, 4, none⟩ = some (.int .i64 s.next) := by rw [Lib.cell_of_heap hbx1]; rfl
        have p5 : (wo.alloc (.cells x.arr 42)).cell? ⟨w.heap.size, 5, none⟩ = some (.slice (some ⟨g, off, none⟩) s.l.length c) := by rw [Lib.cell_of_heap hbx1]; rfl
        clear b1 hbx1 q0 q1 q2 q3 q4
        by_cases hp : x.st = 1
        · have tp : (x.st == 1) = true := by rw [beq_iff_eq]; exact hp
          have HDL := hide (deadline_any s x (some ⟨g, off, none⟩) c (wo.alloc (.cells x.arr 42)) (unhide HV) (unhide HOK))
          by_cases hd : dlF s x < now
          · obtain ⟨y, n', hy⟩ : ∃ y n', failF x o.next now = (y, n') := ⟨_, _, rfl⟩
            have HE := hide (show outS s now (k + 1) = { o with next := n', l := o.l ++ [y] } by
              rw [unhide HS1, show expC s now x o.next = failF x o.next now by unfold expC; rw [if_pos ⟨hp, hd⟩], hy])
            clear hp
            have HY := hide hy
            have HFA := hide (fun W => rfail_any x o.next now W ((unhide HOK).up (unhide HNX).1) (unhide HNX).2)
            clear hy
            go_upto_region 10 with (first
              | (refine wpList_load_at rfl _ _ rfl g (off + k * 5) rfl x.arr _ (unhide HC) Try.underlying42 rfl infoC ?_)
              | (go_at_call 39; refine (unhide HDL).mono ?_; rintro e w2 ⟨rfl, hb2⟩; have HB2 := hide (onward (unhide HB1) hb2); have HXB2 := hide (heap_below (unhide HXB) hb2); have r4 : w2.cell? ⟨w.heap.size + 2, 4, none⟩ = some (.int .i64 o.next) := (by rw [Lib.cell_of_heap ((unhide HPo).below (unhide HB2)).out.box]; rfl); clear hb2)
              | (refine wpList_load_row rfl _ _ rfl wo.heap.size rfl 42 x.arr (0, 0) _ (unhide HXB2) Try.underlying42 rfl infoC ?_)
              | (go_at_call 40; refine (unhide HFA w2).mono ?_; rw [unhide HY]; rintro e w3 ⟨rfl, hb3⟩; have HB3 := hide (onward (unhide HB2) hb3); have HXB3 := hide (heap_below (unhide HXB2) hb3); have HB4 := hide (below_row (unhide HB3) (Nat.le_refl _) y.arr); have f4 := Lib.frozen_of_heap ((unhide HPo).below (unhide HB4)).out.box 4; have c4 : (w3.setRow wo.heap.size y.arr).cell? ⟨w.heap.size + 2, 4, none⟩ = some (.int .i64 o.next) := (by rw [Lib.cell_of_heap ((unhide HPo).below (unhide HB4)).out.box]; rfl); clear hb3)
              | (refine wpList_store_row rfl _ _ _ rfl wo.heap.size y.arr rfl rfl 42 x.arr (unhide HXB3) infoC rfl (ck_all y) ?_))
            have HP5 := hide (((unhide HPo).below (unhide HB4)).next n')
            have HX5 := hide (heap_setOther (q := w.heap.size + 2) (i := 4) (setRow_heap w3 wo.heap.size x.arr y.arr _ _ (unhide HXB3)) (by have := unhide HLT3; omega) (.int .i64 n'))
            clear f4 c4 HB4 HXB3 HB3
            generalize (w3.setRow wo.heap.size y.arr).setCell ⟨w.heap.size + 2, 4, none⟩ (.int .i64 n') = W5 at *
            have r5 : W5.cell? ⟨w.heap.size + 2, 5, none⟩ = some (.slice A' o.l.length c') := by rw [Lib.cell_of_heap (unhide HP5).out.box]; rfl
            have hn6 := (Below.refl W5.heap.size W5).alloc (Nat.le_refl _) (.cells y.arr 42)
            have HO6 := hide (show (W5.alloc (.cells y.arr 42)).ownsRow (w.heap.size + 3) 42 5 (.slice A' o.l.length c') o.l.length (o.l.flatMap Ck.cs) from ((unhide HP5).below hn6).out.own)
            have HN6 := hide (World.news_of_block (heap_alloc_new W5 (.cells y.arr 42)))
            have hz6 : w.heap.size + 3 ≤ (W5.alloc (.cells y.arr 42)).heap.size := Nat.le_trans (unhide HP5).gap hn6.size
            have hl6 : o.l.length ≤ 40 := by have := unhide HLN; omega
            have HP6 := hide ((unhide HP5).below hn6)
            clear hn6
            go_wp2_with (first
              | (refine wpList_load_row rfl _ _ rfl wo.heap.size rfl 42 y.arr (0, 0) _ (unhide HX5) Try.underlying42 rfl infoC ?_)
              | (at_builtin; refine wpList_append_lies _ rfl _ _ 26 rfl (w.heap.size + 3) 42 i0 (.agg #[.int .i64 0, .int .i64 0, .int .i64 0, .int .i64 0, .int .i64 0]) 5 40 Try.underlying26 (unhide HI0) (unhide HZ0) (unhide HZ1) (unhide HZ2) rfl (by decide) _ _ _ rfl (unhide HO6) ⟨W5.heap.size, 0, none⟩ 1 1 y.cs rfl rfl (unhide HN6) (fun u hu => ck_one (l := [y]) u (by simpa using hu)) (by decide) (by unfold maxLen; omega) (by omega) hz6 _ rfl ?_))
            intro q cap' w7 hown hgrow hat hlt7
            obtain ⟨k7, hp7⟩ := (unhide HP6).push (x := y) hown hgrow
            have HP7 := hide hp7
            have f5 := Lib.frozen_of_heap k7 5
            have c5 : w7.cell? ⟨w.heap.size + 2, 5, none⟩ = some (.slice A' o.l.length c') := by rw [Lib.cell_of_heap k7]; rfl
            clear hown hgrow hat hlt7 hp7 k7
            go_wp2
            go_roundw
            case rel => exact ⟨k + 1, some ⟨q, 0, none⟩, cap', by omega, by go_num, by rw [unhide HE]; exact HP7⟩
            case measure => simp [intOf]; omega
          · have HE := hide (show outS s now (k + 1) = { o with next := o.next, l := o.l ++ [x] } by
              rw [unhide HS1, show expC s now x o.next = (x, o.next) by unfold expC; rw [if_neg (fun h => hd h.2)]])
            clear hp
            go_upto_region 10 with (first
              | (refine wpList_load_at rfl _ _ rfl g (off + k * 5) rfl x.arr _ (unhide HC) Try.underlying42 rfl infoC ?_)
              | (go_at_call 39; refine (unhide HDL).mono ?_; rintro e W5 ⟨rfl, hb2⟩; have HB2 := hide (onward (unhide HB1) hb2); have HX5 := hide (heap_below (unhide HXB) hb2); have HP5 := hide ((unhide HPo).below (unhide HB2)); clear hb2))
            have r5 : W5.cell? ⟨w.heap.size + 2, 5, none⟩ = some (.slice A' o.l.length c') := by rw [Lib.cell_of_heap (unhide HP5).out.box]; rfl
            have hn6 := (Below.refl W5.heap.size W5).alloc (Nat.le_refl _) (.cells x.arr 42)
            have HO6 := hide (show (W5.alloc (.cells x.arr 42)).ownsRow (w.heap.size + 3) 42 5 (.slice A' o.l.length c') o.l.length (o.l.flatMap Ck.cs) from ((unhide HP5).below hn6).out.own)
            have HN6 := hide (World.news_of_block (heap_alloc_new W5 (.cells x.arr 42)))
            have hz6 : w.heap.size + 3 ≤ (W5.alloc (.cells x.arr 42)).heap.size := Nat.le_trans (unhide HP5).gap hn6.size
            have hl6 : o.l.length ≤ 40 := by have := unhide HLN; omega
            have HP6 := hide ((unhide HP5).below hn6)
            clear hn6
            go_wp2_with (first
              | (refine wpList_load_row rfl _ _ rfl wo.heap.size rfl 42 x.arr (0, 0) _ (unhide HX5) Try.underlying42 rfl infoC ?_)
              | (at_builtin; refine wpList_append_lies _ rfl _ _ 26 rfl (w.heap.size + 3) 42 i0 (.agg #[.int .i64 0, .int .i64 0, .int .i64 0, .int .i64 0, .int .i64 0]) 5 40 Try.underlying26 (unhide HI0) (unhide HZ0) (unhide HZ1) (unhide HZ2) rfl (by decide) _ _ _ rfl (unhide HO6) ⟨W5.heap.size, 0, none⟩ 1 1 x.cs rfl rfl (unhide HN6) (fun u hu => ck_one (l := [x]) u (by simpa using hu)) (by decide) (by unfold maxLen; omega) (by omega) hz6 _ rfl ?_))
            intro q cap' w7 hown hgrow hat hlt7
            obtain ⟨k7, hp7⟩ := (unhide HP6).push (x := x) hown hgrow
            have HP7 := hide hp7
            have f5 := Lib.frozen_of_heap k7 5
            have c5 : w7.cell? ⟨w.heap.size + 2, 5, none⟩ = some (.slice A' o.l.length c') := by rw [Lib.cell_of_heap k7]; rfl
            clear hown hgrow hat hlt7 hp7 k7
            go_wp2
            go_roundw
            case rel => exact ⟨k + 1, some ⟨q, 0, none⟩, cap', by omega, by go_num, by rw [unhide HE]; exact HP7⟩
            case measure => simp [intOf]; omega
        · have tp : (x.st == 1) = false := by rw [beq_eq_false_iff_ne]; exact hp
          have HE := hide (show outS s now (k + 1) = { o with next := o.next, l := o.l ++ [x] } by
            rw [unhide HS1, show expC s now x o.next = (x, o.next) by unfold expC; rw [if_neg (fun h => hp h.1)]])
          clear hp
          go_upto_region 10 with (refine wpList_load_at rfl _ _ rfl g (off + k * 5) rfl x.arr _ (unhide HC) Try.underlying42 rfl infoC ?_)
          have HP5 := hide ((unhide HPo).below (unhide HB1))
          have HX5 := HXB
          clear HB1 HXB p0 p1 p2 p3 p4 p5
          generalize wo.alloc (.cells x.arr 42) = W5 at *
          have r5 : W5.cell? ⟨w.heap.size + 2, 5, none⟩ = some (.slice A' o.l.length c') := by rw [Lib.cell_of_heap (unhide HP5).out.box]; rfl
          have hn6 := (Below.refl W5.heap.size W5).alloc (Nat.le_refl _) (.cells x.arr 42)
          have HO6 := hide (show (W5.alloc (.cells x.arr 42)).ownsRow (w.heap.size + 3) 42 5 (.slice A' o.l.length c') o.l.length (o.l.flatMap Ck.cs) from ((unhide HP5).below hn6).out.own)
          have HN6 := hide (World.news_of_block (heap_alloc_new W5 (.cells x.arr 42)))
          have hz6 : w.heap.size + 3 ≤ (W5.alloc (.cells x.arr 42)).heap.size := Nat.le_trans (unhide HP5).gap hn6.size
          have hl6 : o.l.length ≤ 40 := by have := unhide HLN; omega
          have HP6 := hide ((unhide HP5).below hn6)
          clear hn6
          go_wp2_with (first
            | (refine wpList_load_row rfl _ _ rfl wo.heap.size rfl 42 x.arr (0, 0) _ (unhide HX5) Try.underlying42 rfl infoC ?_)
            | (at_builtin; refine wpList_append_lies _ rfl _ _ 26 rfl (w.heap.size + 3) 42 i0 (.agg #[.int .i64 0, .int .i64 0, .int .i64 0, .int .i64 0, .int .i64 0]) 5 40 Try.underlying26 (unhide HI0) (unhide HZ0) (unhide HZ1) (unhide HZ2) rfl (by decide) _ _ _ rfl (unhide HO6) ⟨W5.heap.size, 0, none⟩ 1 1 x.cs rfl rfl (unhide HN6) (fun u hu => ck_one (l := [x]) u (by simpa using hu)) (by decide) (by unfold maxLen; omega) (by omega) hz6 _ rfl ?_))
          intro q cap' w7 hown hgrow hat hlt7
          obtain ⟨k7, hp7⟩ := (unhide HP6).push (x := x) hown hgrow
          have HP7 := hide hp7
          have f5 := Lib.frozen_of_heap k7 5
          have c5 : w7.cell? ⟨w.heap.size + 2, 5, none⟩ = some (.slice A' o.l.length c') := by rw [Lib.cell_of_heap k7]; rfl
          clear hown hgrow hat hlt7 hp7 k7
          go_wp2
          go_roundw
          case rel => exact ⟨k + 1, some ⟨q, 0, none⟩, cap', by omega, by go_num, by rw [unhide HE]; exact HP7⟩
          case measure => simp [intOf]; omega
      · have kl : ¬ (k : Int) < (s.l.length : Int) := by omega
        obtain rfl : k = s.l.length := by omega
        have HT := hide (outS_all s now)
        have HP' := hide (show ExS w s A c (expT s now) A' c' wo by rw [← unhide HT]; exact unhide HP)
        have HN := hide (unhide HR (expT s now).next rfl)
        have HX2 := hide (show expE s now = 0 → expS s now = expT s now from fun e => by unfold expS; rw [if_pos e])
        have HX3 := hide (show expE s now ≠ 0 → expS s now = scr0 from fun e => by unfold expS; rw [if_neg e])
        clear HT HP
        obtain ⟨o, ho⟩ : ∃ o, expT s now = o := ⟨_, rfl⟩
        rw [ho] at HP' HN HX2
        have HP2 := hide (unhide HP')
        have HN := hide (unhide HN)
        have HX2 := hide (unhide HX2)
        clear HP' ho
        have r1 : wo.cell? ⟨w.heap.size + 2, 4, none⟩ = some (.int .i64 o.next) := by rw [Lib.cell_of_heap (unhide HP2).out.box]; rfl
        by_cases hn : 1048577 < o.next
        · have HE := hide (show expE s now = 2 by rw [unhide HN, if_pos hn])
          have f0 := fun i => Lib.frozen_of_heap (unhide HP2).rs i
          go_wp2_with (refine wpList_store_row rfl _ _ _ rfl (w.heap.size + 1) (scrA scr0 none 0) rfl rfl 28 _ (unhide HP2).rs infoS rfl (scr_all _ _ _) ?_)
          refine bodyPost_ret (v := .tuple #[scrV scr0 none 0, .int .i64 2]) (results_row2' rfl _ _ (w.heap.size + 1) _ _ _ _ _ rfl rfl (setRow_heap wo (w.heap.size + 1) _ (scrA scr0 none 0) _ _ (unhide HP2).rs) Try.underlying28 rfl infoS) rfl ?_
          rw [unhide HE, unhide HX3 (by rw [unhide HE]; decide)]
          exact ⟨none, 0, rfl, fun _ _ => RowIn.nil, below_row (unhide HP2).bel (by omega) _, Nat.le_refl _⟩
        · have HE := hide (show expE s now = 0 by rw [unhide HN, if_neg hn])
          have HOB := hide (unhide HP2).out.box
          go_wp2_with (first
            | (refine wpList_load_row rfl _ _ rfl (w.heap.size + 2) rfl 28 (scrA o A' c') (0, 0) _ (unhide HOB) Try.underlying28 rfl infoS ?_)
            | (refine wpList_store_row rfl _ _ _ rfl (w.heap.size + 1) (scrA o A' c') rfl rfl 28 _ (unhide HP2).rs infoS rfl (scr_all _ _ _) ?_))
          refine bodyPost_ret (v := .tuple #[scrV o A' c', .int .i64 0]) (results_row2' rfl _ _ (w.heap.size + 1) _ _ _ _ _ rfl rfl (setRow_heap wo (w.heap.size + 1) _ (scrA o A' c') _ _ (unhide HP2).rs) Try.underlying28 rfl infoS) rfl ?_
          rw [unhide HE, unhide HX2 (unhide HE)]
          have hgr : wo.grownBy (wo.setRow (w.heap.size + 1) (scrA o A' c')) (some (w.heap.size + 1)) := ⟨rfl, rfl, rfl, by simp [World.setRow], fun k hk hne => setRow_other _ _ _ _ (by simpa using hne)⟩
          exact ⟨A', c', rfl, fun b' hb' => RowIn.own ((unhide HP2).out.own.kept hgr (.inr (fun e => by have := ((unhide HP2).out.own.lt _ e).1; omega))) (.inl (by omega)), below_row (unhide HP2).bel (by omega) _, own_cap (unhide HP2).out.own⟩
  · have HE := hide (show expE s now = 1 by unfold expE; rw [if_neg hr])
    have HX3 := hide (show expS s now = scr0 by unfold expS; rw [unhide HE]; rfl)
    clear hv h
    by_cases h0 : now < 0
    · clear hr
      go_enter Try.func18, Try.ntmps18
      go_wp2
      refine bodyPost_ret (v := .tuple #[scrV scr0 none 0, .int .i64 1]) (by simp [results, Try.results18, go_sem, scr0]) rfl ?_
      rw [unhide HE, unhide HX3]
      exact ⟨none, 0, rfl, fun _ _ => RowIn.nil, below_new (below_new (Below.refl _ _) _) _, Nat.le_refl _⟩
    · have h1 : 1048576 < now := by omega
      clear hr
      go_enter Try.func18, Try.ntmps18
      go_wp2
      refine bodyPost_ret (v := .tuple #[scrV scr0 none 0, .int .i64 1]) (by simp [results, Try.results18, go_sem, scr0]) rfl ?_
      rw [unhide HE, unhide HX3]
      exact ⟨none, 0, rfl, fun _ _ => RowIn.nil, below_new (below_new (Below.refl _ _) _) _, Nat.le_refl _⟩
end Go.Proofs.Ytdhkhkcijffbiaa
