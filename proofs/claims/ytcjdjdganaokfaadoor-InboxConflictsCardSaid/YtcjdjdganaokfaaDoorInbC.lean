/-
  Inboxes in memory; copyInbox.
-/
import Derived.Test.YtcjdjdganaokfaaDoorInbB
namespace Go.Proofs.YtcjdjdganaokfaaDoor
open Go.RowKit

/-- A sender as the document has it. -/
structure Snd where
  port : ByteArray
  next : Int
  held : List Msg
def SnS.mod (s : SnS) : Snd := ⟨s.port, s.next, s.held.map (·.m)⟩
def SnS.blk (s : SnS) : Option Nat := (Value.slice s.A s.held.length s.c).ownBlock
/-- Few messages with few legs and passengers. -/
def FewM (l : List MsS) : Prop := l.length ≤ 1000 ∧ ∀ x ∈ l, x.m.onw.length ≤ 1000 ∧ x.m.lst.length ≤ 1000
theorem fewM_of {l l' : List MsS} (h : FewM l) (e : l'.map (·.m) = l.map (·.m)) : FewM l' := by
  refine ⟨by have := congrArg List.length e; simp at this; have := h.1; omega, fun x hx => ?_⟩
  have : x.m ∈ l.map (·.m) := by rw [← e]; exact List.mem_map.2 ⟨x, hx, rfl⟩
  obtain ⟨y, hy, he⟩ := List.mem_map.1 this
  rw [← he]
  exact h.2 y hy

/-- Some senders in a row of a call's own, their messages in rows apart. -/
structure SndsOwn (base : Nat) (w : World) (A : Option Addr) (c : Nat) (ss : List SnS) : Prop where
  row : w.ownsRow base 93 3 (.slice A ss.length c) ss.length (ss.flatMap SnS.cs)
  each : ∀ s ∈ ss, MsgsOwn base w s.A s.c s.held
  apart : ss.Pairwise fun s t => ∀ k, s.blk = some k → t.blk ≠ some k
theorem SndsOwn.nil (base : Nat) (w : World) : SndsOwn base w none 0 [] := ⟨World.ownsRow_nil _ _ _ _, (fun _ h => by cases h), List.Pairwise.nil⟩
theorem SndsOwn.step {base : Nat} {w w' : World} {A : Option Addr} {c : Nat} {ss : List SnS} (h : SndsOwn base w A c ss) (k : KeepTy 93 w w') (k0 : KeepTy 32 w w') (k1 : KeepTy 26 w w') (k2 : KeepTy 3 w w') : SndsOwn base w' A c ss :=
  ⟨owns_step h.row k, fun x hx => (h.each x hx).step k0 k1 k2, h.apart⟩
theorem SndsOwn.below {base : Nat} {w w' : World} {A : Option Addr} {c : Nat} {ss : List SnS} (h : SndsOwn base w A c ss) (hb : Below w.heap.size w w') : SndsOwn base w' A c ss := h.step (KeepTy.below hb) (KeepTy.below hb) (KeepTy.below hb) (KeepTy.below hb)
theorem SndsOwn.set {base x : Nat} {w : World} {cs : Array Value} {t : TypeId} {fz : Nat × Nat} {A : Option Addr} {c : Nat} {ss : List SnS} (h : SndsOwn base w A c ss) (hx : w.heap[x]? = some (.cells cs t fz)) (h0 : t ≠ 93) (h1 : t ≠ 32) (h2 : t ≠ 26) (h3 : t ≠ 3) (i : Nat) (v : Value) : SndsOwn base (w.setCell ⟨x, i, none⟩ v) A c ss :=
  h.step (KeepTy.set hx h0 i v) (KeepTy.set hx h1 i v) (KeepTy.set hx h2 i v) (KeepTy.set hx h3 i v)
theorem SndsOwn.base {base base' : Nat} {w : World} {A : Option Addr} {c : Nat} {ss : List SnS} (h : SndsOwn base w A c ss) (hb : base' ≤ base) : SndsOwn base' w A c ss := ⟨owns_base h.row hb, fun x hx => (h.each x hx).base hb, h.apart⟩
theorem SndsOwn.lt {base : Nat} {w : World} {A : Option Addr} {c : Nat} {ss : List SnS} (h : SndsOwn base w A c ss) : ∀ s ∈ ss, ∀ k, s.blk = some k → k < w.heap.size := fun s hs k hk => ((h.each s hs).row.lt k hk).2
theorem SndsOwn.ins {b base : Nat} {w : World} {A : Option Addr} {c : Nat} {ss : List SnS} (h : SndsOwn base w A c ss) (hb : b < base) : SndsIn b w A ss := fun hn => by
  obtain ⟨g, cur, hA, hbg, hg, _, _, hc⟩ := own_cells h.row hn
  exact ⟨g, 0, hA, by omega, fun j u hu => by rw [Nat.zero_add, Lib.cell_of_heap hg]; exact hc j u hu, fun x hx => (h.each x hx).ins hb⟩
theorem ss_one {xs : List SnS} : ∀ u ∈ xs.flatMap SnS.cs, u.oneCell' = true := fun u hu => by
  obtain ⟨x, _, hx⟩ := List.mem_flatMap.1 hu
  simp only [SnS.cs, List.mem_cons, List.not_mem_nil, or_false] at hx
  rcases hx with rfl | rfl | rfl <;> rfl
theorem SndsOwn.push {base : Nat} {W W' : World} {A : Option Addr} {c g cap : Nat} {ss : List SnS} (h : SndsOwn base W A c ss) {y : SnS} (hy : MsgsOwn base W y.A y.c y.held) (hap : ∀ s ∈ ss, ∀ k, s.blk = some k → y.blk ≠ some k)
    (hown : W'.ownsRow base 93 3 (.slice (some ⟨g, 0, none⟩) (ss.length + 1) cap) (ss.length + 1) (ss.flatMap SnS.cs ++ y.cs)) (hgrow : W.grownBy W' (Value.slice A ss.length c).ownBlock) :
    SndsOwn base W' (some ⟨g, 0, none⟩) cap (ss ++ [y]) := by
  have k0 : KeepTy 32 W W' := KeepTy.grow h.row (by decide) hgrow
  have k1 : KeepTy 26 W W' := KeepTy.grow h.row (by decide) hgrow
  have k2 : KeepTy 3 W W' := KeepTy.grow h.row (by decide) hgrow
  refine ⟨?_, fun x hx => ?_, ?_⟩
  · rw [List.length_append, List.length_singleton, List.flatMap_append]
    simpa using hown
  · rcases List.mem_append.1 hx with hx | hx
    · exact (h.each x hx).step k0 k1 k2
    · rw [List.mem_singleton.1 hx]; exact hy.step k0 k1 k2
  · rw [List.pairwise_append]
    refine ⟨h.apart, List.pairwise_singleton _ _, fun s hs t ht => ?_⟩
    rw [List.mem_singleton.1 ht]
    exact hap s hs

theorem infoI : (Tryd.prog.info? 46).map (·.size) = some 2 := by kernel_rfl
theorem undI : (match (Tryd.prog.underlying 46).getD .bool with | .struct _ | .array _ _ => true | _ => false) = true := by kernel_rfl
theorem undI' : Tryd.prog.underlying 46 = some ((Tryd.prog.underlying 46).getD .bool) := by kernel_rfl
section
variable {ops : Array Oper} {rest : List Oper} {o : Oper} {a : Act} {W : World} {Q : Exit → Act → World → Prop}
set_option maxRecDepth 100000 in
/-- A whole inbox is stored into the block that is the last one, or into any, and loaded. -/
theorem wpList_storeI_new {t : TypeId} {old : Array Value} {g : Nat} (hz : W.heap.size = g) (win : Int) (A : Option Addr) (n c : Nat) (hgd : o.guard = none) (x y : Operand) (ho : o.op = .store 46 x y)
    (hx : a.eval x = .pointer (some ⟨g, 0, none⟩)) (hy : a.eval y = ibV win A n c) (hold : old.size = 2)
    (h : wpList Tryd.prog ops Q rest (a.put o.dst undef) (W.alloc (.cells #[.int .i64 win, .slice A n c] t))) : wpList Tryd.prog ops Q (o :: rest) a (W.alloc (.cells old t)) := by
  subst hz
  exact wpList_store_row hgd _ x y ho W.heap.size _ hx hy t old (heap_alloc_new W _) infoI hold (by simp [Value.oneCell']) (by rw [World.setRow_alloc_new]; exact h)
set_option maxRecDepth 100000 in
theorem wpList_storeI {t : TypeId} {g : Nat} {old : Array Value} (hg : W.heap[g]? = some (.cells old t (0, 0))) (win : Int) (A : Option Addr) (n c : Nat) (hgd : o.guard = none) (x y : Operand) (ho : o.op = .store 46 x y)
    (hx : a.eval x = .pointer (some ⟨g, 0, none⟩)) (hy : a.eval y = ibV win A n c) (hold : old.size = 2)
    (h : wpList Tryd.prog ops Q rest (a.put o.dst undef) (W.setRow g #[.int .i64 win, .slice A n c])) : wpList Tryd.prog ops Q (o :: rest) a W :=
  wpList_store_row hgd _ x y ho g _ hx hy t old hg infoI hold (by simp [Value.oneCell']) h
set_option maxRecDepth 100000 in
theorem wpList_loadI {t : TypeId} {g : Nat} {fr : Nat × Nat} {win : Int} {A : Option Addr} {n c : Nat} (hg : W.heap[g]? = some (.cells #[.int .i64 win, .slice A n c] t fr)) (hgd : o.guard = none) (x : Operand) (ho : o.op = .load 46 x)
    (hx : a.eval x = .pointer (some ⟨g, 0, none⟩))
    (h : wpList Tryd.prog ops Q rest (a.put o.dst (ibV win A n c)) W) : wpList Tryd.prog ops Q (o :: rest) a W :=
  wpList_load_row hgd _ x ho g hx t _ fr _ hg undI' undI infoI h
set_option maxRecDepth 100000 in
/-- A whole sender is stored into the block that is the last one, and loaded from its block. -/
theorem wpList_storeS_new {t : TypeId} {old : Array Value} {g : Nat} (hz : W.heap.size = g) (s : SnS) (hgd : o.guard = none) (x y : Operand) (ho : o.op = .store 93 x y)
    (hx : a.eval x = .pointer (some ⟨g, 0, none⟩)) (hy : a.eval y = s.v) (hold : old.size = 3)
    (h : wpList Tryd.prog ops Q rest (a.put o.dst undef) (W.alloc (.cells s.arr t))) : wpList Tryd.prog ops Q (o :: rest) a (W.alloc (.cells old t)) := by
  subst hz
  exact wpList_store_row hgd _ x y ho W.heap.size s.arr hx hy t old (heap_alloc_new W _) infoS hold (by simp [Value.oneCell']) (by rw [World.setRow_alloc_new]; exact h)
set_option maxRecDepth 100000 in
theorem wpList_loadS {t : TypeId} {g : Nat} {fr : Nat × Nat} {s : SnS} (hg : W.heap[g]? = some (.cells s.arr t fr)) (hgd : o.guard = none) (x : Operand) (ho : o.op = .load 93 x)
    (hx : a.eval x = .pointer (some ⟨g, 0, none⟩))
    (h : wpList Tryd.prog ops Q rest (a.put o.dst s.v) W) : wpList Tryd.prog ops Q (o :: rest) a W :=
  wpList_load_row hgd _ x ho g hx t _ fr _ hg undS' undS infoS h
end

abbrev ibO (win : Int) (A : Option Addr) (n c : Nat) : Obj := .cells #[.int .i64 win, .slice A n c] 46
/-- copyInbox under way: the copy's box B, the result's box R. -/
structure Cpi (w0 : World) (base B R : Nat) (win : Int) (A : Option Addr) (c : Nat) (ss : List SnS) (W : World) : Prop where
  bel : Below w0.heap.size w0 W
  box : W.heap[B]? = some (ibO win A ss.length c)
  res : W.heap[R]? = some (ibO 0 none 0 0)
  own : SndsOwn base W A c ss
  lB : w0.heap.size ≤ B
  lR : w0.heap.size ≤ R
  hB : B < base
  hR : R < base
  ne : R ≠ B
  lb : w0.heap.size ≤ base
  sz : base ≤ W.heap.size
section
variable {w0 W W' : World} {base B R : Nat} {win : Int} {A : Option Addr} {c : Nat} {ss : List SnS}
theorem Cpi.below (h : Cpi w0 base B R win A c ss W) (hb : Below W.heap.size W W') : Cpi w0 base B R win A c ss W' := by
  have hs := h.sz
  have h1 := h.hB
  have h2 := h.hR
  have hz := hb.size
  exact ⟨onward h.bel hb, (hb.block _ (by omega)).trans h.box, (hb.block _ (by omega)).trans h.res, h.own.below hb, h.lB, h.lR, h1, h2, h.ne, h.lb, by omega⟩
/-- A cell of the copied sender's own box is written. -/
theorem Cpi.set (h : Cpi w0 base B R win A c ss W) {x : Nat} {cs : Array Value} (hx : W.heap[x]? = some (.cells cs 93 (0, 0))) (hlx : base ≤ x) (hne : ∀ k, (Value.slice A ss.length c).ownBlock = some k → x ≠ k) (i : Nat) (v : Value) : Cpi w0 base B R win A c ss (W.setCell ⟨x, i, none⟩ v) := by
  have hs := h.sz
  have h1 := h.hB
  have h2 := h.hR
  have hl := h.lb
  have hg := Lib.grownBy_setB (World.grownBy.refl W (some x)) i v
  have k0 : KeepTy 32 W (W.setCell ⟨x, i, none⟩ v) := KeepTy.set hx (by decide) i v
  have k1 : KeepTy 26 W (W.setCell ⟨x, i, none⟩ v) := KeepTy.set hx (by decide) i v
  have k2 : KeepTy 3 W (W.setCell ⟨x, i, none⟩ v) := KeepTy.set hx (by decide) i v
  refine ⟨h.bel.setCell (p := ⟨x, i, none⟩) (by simp only []; omega) v, (hg.block _ (by omega) (by simp; omega)).trans h.box, (hg.block _ (by omega) (by simp; omega)).trans h.res,
    ⟨h.own.row.kept hg ?_, fun s hs => (h.own.each s hs).step k0 k1 k2, h.own.apart⟩, h.lB, h.lR, h1, h2, h.ne, hl, Nat.le_trans hs hg.size⟩
  cases hk : (Value.slice A ss.length c).ownBlock with
  | none => exact Or.inl rfl
  | some k => exact Or.inr fun e => hne k hk (by injection e with e; exact e.symm)
theorem Cpi.push (h : Cpi w0 base B R win A c ss W) {g cap : Nat} {y : SnS} (hy : MsgsOwn base W y.A y.c y.held) (hap : ∀ s ∈ ss, ∀ k, s.blk = some k → y.blk ≠ some k)
    (hown : W'.ownsRow base 93 3 (.slice (some ⟨g, 0, none⟩) (ss.length + 1) cap) (ss.length + 1) (ss.flatMap SnS.cs ++ y.cs)) (hgrow : W.grownBy W' (Value.slice A ss.length c).ownBlock) :
    Cpi w0 base B R win (some ⟨g, 0, none⟩) cap (ss ++ [y]) (W'.setCell ⟨B, 1, none⟩ (.slice (some ⟨g, 0, none⟩) (ss.length + 1) cap)) := by
  have hs := h.sz
  have h1 := h.hB
  have h2 := h.hR
  have h3 := h.lB
  have hl := h.lb
  have hz := hgrow.size
  have hBb := (hgrow.block _ (by omega) (own_ne h.own.row h.box (by decide))).trans h.box
  have hRb := (hgrow.block _ (by omega) (own_ne h.own.row h.res (by decide))).trans h.res
  have hrow := fun k hk => (h.own.row.lt k hk).1
  have hP := (h.own.push hy hap hown hgrow).set hBb (by decide) (by decide) (by decide) (by decide) 1 (.slice (some ⟨g, 0, none⟩) (ss.length + 1) cap)
  refine ⟨(h.bel.grown hgrow h.bel.size (fun k e => by have := hrow k e; omega)).setCell (p := ⟨B, 1, none⟩) h3 _, ?_, ?_, hP, h3, h.lR, h1, h2, h.ne, hl, ?_⟩
  · rw [heap_setM _ hBb, List.length_append, List.length_singleton]; rfl
  · rw [Below.heap_setCell _ _ _ _ h.ne]; exact hRb
  · have : (W'.setCell ⟨B, 1, none⟩ (.slice (some ⟨g, 0, none⟩) (ss.length + 1) cap)).heap.size = W'.heap.size := by simp [World.setCell]
    omega
theorem Cpi.after (h : Cpi w0 base B R win A c ss W) (hgrow : W.grownBy W' (Value.slice A ss.length c).ownBlock) : W'.heap[B]? = some (ibO win A ss.length c) :=
  (hgrow.block _ (by have := h.sz; have := h.hB; omega) (own_ne h.own.row h.box (by decide))).trans h.box
end

set_option maxHeartbeats 4000000 in
set_option maxRecDepth 100000 in
theorem cpi_any (b : Nat) (win : Int) (A : Option Addr) (cap : Nat) (xs : List SnS) (w : World) (h : SndsIn b w A xs) (hz : xs.length ≤ 1000) (hx : ∀ x ∈ xs, FewM x.held) :
    Calls Tryd.prog 39 #[ibV win A xs.length cap] w
      fun e w' => ∃ A' c' ss, e = .returned (ibV win A' ss.length c') ∧ ss.map SnS.mod = xs.map SnS.mod ∧ SndsOwn w.heap.size w' A' c' ss ∧ Below w.heap.size w w' := by
  obtain ⟨i0, z0, hi0, hia, hib, hic, hid⟩ := info_size info_snd
  obtain ⟨W1, hW⟩ : ∃ W1 : World, ((w.alloc (ibO win A xs.length cap)).alloc (ibO 0 none 0 0)).alloc (ibO win none 0 0) = W1 := ⟨_, rfl⟩
  have b1 : Below w.heap.size w W1 := by rw [← hW]; exact below_new (below_new ((Below.refl _ _).alloc (Nat.le_refl _) _) _) _
  have hz1 : W1.heap.size = w.heap.size + 3 := by rw [← hW, World.size_alloc, World.size_alloc, World.size_alloc]
  have hX1 : W1.heap[w.heap.size]? = some (ibO win A xs.length cap) := by rw [← hW, Below.heap_alloc _ _ _ (by rw [World.size_alloc, World.size_alloc]; omega), Below.heap_alloc _ _ _ (by rw [World.size_alloc]; omega)]; exact heap_alloc_new w _
  have hR1 : W1.heap[w.heap.size + 1]? = some (ibO 0 none 0 0) := by
    rw [← hW, Below.heap_alloc _ _ _ (by rw [World.size_alloc, World.size_alloc]; omega)]
    have := heap_alloc_new (w.alloc (ibO win A xs.length cap)) (ibO 0 none 0 0)
    rwa [World.size_alloc] at this
  have hB1 : W1.heap[w.heap.size + 2]? = some (ibO win none 0 0) := by
    rw [← hW]
    have := heap_alloc_new ((w.alloc (ibO win A xs.length cap)).alloc (ibO 0 none 0 0)) (ibO win none 0 0)
    rwa [World.size_alloc, World.size_alloc] at this
  have hS : Cpi w (w.heap.size + 3) (w.heap.size + 2) (w.heap.size + 1) win none 0 [] W1 := ⟨b1, hB1, hR1, SndsOwn.nil _ _, by omega, by omega, by omega, by omega, by omega, by omega, by omega⟩
  have z0' : ((w.alloc (ibO win A xs.length cap)).alloc (ibO 0 none 0 0)).cell? ⟨w.heap.size, 0, none⟩ = some (.int .i64 win) := by
    have h0 : ((w.alloc (ibO win A xs.length cap)).alloc (ibO 0 none 0 0)).heap[w.heap.size]? = some (ibO win A xs.length cap) := by rw [Below.heap_alloc _ _ _ (by rw [World.size_alloc]; omega)]; exact heap_alloc_new w _
    rw [Lib.cell_of_heap h0]; rfl
  have z1' : W1.cell? ⟨w.heap.size, 1, none⟩ = some (.slice A xs.length cap) := by rw [Lib.cell_of_heap hX1]; rfl
  have H0 := hide hi0
  have HA := hide hia
  have HB := hide hib
  have HC := hide hic
  have HD := hide hid
  have HI := hide h
  have HX := hide hx
  have HS := hide hS
  clear h hx hi0 hia hib hic hid b1 hz1 hX1 hR1 hB1 hS
  go_enter Tryd.func39, Tryd.ntmps39
  go_wp2_with (refine wpList_storeI_new (g := w.heap.size + 1 + 1) (by rw [World.size_alloc, World.size_alloc]) win none 0 0 rfl _ _ rfl rfl rfl rfl ?_)
  go_loopw [12] (fun i wr => ∃ (k : Nat) (ss : List SnS) (A' : Option Addr) (c' : Nat), k ≤ xs.length ∧ i = .int .i64 k ∧ Hid (ss.map SnS.mod = (xs.take k).map SnS.mod) ∧ Hid (Cpi w (w.heap.size + 3) (w.heap.size + 2) (w.heap.size + 1) win A' c' ss wr)) (fun i _ => xs.length - (intOf i).toNat)
  case atStart => exact ⟨0, [], none, 0, Nat.zero_le _, rfl, Lib.hid rfl, HS⟩
  case round =>
    obtain ⟨k, ss, A', c', hk, rfl, HY, HP⟩ := hrel
    obtain ⟨wo, rfl⟩ : ∃ wo : World, wo = wr := ⟨_, rfl⟩
    have hyl : ss.length ≤ 1000 := by
      have e := congrArg List.length (unhide HY)
      simp at e
      omega
    by_cases hlt : k < xs.length
    · obtain ⟨g, off, rfl, hg, hc, hl⟩ := ((unhide HI).keep (unhide HP).bel).at hlt
      have hxm : xs.getD k sn0 ∈ xs := by rw [at_k hlt]; exact List.getElem_mem _
      have hfew := unhide HX _ hxm
      have HM := hide (show ∀ y : SnS, y.mod = (xs.getD k sn0).mod → (ss ++ [y]).map SnS.mod = (xs.take (k + 1)).map SnS.mod from fun y e => by
        rw [List.map_append, unhide HY, List.take_succ_eq_append_getElem hlt, List.map_append, at_k hlt] at *
        simp [e])
      have kl : (k : Int) < (xs.length : Int) := by omega
      generalize xs.getD k sn0 = x at *
      obtain ⟨port, next, xA, xc, held⟩ := x
      have hb5 := (Below.refl wo.heap.size wo).alloc (Nat.le_refl _) (.cells (SnS.arr ⟨port, next, xA, xc, held⟩) 93)
      have hx5 := heap_alloc_new wo (.cells (SnS.arr ⟨port, next, xA, xc, held⟩) 93)
      have c2 := Lib.cell_of_heap hx5 2
      have HP5 := hide ((unhide HP).below hb5)
      have HL5 := hide (hl.keep hb5)
      have HX5 := hide hx5
      have HF := hide hfew
      have HCell := hide hc
      have hsw := (unhide HP).sz
      have HSW := hide hsw
      have HLT := hide (unhide HP).own.lt
      have HRW := hide (unhide HP).own.row.lt
      clear hb5 hx5 hc hl hxm hfew hsw
      go_wp2_with (first
        | (refine wpList_load_at rfl _ _ rfl g (off + k * 3) rfl _ _ (unhide HCell) undS' undS infoS ?_)
        | (refine wpList_storeS_new (g := wo.heap.size) rfl ⟨port, next, xA, xc, held⟩ rfl _ _ rfl rfl rfl rfl ?_))
      refine (cms_any b xA xc held _ (unhide HL5) (unhide HF).1 (unhide HF).2).mono ?_
      rintro e w1 ⟨A2, d2, ys, rfl, hym, hyo, hb1⟩
      rw [World.size_alloc] at hyo
      have hb1' := hb1
      rw [World.size_alloc] at hb1'
      have hx1 := (hb1'.block _ (by omega)).trans (unhide HX5)
      have hP1 := (unhide HP5).below hb1
      have s2 := Lib.cell_of_heap hx1 2
      have t2 := Lib.frozen_of_heap hx1 2
      obtain ⟨W6, hW6⟩ : ∃ W6 : World, w1.setCell ⟨wo.heap.size, 2, none⟩ (.slice A2 ys.length d2) = W6 := ⟨_, rfl⟩
      have hP6 : Cpi w (w.heap.size + 3) (w.heap.size + 2) (w.heap.size + 1) win A' c' ss W6 := by
        rw [← hW6]
        exact hP1.set hx1 (unhide HSW) (fun k hk e => by have := (unhide HRW k hk).2; omega) 2 _
      have hx6 : W6.heap[wo.heap.size]? = some (.cells (SnS.arr ⟨port, next, A2, d2, ys⟩) 93 (0, 0)) := by rw [← hW6, heap_setM _ hx1]; rfl
      have hyo6 : MsgsOwn (wo.heap.size + 1) W6 A2 d2 ys := by
        rw [← hW6]
        exact hyo.step (KeepTy.set hx1 (by decide) _ _) (KeepTy.set hx1 (by decide) _ _) (KeepTy.set hx1 (by decide) _ _)
      have y1 := Lib.cell_of_heap hP6.box 1
      have hb7 := (Below.refl W6.heap.size W6).alloc (Nat.le_refl _) (.cells (SnS.arr ⟨port, next, A2, d2, ys⟩) 93)
      have HX6 := hide hx6
      have HN := hide (World.news_of_block (heap_alloc_new W6 (.cells (SnS.arr ⟨port, next, A2, d2, ys⟩) 93)))
      have HP7 := hide (hP6.below hb7)
      have HY7 := hide ((hyo6.below hb7).base (show w.heap.size + 3 ≤ wo.heap.size + 1 by have := unhide HSW; omega))
      have HAP := hide (show ∀ s ∈ ss, ∀ k, s.blk = some k → (SnS.blk ⟨port, next, A2, d2, ys⟩) ≠ some k from fun s hs k hk e => by
        have h1 := unhide HLT s hs k hk
        have h2 := (hyo6.row.lt k e).1
        omega)
      have HMd := hide (show (SnS.mod ⟨port, next, A2, d2, ys⟩) = (SnS.mod ⟨port, next, xA, xc, held⟩) by unfold SnS.mod; rw [hym])
      have HZ7 := hide (show w.heap.size + 3 ≤ (W6.alloc (.cells (SnS.arr ⟨port, next, A2, d2, ys⟩) 93)).heap.size from (hP6.below hb7).sz)
      clear hym hyo hb1 hb1' hx1 hP1 hP6 hx6 hyo6 hb7 HP5 HL5 HX5 HF HCell
      go_wp2_with (first
        | (refine wpList_loadS (unhide HX6) rfl _ rfl rfl ?_)
        | (refine wpList_build1 rfl 44 93 _ rfl (SnS.arr ⟨port, next, A2, d2, ys⟩) i0 z0 3 Tryd.underlying44 (unhide H0) (unhide HA) (unhide HB) (by decide) (by decide) (unhide HD) rfl rfl ?_)
        | (at_builtin; refine wpList_append_lies _ rfl _ _ 44 rfl (w.heap.size + 3) 93 i0 z0 3 48 Tryd.underlying44 (unhide H0) (unhide HA) (unhide HB) (unhide HC) (unhide HD) (by decide) _ _ _ rfl (unhide HP7).own.row ⟨W6.heap.size, 0, none⟩ 1 1 (SnS.cs ⟨port, next, A2, d2, ys⟩) rfl rfl (unhide HN) (fun u hu => ss_one (xs := [⟨port, next, A2, d2, ys⟩]) u (by simpa using hu)) (by decide) (by unfold maxLen; omega) (by omega) (unhide HZ7) _ rfl ?_))
      intro q cap' w8 hown hgrow hat hlt8
      have hBb := (unhide HP7).after hgrow
      have q1 := Lib.cell_of_heap hBb 1
      have r1 := Lib.frozen_of_heap hBb 1
      have HP8 := hide ((unhide HP7).push (y := ⟨port, next, A2, d2, ys⟩) (unhide HY7) (unhide HAP) hown hgrow)
      clear hown hgrow hat hlt8 hBb
      go_wp2
      go_roundw
      case rel => exact ⟨k + 1, ss ++ [⟨port, next, A2, d2, ys⟩], some ⟨q, 0, none⟩, cap', by omega, by go_num, Lib.hid (unhide HM _ (unhide HMd)), HP8⟩
      case measure => simp [intOf]; omega
    · have kl : ¬ (k : Int) < (xs.length : Int) := by omega
      have HE := hide (show ss.map SnS.mod = xs.map SnS.mod by rw [unhide HY, List.take_of_length_le (by omega)])
      have HP0 := hide (unhide HP).res
      have HP1 := hide (unhide HP).box
      go_wp2_with (first
        | (refine wpList_storeI (unhide HP0) win A' ss.length c' rfl _ _ rfl rfl rfl rfl ?_)
        | (refine wpList_loadI (unhide HP1) rfl _ rfl rfl ?_))
      have hR := setRow_heap wo (w.heap.size + 1) _ #[.int .i64 win, .slice A' ss.length c'] _ _ (unhide HP0)
      have hO := (unhide HP).own
      exact bodyPost_ret (results_cell_row rfl _ _ (w.heap.size + 1) _ _ _ _ rfl hR undI' undI infoI) rfl ⟨A', c', ss, rfl, unhide HE,
        (hO.step (KeepTy.setRow (unhide HP0) (by decide)) (KeepTy.setRow (unhide HP0) (by decide)) (KeepTy.setRow (unhide HP0) (by decide)) (KeepTy.setRow (unhide HP0) (by decide))).base (by omega), below_setRow (unhide HP).bel (by omega) _⟩
end Go.Proofs.YtcjdjdganaokfaaDoor
