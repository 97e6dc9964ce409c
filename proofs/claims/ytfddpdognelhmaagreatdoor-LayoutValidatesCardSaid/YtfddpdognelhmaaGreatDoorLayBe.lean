/-
  What the document's own Bent keeps while it copies a layout and changes one thing.
-/
import Derived.Test.YtfddpdognelhmaaGreatDoorCpyG
import Derived.Test.YtfddpdognelhmaaGreatDoorLayGd
import Derived.Deep.Slices
import Derived.Deep.AppendSrc
import Derived.ArgAppend
import Derived.Test.YtfddpdognelhmaaGreatDoorAnyZ
namespace Go.Proofs.YtfddpdognelhmaaGreatDoor
open Go.RowKit

theorem rd_bel {B b : Nat} {w w1 w2 : World} (h : Rd w B b w1) (hb : Below w1.heap.size w1 w2) : Rd w B b w2 := ⟨h.src.keep hb, Lib.grownBy_trans h.gr (grown_below hb _)⟩
/-- Exits of a node: some numbers, in a row that may be written. -/
def ExR (H : Nat) (w : World) (P : Option Addr) (n c : Nat) : Prop :=
  n ≤ c ∧ c ≤ maxLen ∧ (0 < c → ∃ (g : Nat) (cs : Array Value), P = some ⟨g, 0, none⟩ ∧ H ≤ g ∧ w.heap[g]? = some (.cells cs 3 (0, 0)) ∧ c ≤ cs.size ∧ ∀ i, i < n → ∃ z : Int, cs[i]? = some (.int .i64 z))
/-- Rows of numbers stay rows of numbers. -/
def KpI (w w' : World) : Prop := ∀ (g : Nat) (cs : Array Value), w.heap[g]? = some (.cells cs 3 (0, 0)) → ∃ cs' : Array Value, w'.heap[g]? = some (.cells cs' 3 (0, 0)) ∧ cs'.size = cs.size ∧ ∀ (i : Nat) (z : Int), cs[i]? = some (.int .i64 z) → ∃ z' : Int, cs'[i]? = some (.int .i64 z')
theorem KpI.of {w w' : World} (h : KeepTy 3 w w') : KpI w w' := fun _ cs hg => ⟨cs, h _ _ _ hg, rfl, fun _ z hz => ⟨z, hz⟩⟩
theorem KpI.trans {w w' w2 : World} (h : KpI w w') (k : KpI w' w2) : KpI w w2 := fun g cs hg => by
  obtain ⟨cs', h1, h2, h3⟩ := h g cs hg
  obtain ⟨cs2, k1, k2, k3⟩ := k g cs' h1
  exact ⟨cs2, k1, k2.trans h2, fun i z hz => by
    obtain ⟨z', hz'⟩ := h3 i z hz
    exact k3 i z' hz'⟩
theorem KpI.set {w : World} {g i : Nat} {cs : Array Value} (h : w.heap[g]? = some (.cells cs 3 (0, 0))) (z : Int) : KpI w (w.setCell ⟨g, i, none⟩ (.int .i64 z)) := fun k ks hk => by
  by_cases e : k = g
  · subst e
    rw [h] at hk
    obtain rfl : cs = ks := by injection hk with hk; injection hk
    refine ⟨_, heap_set h _, Array.size_setIfInBounds .., fun j y hj => ?_⟩
    rw [Array.getElem?_setIfInBounds]
    split
    · split
      · exact ⟨z, rfl⟩
      · rename_i h1 h2
        subst h1
        rw [Array.getElem?_eq_none (by omega)] at hj
        cases hj
    · exact ⟨y, hj⟩
  · exact ⟨ks, heap_setOther hk e _, rfl, fun _ y hy => ⟨y, hy⟩⟩
theorem ExR.step {H : Nat} {w w1 : World} {P : Option Addr} {n c : Nat} (h : ExR H w P n c) (k : KpI w w1) : ExR H w1 P n c := by
  refine ⟨h.1, h.2.1, fun hc => ?_⟩
  obtain ⟨g, cs, hP, hH, hg, hs, hx⟩ := h.2.2 hc
  obtain ⟨cs', h1, h2, h3⟩ := k g cs hg
  exact ⟨g, cs', hP, hH, h1, by omega, fun i hi => by
    obtain ⟨z, hz⟩ := hx i hi
    exact h3 i z hz⟩
theorem ExR.own {H n c : Nat} {w : World} {A : Option Addr} {l : List Int} (h : w.ownsRow H 3 1 (.slice A n c) n (l.map (Value.int .i64))) : ExR H w A n c := by
  have hl : l.length = n := by have := h.1; simpa using this
  rcases h.2 with ⟨e, h0⟩ | ⟨g, cap, cur, hv, hbg, hg, h4, h5, h6, h7⟩
  · injection e with e1 e2 e3
    subst e3; subst e2
    exact ⟨Nat.le_refl 0, Nat.zero_le _, fun h => absurd h (Nat.lt_irrefl 0)⟩
  · injection hv with e1 e2 e3
    subst e3
    refine ⟨h4, h5, fun _ => ⟨g, cur, e1, hbg, hg, by omega, fun i hi => ?_⟩⟩
    have : (cur.toList.take (n * 1))[i]? = some (.int .i64 (l.getD i 0)) := by
      rw [h7, List.getElem?_map, List.getElem?_eq_getElem (by omega), at_k (by omega)]; rfl
    rw [List.getElem?_take] at this
    split at this
    · exact ⟨_, by rw [← Array.getElem?_toList]; exact this⟩
    · cases this
theorem ExR.nil (H : Nat) (w : World) : ExR H w none 0 0 := ⟨Nat.le_refl 0, Nat.zero_le _, fun h => absurd h (Nat.lt_irrefl 0)⟩
/-- The numbers that stand there. -/
theorem ExR.nums {H b : Nat} {w : World} {P : Option Addr} {n c : Nat} (h : ExR H w P n c) (hb : b < H) : ∃ l : List Int, l.length = n ∧ NumsIn b w P l := by
  by_cases hn : n = 0
  · exact ⟨[], hn.symm, fun h => absurd h (Nat.lt_irrefl 0)⟩
  · obtain ⟨g, cs, hP, hH, hg, hs, hx⟩ := h.2.2 (by have := h.1; omega)
    obtain ⟨f, hF⟩ := Deep.choose_lt (α := Int) (p := fun i z => cs[i]? = some (.int .i64 z)) hx
    refine ⟨(List.range n).map f, by simp, fun _ => ⟨g, 0, hP, by omega, fun i hi => ?_⟩⟩
    have hi' : i < n := by simpa using hi
    rw [Nat.zero_add, Lib.cell_of_heap hg, List.getD_eq_getElem?_getD, List.getElem?_map, List.getElem?_range hi']
    exact hF i hi'

theorem dvsV_len (ds : List Dv) : (dvsV ds).length = ds.length * 3 := by
  unfold dvsV
  induction ds with
  | nil => rfl
  | cons d ds ih => rw [List.flatMap_cons, List.length_append, ih, List.length_cons, show (dvC d).length = 3 from rfl]; omega
/-- What Bent keeps. -/
structure BnS (B b : Nat) (w : World) (q : Nat) (A : Option Addr) (c : Nat) (us : List NdS) (D : Option Addr) (d : Nat) (ds : List Dv) (wr : World) : Prop where
  rd : Rd w B b wr
  box : wr.heap[q]? = some (.cells #[.slice A us.length c, .slice D ds.length d] 25 (0, 0))
  nrow : wr.ownsRow w.heap.size 45 5 (.slice A us.length c) us.length (ndsV us)
  drow : wr.ownsRow w.heap.size 57 3 (.slice D ds.length d) ds.length (dvsV ds)
  lies : ∀ u ∈ us, ExR w.heap.size wr u.P u.x.exits.length u.c
  qlt : w.heap.size ≤ q
  blt : b < w.heap.size
section
variable {B b : Nat} {w : World} {q : Nat} {A : Option Addr} {c : Nat} {us : List NdS} {D : Option Addr} {d : Nat} {ds : List Dv} {wr w1 : World}
theorem BnS.lt (h : BnS B b w q A c us D d ds wr) : q < wr.heap.size := (Array.getElem?_eq_some_iff.1 h.box).1
theorem BnS.below (h : BnS B b w q A c us D d ds wr) (hb : Below wr.heap.size wr w1) : BnS B b w q A c us D d ds w1 :=
  ⟨rd_bel h.rd hb, heap_below h.box hb, owns_later h.nrow hb, owns_later h.drow hb, fun u hu => (h.lies u hu).step (KpI.of (KeepTy.below hb)), h.qlt, h.blt⟩
theorem ExR.grown {H n c : Nat} {w w1 : World} {P : Option Addr} (h : ExR H w P n c) (hg : w.grownBy w1 (some b)) (hb : b < H) : ExR H w1 P n c := by
  refine ⟨h.1, h.2.1, fun hc => ?_⟩
  obtain ⟨g, cs, hP, hH, hgg, hs, hx⟩ := h.2.2 hc
  exact ⟨g, cs, hP, hH, (hg.block g (Array.getElem?_eq_some_iff.1 hgg).1 (by simp; omega)).trans hgg, hs, hx⟩
theorem BnS.read (h : BnS B b w q A c us D d ds wr) (hs : Src B b w1) (hg : wr.grownBy w1 (some b)) : BnS B b w q A c us D d ds w1 := by
  have h1 := h.qlt
  have h2 := h.blt
  exact ⟨h.rd.step hs hg, (hg.block _ h.lt (by simp; omega)).trans h.box, owns_reads h.nrow hg h2, owns_reads h.drow hg h2, fun u hu => (h.lies u hu).grown hg h2, h1, h2⟩
/-- The reader behind a row that grew. -/
theorem Rd.row {w0 w w1 : World} (h : Rd w0 B b w) (hb : b < w0.heap.size) {row : Option Nat} (hblk : ∀ k, row = some k → w0.heap.size ≤ k) (hg : w.grownBy w1 row) : Rd w0 B b w1 :=
  ⟨h.src.grown hg (fun k e => by have := hblk k e; omega), ⟨hg.os.trans h.gr.os, hg.tape.trans h.gr.tape, hg.output.trans h.gr.output, Nat.le_trans h.gr.size hg.size, fun k hk hne => (hg.block k (Nat.lt_of_lt_of_le hk h.gr.size) (fun e => by have := hblk k e.symm; omega)).trans (h.gr.block k hk hne)⟩⟩
theorem BnS.pushN {A' : Option Addr} {c' : Nat} {u : NdS} (h : BnS B b w q A c us D d ds wr) (hu : ExR w.heap.size wr u.P u.x.exits.length u.c)
    (hg : wr.grownBy w1 (Value.slice A us.length c).ownBlock) (hr : w1.ownsRow w.heap.size 45 5 (.slice A' (us.length + 1) c') (us.length + 1) (ndsV us ++ u.cs)) :
    BnS B b w q A' c' (us ++ [u]) D d ds (w1.setCell ⟨q, 0, none⟩ (.slice A' (us.length + 1) c')) := by
  have hq := h.qlt
  have hl := h.lt
  have hb := h.blt
  have hblk : ∀ k, (Value.slice A us.length c).ownBlock = some k → w.heap.size ≤ k := fun k e => (h.nrow.lt k e).1
  have hk := KeepTy.grow (t' := 3) h.nrow (by decide) hg
  have hbx1 : w1.heap[q]? = some (.cells #[.slice A us.length c, .slice D ds.length d] 25 (0, 0)) := (hg.block _ hl (own_ne h.nrow h.box (by decide))).trans h.box
  have hks := keepTy_set (t' := 3) (i := 0) hbx1 (by decide) (.slice A' (us.length + 1) c')
  have hlen : (us ++ [u]).length = us.length + 1 := by rw [List.length_append]; rfl
  refine ⟨(h.rd.row hb hblk hg).new (grown_set w1 q 0 _) hq hb, ?_, ?_, own_setOther (h.drow.kept hg (own_apart h.drow h.nrow (by decide))) ?_, fun z hz => ?_, hq, hb⟩
  · rw [hlen]; exact heap_set hbx1 _
  · rw [hlen]
    have : ndsV (us ++ [u]) = ndsV us ++ u.cs := by unfold ndsV; rw [List.flatMap_append]; simp
    rw [this]
    exact own_setOther hr (.inr fun e => own_ne hr hbx1 (by decide) e.symm)
  · exact .inr fun e => own_ne (h.drow.kept hg (own_apart h.drow h.nrow (by decide))) hbx1 (by decide) e.symm
  · rcases List.mem_append.1 hz with hz | hz
    · exact (h.lies z hz).step ((KpI.of hk).trans (KpI.of hks))
    · rw [List.mem_singleton.1 hz]; exact hu.step ((KpI.of hk).trans (KpI.of hks))
theorem BnS.pushD {D' : Option Addr} {d' : Nat} {u : Dv} (h : BnS B b w q A c us D d ds wr)
    (hg : wr.grownBy w1 (Value.slice D ds.length d).ownBlock) (hr : w1.ownsRow w.heap.size 57 3 (.slice D' (ds.length + 1) d') (ds.length + 1) (dvsV ds ++ dvC u)) :
    BnS B b w q A c us D' d' (ds ++ [u]) (w1.setCell ⟨q, 1, none⟩ (.slice D' (ds.length + 1) d')) := by
  have hq := h.qlt
  have hl := h.lt
  have hb := h.blt
  have hblk : ∀ k, (Value.slice D ds.length d).ownBlock = some k → w.heap.size ≤ k := fun k e => (h.drow.lt k e).1
  have hk := KeepTy.grow (t' := 3) h.drow (by decide) hg
  have hbx1 : w1.heap[q]? = some (.cells #[.slice A us.length c, .slice D ds.length d] 25 (0, 0)) := (hg.block _ hl (own_ne h.drow h.box (by decide))).trans h.box
  have hks := keepTy_set (t' := 3) (i := 1) hbx1 (by decide) (.slice D' (ds.length + 1) d')
  have hlen : (ds ++ [u]).length = ds.length + 1 := by rw [List.length_append]; rfl
  refine ⟨(h.rd.row hb hblk hg).new (grown_set w1 q 1 _) hq hb, ?_, own_setOther (h.nrow.kept hg (own_apart h.nrow h.drow (by decide))) ?_, ?_, fun z hz => (h.lies z hz).step ((KpI.of hk).trans (KpI.of hks)), hq, hb⟩
  · rw [hlen]; exact heap_set hbx1 _
  · exact .inr fun e => own_ne (h.nrow.kept hg (own_apart h.nrow h.drow (by decide))) hbx1 (by decide) e.symm
  · rw [hlen]
    have : dvsV (ds ++ [u]) = dvsV ds ++ dvC u := by unfold dvsV; rw [List.flatMap_append]; simp
    rw [this]
    exact own_setOther hr (.inr fun e => own_ne hr hbx1 (by decide) e.symm)
/-- The row of nodes has a block. -/
theorem BnS.blk {g : Nat} (h : BnS B b w q (some ⟨g, 0, none⟩) c us D d ds wr) : ∃ cur, wr.heap[g]? = some (.cells cur 45 (0, 0)) ∧ w.heap.size ≤ g := by
  obtain ⟨g', cap, cur, hv, hb, hgg, _⟩ := h.nrow.2.resolve_left (fun e => by cases e.1)
  have : g = g' := by injection hv with hv; injection hv with hv; injection hv
  subst this
  exact ⟨cur, hgg, hb⟩
/-- One cell of the row of nodes is written. -/
theorem BnS.put {g j : Nat} {us' : List NdS} {v : Value} (h : BnS B b w q (some ⟨g, 0, none⟩) c us D d ds wr) (hl : us'.length = us.length) (hv : ndsV us' = (ndsV us).set j v) (hi : ∀ u ∈ us', ExR w.heap.size wr u.P u.x.exits.length u.c) :
    BnS B b w q (some ⟨g, 0, none⟩) c us' D d ds (wr.setCell ⟨g, j, none⟩ v) := by
  obtain ⟨cur, hgg, hg0⟩ := h.blk
  have hb := h.blt
  have hks := keepTy_set (t' := 3) (i := j) hgg (by decide) v
  refine ⟨h.rd.new (grown_set wr g _ _) hg0 hb, ?_, ?_, own_setOther h.drow (.inr fun e => own_ne h.drow hgg (by decide) e.symm), fun z hz => (hi z hz).step (KpI.of hks), h.qlt, hb⟩
  · rw [hl]; exact heap_setOther h.box (fun e => by subst e; have := h.box; rw [hgg] at this; injection this with this; injection this with _ this _; exact absurd this (by decide)) _
  · rw [hl, hv]; exact own_put h.nrow _
/-- A row of numbers is written, or grows. -/
theorem BnS.ints {row : Option Nat} (h : BnS B b w q A c us D d ds wr) (hg : wr.grownBy w1 row) (hblk : ∀ k, row = some k → ∃ cs, wr.heap[k]? = some (.cells cs 3 (0, 0)) ∧ w.heap.size ≤ k) (hk : KpI wr w1) : BnS B b w q A c us D d ds w1 := by
  have ne : ∀ {k : Nat} {o : Obj}, wr.heap[k]? = some o → (∀ cs, o ≠ .cells cs 3 (0, 0)) → some k ≠ row := fun {k o} hk ho e => by
    obtain ⟨cs, h1, _⟩ := hblk k e.symm
    rw [hk] at h1
    exact ho cs (Option.some.inj h1)
  have own : ∀ {t : TypeId} {size n : Nat} {v : Value} {xs : List Value}, wr.ownsRow w.heap.size t size v n xs → t ≠ 3 → w1.ownsRow w.heap.size t size v n xs := fun {t size n v xs} ho ht => by
    refine ho.kept hg ?_
    cases hv : v.ownBlock with
    | none => exact .inl rfl
    | some k =>
      refine .inr fun e => ?_
      obtain ⟨cs, h1, _⟩ := hblk k e.symm
      exact own_ne ho h1 (fun e => ht e.symm) hv.symm
  exact ⟨h.rd.row h.blt (fun k e => (hblk k e).choose_spec.2) hg, (hg.block _ h.lt (ne h.box fun cs e => by injection e with _ e _; exact absurd e (by decide))).trans h.box, own h.nrow (by decide), own h.drow (by decide), fun u hu => (h.lies u hu).step hk, h.qlt, h.blt⟩
/-- A layout stands there. -/
theorem BnS.fin (h : BnS B b w q A c us D d ds wr) : ∃ l : List Nd, l.length = us.length ∧ (∀ i, i < l.length → (l.getD i nd0).exits.length = (us.getD i nds0).x.exits.length) ∧ NdsIn b wr A l ∧ DvsIn b wr D ds := by
  have hall : ∀ i, i < us.length → ∃ es : List Int, es.length = (us.getD i nds0).x.exits.length ∧ NumsIn b wr (us.getD i nds0).P es := fun i hi => (h.lies _ (by rw [at_k hi]; exact List.getElem_mem _)).nums h.blt
  obtain ⟨f, hF⟩ := Deep.choose_lt (α := List Int) (p := fun i es => es.length = (us.getD i nds0).x.exits.length ∧ NumsIn b wr (us.getD i nds0).P es) hall
  have e1 : ∀ i, i < us.length → ((List.range us.length).map fun i => ({ (us.getD i nds0).x with exits := f i } : Nd)).getD i nd0 = { (us.getD i nds0).x with exits := f i } := fun i hi => by
    rw [List.getD_eq_getElem?_getD, List.getElem?_map, List.getElem?_range hi]; rfl
  refine ⟨(List.range us.length).map fun i => { (us.getD i nds0).x with exits := f i }, by simp, fun i hi => ?_, fun hn => ?_, dvs_own h.drow h.blt⟩
  · have hi' : i < us.length := by simpa using hi
    rw [e1 i hi']
    exact (hF i hi').1
  · have hn' : 0 < us.length := by simpa using hn
    obtain ⟨g, rfl, hg, hc⟩ := own_cell h.nrow hn'
    refine ⟨g, 0, rfl, by have := h.blt; omega, fun i hi => ?_⟩
    have hi' : i < us.length := by simpa using hi
    rw [e1 i hi']
    have hu := h.lies (us.getD i nds0) (by rw [at_k hi']; exact List.getElem_mem _)
    have cell : ∀ j v, j < 5 → (us.getD i nds0).cs[j]? = some v → wr.cell? ⟨g, 0 + i * 5 + j, none⟩ = some v := fun j v hj hv => by
      rw [Nat.zero_add]
      exact hc _ _ (by rw [ndsV_at us i hi' j hj]; exact hv)
    exact ⟨cell 0 _ (by omega) rfl, cell 1 _ (by omega) rfl, cell 2 _ (by omega) rfl, cell 3 _ (by omega) rfl, (us.getD i nds0).P, (us.getD i nds0).c, by rw [show ({ (us.getD i nds0).x with exits := f i } : Nd).exits.length = (us.getD i nds0).x.exits.length from (hF i hi').1]; exact cell 4 _ (by omega) rfl, by rw [show ({ (us.getD i nds0).x with exits := f i } : Nd).exits.length = (us.getD i nds0).x.exits.length from (hF i hi').1]; exact hu.1, (hF i hi').2⟩
theorem BnS.c0 (h : BnS B b w q A c us D d ds wr) : wr.cell? ⟨q, 0, none⟩ = some (.slice A us.length c) := by rw [Lib.cell_of_heap h.box]; rfl
theorem BnS.c1 (h : BnS B b w q A c us D d ds wr) : wr.cell? ⟨q, 1, none⟩ = some (.slice D ds.length d) := by rw [Lib.cell_of_heap h.box]; rfl
theorem ndsV_put {us : List NdS} {j f : Nat} {u' : NdS} {v : Value} (hj : j < us.length) (hf : f < 5) (hcs : u'.cs = (us.getD j nds0).cs.set f v) : ndsV (us.set j u') = (ndsV us).set (j * 5 + f) v := by
  unfold ndsV
  induction us generalizing j with
  | nil => simp at hj
  | cons u us ih =>
    cases j with
    | zero =>
      have e : u'.cs = u.cs.set f v := hcs
      rw [List.set_cons_zero, List.flatMap_cons, List.flatMap_cons, e, Nat.zero_mul, Nat.zero_add, List.set_append_left _ _ (by show f < 5; exact hf)]
    | succ j =>
      have e := ih (j := j) (by simpa using hj) hcs
      rw [List.set_cons_succ, List.flatMap_cons, List.flatMap_cons, e, show (j + 1) * 5 + f = u.cs.length + (j * 5 + f) by show _ = 5 + _; omega, List.set_append_right _ _ (by omega), Nat.add_sub_cancel_left]
/-- One field of a node is written. -/
theorem BnS.upd {g j f : Nat} {v : Value} (u' : NdS) (h : BnS B b w q (some ⟨g, 0, none⟩) c us D d ds wr) (hj : j < us.length) (hf : f < 5) (hcs : u'.cs = (us.getD j nds0).cs.set f v) (hx : ExR w.heap.size wr u'.P u'.x.exits.length u'.c) :
    BnS B b w q (some ⟨g, 0, none⟩) c (us.set j u') D d ds (wr.setCell ⟨g, j * 5 + f, none⟩ v) :=
  h.put (List.length_set ..) (ndsV_put hj hf hcs) (fun u hu => by
    rcases List.mem_or_eq_of_mem_set hu with hu | rfl
    · exact h.lies u hu
    · exact hx)
theorem BnS.node {g j f : Nat} {v : Value} (h : BnS B b w q (some ⟨g, 0, none⟩) c us D d ds wr) (hj : j < us.length) (hf : f < 5) (hv : (us.getD j nds0).cs[f]? = some v) : wr.cell? ⟨g, j * 5 + f, none⟩ = some v := by
  obtain ⟨g', e, _, hc⟩ := own_cell h.nrow (by omega)
  injection e with e; injection e with e
  subst e
  exact hc _ _ (by rw [ndsV_at us j hj f hf]; exact hv)
theorem BnS.nfz {g j : Nat} (h : BnS B b w q (some ⟨g, 0, none⟩) c us D d ds wr) : wr.frozen? ⟨g, j, none⟩ = false := by
  obtain ⟨cur, hg, _⟩ := h.blk
  exact Lib.frozen_of_heap hg _
theorem BnS.ex {j : Nat} (h : BnS B b w q A c us D d ds wr) (hj : j < us.length) : ExR w.heap.size wr (us.getD j nds0).P (us.getD j nds0).x.exits.length (us.getD j nds0).c := h.lies _ (by rw [at_k hj]; exact List.getElem_mem _)
/-- What Bent has come to. -/
def BnE (B b : Nat) (x : Lay) (W2 : World) (q : Nat) (V : World) : Prop := ∃ (A : Option Addr) (c : Nat) (us : List NdS) (D : Option Addr) (d : Nat) (ds : List Dv), BnS B b W2 q A c us D d ds V ∧ us.length = x.nodes.length ∧ (∀ j, j < us.length → (us.getD j nds0).x.exits.length ≤ (x.nodes.getD j nd0).exits.length + 1) ∧ ds.length ≤ x.devs.length + 1
theorem exs_set {x : Lay} {us : List NdS} {j : Nat} {u' : NdS} (hG : ∀ j, j < us.length → (us.getD j nds0).x.exits.length = (x.nodes.getD j nd0).exits.length) (hu : u'.x.exits.length ≤ (us.getD j nds0).x.exits.length + 1) :
    ∀ k, k < (us.set j u').length → ((us.set j u').getD k nds0).x.exits.length ≤ (x.nodes.getD k nd0).exits.length + 1 := fun k hk => by
  rw [List.length_set] at hk
  by_cases e : j = k
  · subst e
    have : (us.set j u').getD j nds0 = u' := by rw [List.getD_eq_getElem?_getD, List.getElem?_set_self hk]; rfl
    rw [this, ← hG j hk]; exact hu
  · have : (us.set j u').getD k nds0 = us.getD k nds0 := by rw [List.getD_eq_getElem?_getD, List.getElem?_set_ne e, ← List.getD_eq_getElem?_getD]
    rw [this, hG k hk]; omega
end
/-- A number is appended to exits: in place or in a new row. -/
theorem wpList_app1 {H el c m : Nat} {z : Int} {P : Option Addr} {w : World} {ops : Array Oper} {rest : List Oper} {o : Oper} {a : Act} {Q : Exit → Act → World → Prop} (hgd : o.guard = none) (s x : Operand)
    (ho : o.op = .call { callee := .builtin .append, args := #[s, x], argTypes := #[26, 26] }) (hs : a.eval s = .slice P el c) (hx : a.eval x = .slice (some ⟨m, 0, none⟩) 1 1)
    (hE : ExR H w P el c) (hm : w.cell? ⟨m, 0, none⟩ = some (.int .i64 z)) (hH : H ≤ w.heap.size) (hel : el ≤ 2000)
    (h : ∀ P' c' w' row, ExR H w' P' (el + 1) c' → w.grownBy w' row → (∀ k, row = some k → ∃ cs, w.heap[k]? = some (.cells cs 3 (0, 0)) ∧ H ≤ k) → KpI w w' → wpList Tryz.prog ops Q rest (a.put o.dst (.slice P' (el + 1) c')) w') : wpList Tryz.prog ops Q (o :: rest) a w := by
  obtain ⟨i0, hi1, hz0, hz1, hz2⟩ := info_parts linfo_int
  have grow : ∀ (l : List Int) (v' : Value) (w' : World), w'.ownsRow w.heap.size 3 1 v' (el + 1) (l.map (Value.int .i64)) → w.grownBy w' none → wpList Tryz.prog ops Q rest (a.put o.dst v') w' := fun l v' w' ho hg => by
    obtain ⟨A', c', rfl⟩ := own_form ho
    have hx := ExR.own ho
    refine h A' c' w' none ⟨hx.1, hx.2.1, fun hc => ?_⟩ hg (fun k e => by cases e) (fun g cs hgg => ⟨cs, (hg.block g (Array.getElem?_eq_some_iff.1 hgg).1 (by simp)).trans hgg, rfl, fun _ y hy => ⟨y, hy⟩⟩)
    obtain ⟨g, cs, e1, e2, e3⟩ := hx.2.2 hc
    exact ⟨g, cs, e1, by omega, e3⟩
  by_cases hc : 0 < c
  · obtain ⟨g, cs, rfl, hg, hgg, hs2, hv⟩ := hE.2.2 hc
    obtain ⟨f, hF⟩ := Deep.choose_lt (α := Int) (p := fun i z => cs[i]? = some (.int .i64 z)) hv
    refine wpList_append_arg w hgd s x 26 ho 3 i0 (.int .i64 0) 1 8 Tryz.underlying26 hi1 hz0 hz1 hz2 rfl (by decide) g 0 el c (((List.range el).map f).map (Value.int .i64)) hs (by simp) (fun j u hj => ?_) ⟨m, 0, none⟩ 1 1 [.int .i64 z] hx rfl (fun j u hj => ?_) (by intro u hu; simp at hu; subst hu; rfl) (fun hle j hj => ?_) (by unfold maxLen; omega) (by omega) (fun hle => ?_) (fun _ v' w' ho hg => ?_)
    · have hjl : j < el := by
        have := (List.getElem?_eq_some_iff.1 hj).1
        simpa using this
      rw [Nat.zero_add, Lib.cell_of_heap hgg, hF j hjl, ← hj]
      simp [hjl]
    · have hjl : j = 0 := by
        have := (List.getElem?_eq_some_iff.1 hj).1
        simpa using this
      subst hjl
      rw [← hj]
      exact hm
    · have : j = 0 := by simpa using hj
      subst this
      refine ⟨?_, Lib.frozen_of_heap hgg _⟩
      rw [Lib.cell_of_heap hgg, Array.getElem?_eq_getElem (by omega)]; rfl
    · have e : w.setCells g (0 + el * 1) [.int .i64 z] = w.setCell ⟨g, el, none⟩ (.int .i64 z) := by simp [World.setCells]
      rw [e]
      refine h (some ⟨g, 0, none⟩) c _ (some g) ⟨hle, hE.2.1, fun _ => ⟨g, _, rfl, hg, heap_set hgg _, by rw [Array.size_setIfInBounds]; exact hs2, fun i hi => ?_⟩⟩ (grown_set w g el _) (fun k e => by cases e; exact ⟨cs, hgg, hg⟩) (KpI.set hgg z)
      rw [Array.getElem?_setIfInBounds]
      by_cases e : el = i
      · subst e
        rw [if_pos rfl, if_pos (by omega)]; exact ⟨z, rfl⟩
      · rw [if_neg e]; exact hv i (by omega)
    · refine grow ((List.range el).map f ++ [z]) v' w' ?_ hg
      rw [List.map_append]
      exact ho
  · have hel0 : el = 0 := by have := hE.1; omega
    have hc0 : c = 0 := by omega
    subst hel0; subst hc0
    refine wpList_append_grows w hgd s x 26 ho 3 i0 (.int .i64 0) 1 8 Tryz.underlying26 hi1 hz0 hz1 hz2 rfl (by decide) P 0 0 [] hs (fun _ => ⟨rfl, rfl⟩) rfl (fun _ _ j u hj => by cases hj) ⟨m, 0, none⟩ 1 1 [.int .i64 z] hx rfl (fun j u hj => ?_) (by intro u hu; simp at hu; subst hu; rfl) (by omega) (by unfold maxLen; omega) (by omega) (fun v' w' ho hg => ?_)
    · have hjl : j = 0 := by
        have := (List.getElem?_eq_some_iff.1 hj).1
        simpa using this
      subst hjl
      rw [← hj]
      exact hm
    · exact grow [z] v' w' ho hg
theorem rangem_any (B b : Nat) (lo hi : Int) (w : World) (h : Src B b w) (h0 : -5 ≤ lo) (h1 : lo ≤ hi) (h2 : hi ≤ 100000000) :
    Calls Tryz.prog 22 #[.pointer (some ⟨b, 0, none⟩), .int .i64 lo, .int .i64 hi] w (Reads B b lo hi w) := by
  go_enter Tryz.func22, Tryz.ntmps22
  go_wp2_with (first
    | (go_at_call 24; refine (n_any B b _ _ h (by omega) (by omega)).mono ?_; rintro e w1 ⟨x, rfl, hx1, hx2, hs1, hg1⟩; have HS1 := Lib.hid hs1; have HG1 := Lib.hid hg1; clear hs1 hg1))
  go_ret
  exact ⟨_, rfl, by omega, by omega, HS1.out, HG1.out⟩
end Go.Proofs.YtfddpdognelhmaaGreatDoor
