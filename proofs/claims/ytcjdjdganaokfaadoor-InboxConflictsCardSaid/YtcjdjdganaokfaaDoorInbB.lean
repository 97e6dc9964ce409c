/-
  Copies of messages: a slice copied onto nil; rows of messages that a call owns; copyMessage and copyMessages.
-/
import Derived.Test.YtcjdjdganaokfaaDoorInbA
import Derived.Laws.AppendOwnNone
import Derived.Great.BuildSlice
namespace Go.Proofs.YtcjdjdganaokfaaDoor
open Go.RowKit

section
variable {P : Program}
/-- append(nil, xs...): a row of its own, or nil. -/
theorem run_fresh (w : World) (H : Nat) (t ty e : TypeId) (i : TypeInfo) (z : Value) (size bytes : Nat) (ht : P.underlying t = some (.slice e)) (hi : P.info? e = some i) (hz : i.zero = some z)
    (hsize : i.size = size) (hby : i.bytes = bytes) (hzs : z.cells.size = size) (hsz : 0 < size) (A : Option Addr) (n c : Nat) (news : List Value) (hl : news.length = n * size)
    (hsrc : 0 < n → ∃ g off, A = some ⟨g, off, none⟩ ∧ ∀ j u, news[j]? = some u → w.cell? ⟨g, off + j, none⟩ = some u) (h1 : ∀ u ∈ news, u.oneCell' = true)
    (h63 : n ≤ maxLen) (hbytes : n * bytes ≤ 140737488355328) (hb : H ≤ w.heap.size) :
    ∃ A' c' w', (Builtin.append_ #[t, t] ty #[.slice none 0 0, .slice A n c]).run P w = .ok (.slice A' n c') w' ∧ w'.ownsRow H e size (.slice A' n c') n news ∧ w.grownBy w' none := by
  by_cases h0 : 0 < n
  · obtain ⟨g, off, rfl, hc⟩ := hsrc h0
    have hadd : ∀ j, (⟨g, off, none⟩ : Addr).add j = ⟨g, off + j, none⟩ := fun j => by unfold Addr.add; split <;> simp_all
    obtain ⟨g', cap, w', hr, h2, h3, _, _⟩ := run_append_lies (P := P) w t ty H e i z size bytes ht hi hz hsize hby hzs hsz (.slice none 0 0) 0 [] (World.ownsRow_nil _ _ _ _) ⟨g, off, none⟩ n c news hl (fun j u hu => by rw [hadd]; exact hc j u hu) h1 h0 (by omega) (by rw [Nat.zero_add]; exact hbytes) hb _ rfl
    rw [Nat.zero_add] at hr h2
    rw [List.nil_append] at h2
    exact ⟨_, _, w', hr, h2, h3⟩
  · obtain rfl : n = 0 := by omega
    obtain rfl : news = [] := List.eq_nil_of_length_eq_zero (by omega)
    have hl0 : ∀ x : Addr, (loadCells x 0).run P w = .ok #[] w := fun x => by simpa using run_loadCells_list (P := P) w x [] (by simp)
    refine ⟨none, 0, w, ?_, World.ownsRow_nil _ _ _ _, World.grownBy.refl _ _⟩
    cases A <;> simp [Builtin.append_, run_underlying ht, sizeOf, typeInfo, hi, Builtin.lenOf, Builtin.firstCells, hl0]
theorem wpList_fresh {w : World} {ops : Array Oper} {rest : List Oper} {o : Oper} {a : Act} {Q : Exit → Act → World → Prop} (hgd : o.guard = none) (s x : Operand) (t : TypeId)
    (ho : o.op = .call { callee := .builtin .append, args := #[s, x], argTypes := #[t, t] })
    (H : Nat) (e : TypeId) (i : TypeInfo) (z : Value) (size bytes : Nat) (ht : P.underlying t = some (.slice e)) (hi : P.info? e = some i) (hz : i.zero = some z)
    (hsize : i.size = size) (hby : i.bytes = bytes) (hzs : z.cells.size = size) (hsz : 0 < size) (A : Option Addr) (n c : Nat) (hs : a.eval s = .slice none 0 0) (hx : a.eval x = .slice A n c) (news : List Value) (hl : news.length = n * size)
    (hsrc : 0 < n → ∃ g off, A = some ⟨g, off, none⟩ ∧ ∀ j u, news[j]? = some u → w.cell? ⟨g, off + j, none⟩ = some u) (h1 : ∀ u ∈ news, u.oneCell' = true)
    (h63 : n ≤ maxLen) (hbytes : n * bytes ≤ 140737488355328) (hb : H ≤ w.heap.size)
    (h : ∀ A' c' w', w'.ownsRow H e size (.slice A' n c') n news → w.grownBy w' none → wpList P ops Q rest (a.put o.dst (.slice A' n c')) w') : wpList P ops Q (o :: rest) a w := by
  refine wpList_plain hgd fun K hK => ?_
  obtain ⟨A', c', w', hr, h2, h3⟩ := run_fresh (P := P) w H t o.type e i z size bytes ht hi hz hsize hby hzs hsz A n c news hl hsrc h1 h63 hbytes hb
  unfold Oper.wp execOp
  simp only [ho, resolve, invoke, builtin, Sem.run_bind, Sem.run_pure, Result.andThen_ok, List.map_toArray, List.map_cons, List.map_nil, hs, hx, hr]
  exact hK _ _ (h A' c' w' h2 h3)
/-- A slice of one struct is built. -/
theorem wpList_build1 {w : World} {ops : Array Oper} {rest : List Oper} {o : Oper} {a : Act} {Q : Exit → Act → World → Prop} (hgd : o.guard = none) (t e : TypeId) (x : Operand) (ho : o.op = .buildSlice t 1 #[(0, x)])
    (arr : Array Value) (i : TypeInfo) (z : Value) (size : Nat) (ht : P.underlying t = some (.slice e)) (hi : P.info? e = some i) (hz : i.zero = some z) (hsize : i.size = size) (hsz : 0 < size) (hsm : size ≤ 1000) (hzs : z.cells.size = size)
    (hx : a.eval x = .agg arr) (ha : arr.size = size) (h : wpList P ops Q rest (a.put o.dst (.slice (some ⟨w.heap.size, 0, none⟩) 1 1)) (w.alloc (.cells arr e))) : wpList P ops Q (o :: rest) a w := by
  subst hsize
  refine wpList_buildSlice hgd t e 1 _ ho arr i z ht hi hz (by omega) (by omega) ?_ h
  have := Great.fill_whole (s := i.size) hsz [.agg arr] ((Array.range (1 * i.size)).map (z.cells[· % z.cells.size]!)) (fun v hv => by rw [List.mem_singleton.1 hv]; exact ha) (by simp)
  simpa [hx, Value.cells] using this
end

theorem legs_cells {b : Nat} {w : World} {A : Option Addr} {l : List Lg} (h : LegsIn b w A l) (hn : 0 < l.length) : ∃ g off, A = some ⟨g, off, none⟩ ∧ ∀ j u, (l.flatMap lgC)[j]? = some u → w.cell? ⟨g, off + j, none⟩ = some u := by
  obtain ⟨g, off, hA, hg, hc⟩ := h hn
  refine ⟨g, off, hA, fun j u hu => ?_⟩
  have hlen := flatK_len lgC 6 (fun _ => rfl) l
  have hj : j < l.length * 6 := by rw [← hlen]; exact (List.getElem?_eq_some_iff.1 hu).1
  have hi : j / 6 < l.length := by omega
  have hc' := hc (j / 6) hi
  rw [at_k hi] at hc'
  have hu' := flatK_at lgC 6 (fun _ => rfl) l (j / 6) hi (j % 6) (by omega)
  rw [show j / 6 * 6 + j % 6 = j by omega, hu] at hu'
  obtain ⟨c0, c1, c2, c3, c4, c5⟩ := hc'
  have e : off + j = off + j / 6 * 6 + j % 6 := by omega
  rw [e]
  have hk : j % 6 = 0 ∨ j % 6 = 1 ∨ j % 6 = 2 ∨ j % 6 = 3 ∨ j % 6 = 4 ∨ j % 6 = 5 := by omega
  rcases hk with hk | hk | hk | hk | hk | hk <;> rw [hk] at hu' ⊢ <;> rw [Option.some.inj hu']
  · exact c0
  · exact c1
  · exact c2
  · exact c3
  · exact c4
  · exact c5
theorem nums_cells {b : Nat} {w : World} {A : Option Addr} {l : List Int} (h : NumsIn b w A l) (hn : 0 < l.length) : ∃ g off, A = some ⟨g, off, none⟩ ∧ ∀ j u, (l.map (Value.int .i64))[j]? = some u → w.cell? ⟨g, off + j, none⟩ = some u := by
  obtain ⟨g, off, hA, hg, hc⟩ := h hn
  refine ⟨g, off, hA, fun j u hu => ?_⟩
  have hj : j < l.length := by have := (List.getElem?_eq_some_iff.1 hu).1; simpa using this
  rw [hc j hj, at_k hj]
  rw [List.getElem?_map, List.getElem?_eq_getElem hj] at hu
  exact hu
theorem legs_one' {l : List Lg} : ∀ u ∈ l.flatMap lgC, u.oneCell' = true := fun u hu => by
  obtain ⟨x, _, hx⟩ := List.mem_flatMap.1 hu
  simp only [lgC, List.mem_cons, List.not_mem_nil, or_false] at hx
  rcases hx with rfl | rfl | rfl | rfl | rfl | rfl <;> rfl
theorem nums_one' {l : List Int} : ∀ u ∈ l.map (Value.int .i64), u.oneCell' = true := fun u hu => by
  obtain ⟨x, _, rfl⟩ := List.mem_map.1 hu
  rfl
theorem cs_one {xs : List MsS} : ∀ u ∈ xs.flatMap MsS.cs, u.oneCell' = true := fun u hu => by
  obtain ⟨x, _, hx⟩ := List.mem_flatMap.1 hu
  have := one_msgL x.m x.P x.c x.Q x.d
  rw [← Array.all_toList, List.all_eq_true] at this
  exact this u hx

theorem owns_step {base size n : Nat} {e : TypeId} {v : Value} {xs : List Value} {w w' : World} (h : w.ownsRow base e size v n xs) (k : KeepTy e w w') : w'.ownsRow base e size v n xs := by
  refine ⟨h.1, ?_⟩
  rcases h.2 with hn | ⟨g, cap, cur, hv, hbg, hgg, rest⟩
  · exact .inl hn
  · exact .inr ⟨g, cap, cur, hv, hbg, k _ _ _ hgg, rest⟩
theorem owns_base {base base' size n : Nat} {e : TypeId} {v : Value} {xs : List Value} {w : World} (h : w.ownsRow base e size v n xs) (hb : base' ≤ base) : w.ownsRow base' e size v n xs := by
  refine ⟨h.1, ?_⟩
  rcases h.2 with hn | ⟨g, cap, cur, hv, hbg, rest⟩
  · exact .inl hn
  · exact .inr ⟨g, cap, cur, hv, Nat.le_trans hb hbg, rest⟩
theorem KeepTy.setRow {x : Nat} {w : World} {cs cs' : Array Value} {t t' : TypeId} {fz : Nat × Nat} (h : w.heap[x]? = some (.cells cs t fz)) (ht : t ≠ t') : KeepTy t' w (w.setRow x cs') := fun g c fz' hg => by
  rw [setRow_other]
  · exact hg
  · intro e
    subst e
    rw [h] at hg; injection hg with hg; injection hg with _ hg _; exact ht hg
theorem KeepTy.set {x : Nat} {w : World} {cs : Array Value} {t t' : TypeId} {fz : Nat × Nat} (h : w.heap[x]? = some (.cells cs t fz)) (ht : t ≠ t') (i : Nat) (v : Value) : KeepTy t' w (w.setCell ⟨x, i, none⟩ v) :=
  KeepTy.other (Lib.grownBy_setB (World.grownBy.refl w (some x)) i v) h ht
theorem KeepTy.new {t : TypeId} {w w' : World} (h : w.grownBy w' none) : KeepTy t w w' := KeepTy.below (gr_none h)

/-- The slices of a message lie in rows of a call's own. -/
def MsS.Owns (base : Nat) (w : World) (x : MsS) : Prop :=
  w.ownsRow base 26 6 (.slice x.P x.m.onw.length x.c) x.m.onw.length (x.m.onw.flatMap lgC) ∧ w.ownsRow base 3 1 (.slice x.Q x.m.lst.length x.d) x.m.lst.length (x.m.lst.map (Value.int .i64))
theorem MsS.Owns.step {base : Nat} {w w' : World} {x : MsS} (h : x.Owns base w) (k1 : KeepTy 26 w w') (k2 : KeepTy 3 w w') : x.Owns base w' := ⟨owns_step h.1 k1, owns_step h.2 k2⟩
theorem MsS.Owns.lies {b base : Nat} {w : World} {x : MsS} (h : x.Owns base w) (hb : b < base) : x.Lies b w := ⟨legs_own h.1 hb, nums_own h.2 hb⟩
theorem MsS.Owns.base {base base' : Nat} {w : World} {x : MsS} (h : x.Owns base w) (hb : base' ≤ base) : x.Owns base' w := ⟨owns_base h.1 hb, owns_base h.2 hb⟩
theorem MsS.Owns.below {base : Nat} {w w' : World} {x : MsS} (h : x.Owns base w) (hb : Below w.heap.size w w') : x.Owns base w' := h.step (KeepTy.below hb) (KeepTy.below hb)
/-- Some messages in a row of a call's own. -/
structure MsgsOwn (base : Nat) (w : World) (A : Option Addr) (c : Nat) (xs : List MsS) : Prop where
  row : w.ownsRow base 32 30 (.slice A xs.length c) xs.length (xs.flatMap MsS.cs)
  each : ∀ x ∈ xs, x.Owns base w
theorem MsgsOwn.step {base : Nat} {w w' : World} {A : Option Addr} {c : Nat} {xs : List MsS} (h : MsgsOwn base w A c xs) (k0 : KeepTy 32 w w') (k1 : KeepTy 26 w w') (k2 : KeepTy 3 w w') : MsgsOwn base w' A c xs :=
  ⟨owns_step h.row k0, fun x hx => (h.each x hx).step k1 k2⟩
theorem MsgsOwn.below {base : Nat} {w w' : World} {A : Option Addr} {c : Nat} {xs : List MsS} (h : MsgsOwn base w A c xs) (hb : Below w.heap.size w w') : MsgsOwn base w' A c xs := h.step (KeepTy.below hb) (KeepTy.below hb) (KeepTy.below hb)
theorem MsgsOwn.base {base base' : Nat} {w : World} {A : Option Addr} {c : Nat} {xs : List MsS} (h : MsgsOwn base w A c xs) (hb : base' ≤ base) : MsgsOwn base' w A c xs := ⟨owns_base h.row hb, fun x hx => (h.each x hx).base hb⟩
theorem MsgsOwn.nil (base : Nat) (w : World) : MsgsOwn base w none 0 [] := ⟨World.ownsRow_nil _ _ _ _, fun _ h => by cases h⟩
/-- A row that is owned can be read. -/
theorem own_cells {base size n c : Nat} {e : TypeId} {A : Option Addr} {w : World} {xs : List Value} (h : w.ownsRow base e size (.slice A n c) n xs) (hn : 0 < n) :
    ∃ (g : Nat) (cur : Array Value), A = some ⟨g, 0, none⟩ ∧ base ≤ g ∧ w.heap[g]? = some (.cells cur e (0, 0)) ∧ n ≤ c ∧ cur.size = c * size ∧ ∀ (j : Nat) (u : Value), xs[j]? = some u → cur[j]? = some u := by
  rcases h.2 with ⟨_, h0⟩ | ⟨g, cap, cur, hv, hb, hg, h1, _, h2, ht⟩
  · omega
  · injection hv with hA _ hc
    subst hc
    refine ⟨g, cur, hA, hb, hg, h1, h2, fun j u hu => ?_⟩
    rw [← Array.getElem?_toList]
    rw [← ht, List.getElem?_take] at hu
    split at hu
    · exact hu
    · cases hu
theorem MsgsOwn.ins {b base : Nat} {w : World} {A : Option Addr} {c : Nat} {xs : List MsS} (h : MsgsOwn base w A c xs) (hb : b < base) : MsgsIn b w A xs := fun hn => by
  obtain ⟨g, cur, hA, hbg, hg, _, _, hc⟩ := own_cells h.row hn
  exact ⟨g, 0, hA, by omega, fun j u hu => by rw [Nat.zero_add, Lib.cell_of_heap hg]; exact hc j u hu, fun x hx => (h.each x hx).lies hb⟩

set_option maxHeartbeats 4000000 in
set_option maxRecDepth 100000 in
theorem cm_any (b : Nat) (x : MsS) (w : World) (hx : x.Lies b w) (hz1 : x.m.onw.length ≤ 1000) (hz2 : x.m.lst.length ≤ 1000) :
    Calls Tryd.prog 84 #[x.v] w fun e w' => ∃ y : MsS, e = .returned y.v ∧ y.m = x.m ∧ y.Owns w.heap.size w' ∧ Below w.heap.size w w' := by
  obtain ⟨i0, hi0, hia, hib, hic⟩ := info_parts info_lg
  obtain ⟨i1, ki0, kia, kib, kic⟩ := info_parts info_intE
  obtain ⟨m, P, c, Q, d⟩ := x
  have hz1 : m.onw.length ≤ 1000 := hz1
  have hz2 : m.lst.length ≤ 1000 := hz2
  obtain ⟨W1, hW⟩ : ∃ W1 : World, (w.alloc (.cells (msgL m P c Q d) 32)).alloc (.cells zeroL 32) = W1 := ⟨_, rfl⟩
  have b1 : Below w.heap.size w W1 := by rw [← hW]; exact below_new ((Below.refl _ _).alloc (Nat.le_refl _) _) _
  have hz : W1.heap.size = w.heap.size + 2 := by rw [← hW, World.size_alloc, World.size_alloc]
  have hM1 : W1.heap[w.heap.size]? = some (.cells (msgL m P c Q d) 32 (0, 0)) := by rw [← hW, Below.heap_alloc _ _ _ (by rw [World.size_alloc]; omega)]; exact heap_alloc_new w _
  have hR1 : W1.heap[w.heap.size + 1]? = some (.cells zeroL 32 (0, 0)) := by
    rw [← hW]
    have := heap_alloc_new (w.alloc (.cells (msgL m P c Q d) 32)) (.cells zeroL 32)
    rwa [World.size_alloc] at this
  have z16 : W1.cell? ⟨w.heap.size, 16, none⟩ = some (.slice P m.onw.length c) := by rw [Lib.cell_of_heap hM1]; rfl
  have HS := hide (fun h0 => legs_cells (hx.1.keep b1) h0)
  have HX2 := hide ((hx.2.other (Nat.le_refl w.heap.size)).keep b1)
  have H0 := hide hi0
  have HA := hide hia
  have HB := hide hib
  have HC := hide hic
  have K0 := hide ki0
  have KA := hide kia
  have KB := hide kib
  have KC := hide kic
  have HM1 := hide hM1
  have HR1 := hide hR1
  have HB1 := hide b1
  have HZ := hide hz
  clear hx hi0 hia hib hic ki0 kia kib kic hM1 hR1 b1 hz
  go_enter Tryd.func84, Tryd.ntmps84
  go_wp2_with (at_builtin; refine wpList_fresh rfl _ _ 27 rfl w.heap.size 26 i0 _ 6 80 Tryd.underlying27 (unhide H0) (unhide HA) (unhide HB) (unhide HC) rfl (by decide) P m.onw.length c rfl rfl (m.onw.flatMap lgC) (flatK_len lgC 6 (fun _ => rfl) _) (unhide HS) legs_one' (by unfold maxLen; omega) (by omega) (by have := unhide HZ; omega) ?_)
  intro A' c' w2 hown hg2
  have hz2' := unhide HZ
  have hM2 := (hg2.block _ (by omega) (by simp)).trans (unhide HM1)
  have hR2 := (hg2.block _ (by omega) (by simp)).trans (unhide HR1)
  have c16 := Lib.cell_of_heap hM2 16
  have f16 := Lib.frozen_of_heap hM2 16
  have hb2 := onward (unhide HB1) (gr_none hg2)
  obtain ⟨W3, hW3⟩ : ∃ W3 : World, w2.setCell ⟨w.heap.size, 16, none⟩ (.slice A' m.onw.length c') = W3 := ⟨_, rfl⟩
  have hM3 : W3.heap[w.heap.size]? = some (.cells (msgL m A' c' Q d) 32 (0, 0)) := by rw [← hW3, heap_setM _ hM2]; rfl
  have hR3 : W3.heap[w.heap.size + 1]? = some (.cells zeroL 32 (0, 0)) := by rw [← hW3, Below.heap_setCell _ _ _ _ (by simp only []; omega)]; exact hR2
  have z29 : W3.cell? ⟨w.heap.size, 29, none⟩ = some (.slice Q m.lst.length d) := by rw [Lib.cell_of_heap hM3]; rfl
  have hb3 : Below w.heap.size w W3 := by rw [← hW3]; exact hb2.setCell (Nat.le_refl _) _
  have HO3 := hide (show W3.ownsRow w.heap.size 26 6 (.slice A' m.onw.length c') m.onw.length (m.onw.flatMap lgC) by rw [← hW3]; exact owns_step hown (KeepTy.set hM2 (by decide) _ _))
  have HS2 := hide (fun h0 => nums_cells (show NumsIn w.heap.size W3 Q m.lst by rw [← hW3]; exact ((unhide HX2).keep (gr_none hg2)).grown (Lib.grownBy_setB (World.grownBy.refl _ _) _ _)) h0)
  have hz3 : W3.heap.size = w2.heap.size := by rw [← hW3]; simp [World.setCell]
  have HZ3 := hide (show w.heap.size + 2 ≤ W3.heap.size by rw [hz3]; have := hg2.size; omega)
  have HM3 := hide hM3
  have HR3 := hide hR3
  have HB3 := hide hb3
  clear HM1 HR1 HB1 HZ HS HX2 z16 hown hg2 hz2' hM2 hR2 hb2 hM3 hR3 hb3 hz3
  go_wp2_with (at_builtin; refine wpList_fresh rfl _ _ 30 rfl w.heap.size 3 i1 _ 1 8 Tryd.underlying30 (unhide K0) (unhide KA) (unhide KB) (unhide KC) rfl (by decide) Q m.lst.length d rfl rfl (m.lst.map (Value.int .i64)) (by simp) (unhide HS2) nums_one' (by unfold maxLen; omega) (by omega) (by have := unhide HZ3; omega) ?_)
  intro L' d' w4 hown hg4
  have hz3 := unhide HZ3
  have hM4 := (hg4.block _ (by omega) (by simp)).trans (unhide HM3)
  have hR4 := (hg4.block _ (by omega) (by simp)).trans (unhide HR3)
  have c29 := Lib.cell_of_heap hM4 29
  have f29 := Lib.frozen_of_heap hM4 29
  obtain ⟨W5, hW5⟩ : ∃ W5 : World, w4.setCell ⟨w.heap.size, 29, none⟩ (.slice L' m.lst.length d') = W5 := ⟨_, rfl⟩
  have hM5 : W5.heap[w.heap.size]? = some (.cells (msgL m A' c' L' d') 32 (0, 0)) := by rw [← hW5, heap_setM _ hM4]; rfl
  have hR5 : W5.heap[w.heap.size + 1]? = some (.cells zeroL 32 (0, 0)) := by rw [← hW5, Below.heap_setCell _ _ _ _ (by simp only []; omega)]; exact hR4
  have hb5 : Below w.heap.size w W5 := by rw [← hW5]; exact (onward (unhide HB3) (gr_none hg4)).setCell (Nat.le_refl _) _
  have HO5 := hide (show (⟨m, A', c', L', d'⟩ : MsS).Owns w.heap.size W5 from ⟨by rw [← hW5]; exact owns_step (owns_step (unhide HO3) (KeepTy.new hg4)) (KeepTy.set hM4 (by decide) _ _), by rw [← hW5]; exact owns_step hown (KeepTy.set hM4 (by decide) _ _)⟩)
  have HM5 := hide hM5
  have HR5 := hide hR5
  have HB5 := hide hb5
  clear HM3 HR3 HB3 HZ3 HS2 z29 hown hg4 hz3 hM4 hR4 hM5 hR5 hb5 HO3
  go_wp2_with (first
    | (refine wpList_storeM (unhide HR5) m A' c' L' d' rfl _ _ rfl rfl rfl rfl ?_)
    | (refine wpList_loadM (unhide HM5) rfl _ rfl rfl ?_))
  have hR := setRow_heap W5 (w.heap.size + 1) zeroL (msgL m A' c' L' d') _ _ (unhide HR5)
  exact bodyPost_ret (results_cell_row rfl _ _ (w.heap.size + 1) _ _ _ _ rfl hR undM' undM infoM) rfl ⟨⟨m, A', c', L', d'⟩, rfl, rfl, (unhide HO5).step (KeepTy.setRow (unhide HR5) (by decide)) (KeepTy.setRow (unhide HR5) (by decide)), below_setRow (unhide HB5) (by omega) _⟩

/-- What the program's table says of a struct's size. -/
theorem info_size {t : TypeId} {n k : Nat} (h : (Tryd.prog.info? t).map (fun i => (i.zero.map (·.cells.size), i.size, i.bytes)) = some (some n, n, k)) : ∃ i z, Tryd.prog.info? t = some i ∧ i.zero = some z ∧ i.size = n ∧ i.bytes = k ∧ z.cells.size = n := by
  cases hi : Tryd.prog.info? t with
  | none => rw [hi] at h; cases h
  | some i =>
    rw [hi, Option.map_some] at h
    injection h with h
    injection h with h1 h
    injection h with h2 h3
    cases hz : i.zero with
    | none => rw [hz] at h1; cases h1
    | some z =>
      rw [hz, Option.map_some] at h1
      exact ⟨i, z, rfl, hz, h2, h3, Option.some.inj h1⟩
theorem info_msg : (Tryd.prog.info? 32).map (fun i => (i.zero.map (·.cells.size), i.size, i.bytes)) = some (some 30, 30, 368) := by kernel_rfl
theorem info_snd : (Tryd.prog.info? 93).map (fun i => (i.zero.map (·.cells.size), i.size, i.bytes)) = some (some 3, 3, 48) := by kernel_rfl
theorem MsgsOwn.push {base : Nat} {W W' : World} {A : Option Addr} {c g cap : Nat} {ys : List MsS} (h : MsgsOwn base W A c ys) {y : MsS} (hy : y.Owns base W)
    (hown : W'.ownsRow base 32 30 (.slice (some ⟨g, 0, none⟩) (ys.length + 1) cap) (ys.length + 1) (ys.flatMap MsS.cs ++ y.cs)) (hgrow : W.grownBy W' (Value.slice A ys.length c).ownBlock) :
    MsgsOwn base W' (some ⟨g, 0, none⟩) cap (ys ++ [y]) := by
  refine ⟨?_, fun x hx => ?_⟩
  · rw [List.length_append, List.length_singleton, List.flatMap_append]
    simpa using hown
  · have k1 : KeepTy 26 W W' := KeepTy.grow h.row (by decide) hgrow
    have k2 : KeepTy 3 W W' := KeepTy.grow h.row (by decide) hgrow
    rcases List.mem_append.1 hx with hx | hx
    · exact (h.each x hx).step k1 k2
    · rw [List.mem_singleton.1 hx]; exact hy.step k1 k2

set_option maxHeartbeats 4000000 in
set_option maxRecDepth 100000 in
theorem cms_any (b : Nat) (A : Option Addr) (cap : Nat) (xs : List MsS) (w : World) (h : MsgsIn b w A xs) (hz : xs.length ≤ 1000) (hx : ∀ x ∈ xs, x.m.onw.length ≤ 1000 ∧ x.m.lst.length ≤ 1000) :
    Calls Tryd.prog 80 #[.slice A xs.length cap] w
      fun e w' => ∃ A' c' ys, e = .returned (.slice A' ys.length c') ∧ ys.map (·.m) = xs.map (·.m) ∧ MsgsOwn w.heap.size w' A' c' ys ∧ Below w.heap.size w w' := by
  obtain ⟨i0, z0, hi0, hia, hib, hic, hid⟩ := info_size info_msg
  have H0 := hide hi0
  have HA := hide hia
  have HB := hide hib
  have HC := hide hic
  have HD := hide hid
  have HI := hide h
  have HX := hide hx
  clear h hx hi0 hia hib hic hid
  go_enter Tryd.func80, Tryd.ntmps80
  go_wp2
  go_loopw [3, 8] (fun v i wr => ∃ (k : Nat) (ys : List MsS) (A' : Option Addr) (c' : Nat), k ≤ xs.length ∧ i = .int .i64 k ∧ v = .slice A' ys.length c' ∧ Hid (ys.map (·.m) = (xs.take k).map (·.m)) ∧ Hid (Below w.heap.size w wr ∧ MsgsOwn w.heap.size wr A' c' ys)) (fun _ i _ => xs.length - (intOf i).toNat)
  case atStart => exact ⟨0, [], none, 0, Nat.zero_le _, rfl, rfl, Lib.hid rfl, Lib.hid ⟨Below.refl _ _, MsgsOwn.nil _ _⟩⟩
  case round =>
    obtain ⟨k, ys, A', c', hk, rfl, rfl, HY, HP⟩ := hrel
    obtain ⟨wo, rfl⟩ : ∃ wo : World, wo = wr := ⟨_, rfl⟩
    have hyl : ys.length ≤ 1000 := by
      have e := congrArg List.length (unhide HY)
      simp at e
      omega
    by_cases hlt : k < xs.length
    · obtain ⟨g, off, rfl, hg, hc, hl⟩ := ((unhide HI).keep HP.out.1).at hlt
      have hxm : xs.getD k ms0 ∈ xs := by rw [at_k hlt]; exact List.getElem_mem _
      have hxz := unhide HX _ hxm
      have HS := hide (show ∀ y : MsS, y.m = (xs.getD k ms0).m → (ys ++ [y]).map (·.m) = (xs.take (k + 1)).map (·.m) from fun y e => by
        rw [List.map_append, unhide HY, List.take_succ_eq_append_getElem hlt, List.map_append, at_k hlt] at *
        simp [e])
      have kl : (k : Int) < (xs.length : Int) := by omega
      generalize xs.getD k ms0 = x at *
      have HCell := hide hc
      have HL := hide hl
      have HXZ := hide hxz
      clear hc hl hxm hxz
      have HB1 := hide ((Below.refl wo.heap.size wo).alloc (Nat.le_refl _) (.cells x.arr 32))
      have hbox : (wo.alloc (.cells x.arr 32)).heap[wo.heap.size]? = some (.cells x.arr 32 (0, 0)) := heap_alloc_new wo _
      have HBX := hide hbox
      clear hbox
      obtain ⟨m, P, c, Q, d⟩ := x
      go_wp2_with (first
        | (refine wpList_load_at rfl _ _ rfl g (off + k * 30) rfl _ _ (unhide HCell) undM' undM infoM ?_)
        | (refine wpList_storeM_new rfl m P c Q d rfl _ _ rfl rfl rfl rfl ?_)
        | (refine wpList_loadM (unhide HBX) rfl _ rfl rfl ?_))
      refine (cm_any b ⟨m, P, c, Q, d⟩ _ ((unhide HL).keep (unhide HB1)) (unhide HXZ).1 (unhide HXZ).2).mono ?_
      rintro e w1 ⟨y, rfl, hym, hyo, hb1⟩
      have hb2 := onward (unhide HB1) hb1
      have hb3 := below_new hb2 (.cells y.arr 32)
      have hb4 := onward HP.out.1 hb3
      have HB4 := hide hb4
      have HM4 := hide (HP.out.2.below hb3)
      have hnew := (Below.refl w1.heap.size w1).alloc (Nat.le_refl _) (.cells y.arr 32)
      have hbs : w.heap.size ≤ (wo.alloc (.cells (msgL m P c Q d) 32)).heap.size := by
        have := HP.out.1.size
        rw [World.size_alloc]
        omega
      have HY4 := hide ((hyo.base hbs).below hnew)
      have HYM := hide hym
      have hz4 : w.heap.size ≤ (w1.alloc (.cells y.arr 32)).heap.size := hb4.size
      have HZ4 := hide hz4
      have hnews := World.news_of_block (heap_alloc_new w1 (.cells y.arr 32))
      have HN := hide hnews
      clear hym hyo hb1 hb2 hb3 hb4 hbs hz4 hnews hnew
      go_wp2_with (first
        | (refine wpList_build1 rfl 52 32 _ rfl y.arr i0 z0 30 Tryd.underlying52 (unhide H0) (unhide HA) (unhide HB) (by decide) (by decide) (unhide HD) rfl rfl ?_)
        | (at_builtin; refine wpList_append_lies _ rfl _ _ 52 rfl w.heap.size 32 i0 z0 30 368 Tryd.underlying52 (unhide H0) (unhide HA) (unhide HB) (unhide HC) (unhide HD) (by decide) _ _ _ rfl (unhide HM4).row ⟨w1.heap.size, 0, none⟩ 1 1 y.cs rfl rfl (unhide HN) (fun u hu => cs_one (xs := [y]) u (by simpa using hu)) (by decide) (by unfold maxLen; omega) (by omega) (unhide HZ4) _ rfl ?_))
      intro q cap' w3 hown hgrow hat hlt3
      have HM5 := hide ((unhide HM4).push (unhide HY4) hown hgrow)
      have hrow := fun k hk => ((unhide HM4).row.lt k hk).1
      have HB5 := hide ((unhide HB4).grown hgrow (unhide HZ4) (fun k e => hrow k e))
      clear hown hgrow hat hlt3 hrow
      go_wp2
      go_roundw
      case rel => exact ⟨k + 1, ys ++ [y], some ⟨q, 0, none⟩, cap', by omega, by go_num, by rw [List.length_append]; rfl, Lib.hid (unhide HS y (unhide HYM)), Lib.hid ⟨unhide HB5, unhide HM5⟩⟩
      case measure => simp [intOf]; omega
    · have kl : ¬ (k : Int) < (xs.length : Int) := by omega
      have HE := hide (show ys.map (·.m) = xs.map (·.m) by rw [unhide HY, List.take_of_length_le (by omega)])
      go_wp2
      go_ret
      exact ⟨A', c', ys, rfl, unhide HE, HP.out.2, HP.out.1⟩
end Go.Proofs.YtcjdjdganaokfaaDoor
