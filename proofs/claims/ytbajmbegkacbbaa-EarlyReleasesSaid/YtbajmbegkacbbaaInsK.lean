/-
  Rows of structs: a slice copied onto nil, a slice of one struct built, copies of whole structs, what stands where behind an insertion; places in a sorted row.
-/
import Derived.Test.YtbajmbegkacbbaaRowK
import Derived.Laws.AppendOwnNone
import Derived.Great.BuildSlice
import Derived.Lib.AppendZerosOnto
import Derived.Lib.Overlaps
import Derived.Laws.CopyRow
import Derived.Laws.Externs
import Derived.Laws.NewBlocks
import Derived.Shelf.RegionOpenPlain
namespace Go.Proofs.Ytbajmbegkacbbaa
open Go.RowKit

/-- How many of a list stand ahead of something; whether it is there. -/
def lbF {α : Type} (f : α → Int) (l : List α) : Nat := (l.takeWhile fun x => decide (f x < 0)).length
def hasF {α : Type} (f : α → Int) (l : List α) : Bool := (l[lbF f l]?).any fun x => decide (f x = 0)
def MonoF {α : Type} (f : α → Int) (l : List α) (d : α) : Prop := ∀ a b, a ≤ b → b < l.length → f (l.getD b d) < 0 → f (l.getD a d) < 0
theorem lbF_eq {α : Type} {f : α → Int} {d : α} : ∀ (l : List α) (i : Nat), i ≤ l.length → (∀ t, t < i → f (l.getD t d) < 0) → (i < l.length → 0 ≤ f (l.getD i d)) → lbF f l = i
  | [], i, hi, _, _ => by simp at hi; simp [lbF, hi]
  | x :: r, 0, _, _, h2 => by
    have : 0 ≤ f x := by simpa using h2 (by simp)
    unfold lbF
    rw [List.takeWhile_cons_of_neg (by simp; omega)]
    rfl
  | x :: r, i + 1, hi, h1, h2 => by
    have ha : f x < 0 := by simpa using h1 0 (Nat.succ_pos _)
    have ih := lbF_eq (f := f) (d := d) r i (by simpa using hi) (fun t ht => by simpa using h1 (t + 1) (by omega)) (fun h => by simpa using h2 (by simpa using h))
    unfold lbF at ih ⊢
    rw [List.takeWhile_cons_of_pos (by simpa using ha), List.length_cons, ih]
theorem lbF_le {α : Type} (f : α → Int) (l : List α) : lbF f l ≤ l.length := by
  unfold lbF
  exact (List.takeWhile_sublist _).length_le
theorem hasF_yes {α : Type} {f : α → Int} {d : α} {l : List α} {i : Nat} (h : lbF f l = i) (hi : i < l.length) (he : f (l.getD i d) = 0) : hasF f l = true := by
  unfold hasF
  rw [h, List.getElem?_eq_getElem hi]
  rw [at_k hi] at he
  simpa using he
theorem hasF_no {α : Type} {f : α → Int} {d : α} {l : List α} {i : Nat} (h : lbF f l = i) (hi : i < l.length) (he : f (l.getD i d) ≠ 0) : hasF f l = false := by
  unfold hasF
  rw [h, List.getElem?_eq_getElem hi]
  rw [at_k hi] at he
  simpa using he
theorem hasF_end {α : Type} {f : α → Int} {l : List α} {i : Nat} (h : lbF f l = i) (hi : ¬ i < l.length) : hasF f l = false := by
  unfold hasF
  rw [h, List.getElem?_eq_none (by omega)]
  rfl

section
variable {P : Program}
/-- append(nil, xs...): a row of its own, or nil. -/
theorem run_fresh (w : World) (H : Nat) (t ty e : TypeId) (i : TypeInfo) (z : Value) (size bytes : Nat) (ht : P.underlying t = some (.slice e)) (hi : P.info? e = some i) (hz : i.zero = some z)
    (hsize : i.size = size) (hby : i.bytes = bytes) (hzs : z.cells.size = size) (hsz : 0 < size) (A : Option Addr) (n c : Nat) (news : List Value) (hl : news.length = n * size)
    (hsrc : 0 < n → ∃ g off, A = some ⟨g, off, none⟩ ∧ ∀ j u, news[j]? = some u → w.cell? ⟨g, off + j, none⟩ = some u) (h1 : ∀ u ∈ news, u.oneCell' = true)
    (h63 : n ≤ maxLen) (hbytes : n * bytes ≤ 140737488355328) (hb : H ≤ w.heap.size) :
    ∃ A' c' w', (Builtin.append_ #[t, t] ty #[.slice none 0 0, .slice A n c]).run P w = .ok (.slice A' n c') w' ∧ w'.ownsRow H e size (.slice A' n c') n news ∧ w.grownBy w' none := by
  by_cases h0 : 0 < n
  · obtain ⟨g, off, rfl, hc⟩ := hsrc h0
    have hadd : ∀ j, (⟨g, off, none⟩ : Addr).add j = ⟨g, off + j, none⟩ := fun j => by unfold Addr.add; split <;> simp_all
    obtain ⟨g', cap, w', hr, h2, h3, _, _⟩ := run_append_lies (P := P) w t ty H e i z size bytes ht hi hz hsize hby hzs hsz (.slice none 0 0) 0 [] (World.ownsRow_nil _ _ _ _) ⟨g, off, none⟩ n c news hl (fun j u hu => by rw [hadd]; exact hc j u hu) h1 h0 (by omega) (by rw [Nat.zero_add]; exact hbytes) hb _ rfl
    rw [Nat.zero_add] at hr h2
    rw [List.nil_append] at h2
    exact ⟨_, _, w', hr, h2, h3⟩
  · obtain rfl : n = 0 := by omega
    obtain rfl : news = [] := List.eq_nil_of_length_eq_zero (by omega)
    have hl0 : ∀ x : Addr, (loadCells x 0).run P w = .ok #[] w := fun x => by simpa using run_loadCells_list (P := P) w x [] (by simp)
    refine ⟨none, 0, w, ?_, World.ownsRow_nil _ _ _ _, World.grownBy.refl _ _⟩
    cases A <;> simp [Builtin.append_, run_underlying ht, sizeOf, typeInfo, hi, Builtin.lenOf, Builtin.firstCells, hl0]
theorem wpList_fresh {w : World} {ops : Array Oper} {rest : List Oper} {o : Oper} {a : Act} {Q : Exit → Act → World → Prop} (hgd : o.guard = none) (s x : Operand) (t : TypeId)
    (ho : o.op = .call { callee := .builtin .append, args := #[s, x], argTypes := #[t, t] })
    (H : Nat) (e : TypeId) (i : TypeInfo) (z : Value) (size bytes : Nat) (ht : P.underlying t = some (.slice e)) (hi : P.info? e = some i) (hz : i.zero = some z)
    (hsize : i.size = size) (hby : i.bytes = bytes) (hzs : z.cells.size = size) (hsz : 0 < size) (A : Option Addr) (n c : Nat) (hs : a.eval s = .slice none 0 0) (hx : a.eval x = .slice A n c) (news : List Value) (hl : news.length = n * size)
    (hsrc : 0 < n → ∃ g off, A = some ⟨g, off, none⟩ ∧ ∀ j u, news[j]? = some u → w.cell? ⟨g, off + j, none⟩ = some u) (h1 : ∀ u ∈ news, u.oneCell' = true)
    (h63 : n ≤ maxLen) (hbytes : n * bytes ≤ 140737488355328) (hb : H ≤ w.heap.size)
    (h : ∀ A' c' w', w'.ownsRow H e size (.slice A' n c') n news → w.grownBy w' none → wpList P ops Q rest (a.put o.dst (.slice A' n c')) w') : wpList P ops Q (o :: rest) a w := by
  refine wpList_plain hgd fun K hK => ?_
  obtain ⟨A', c', w', hr, h2, h3⟩ := run_fresh (P := P) w H t o.type e i z size bytes ht hi hz hsize hby hzs hsz A n c news hl hsrc h1 h63 hbytes hb
  unfold Oper.wp execOp
  simp only [ho, resolve, invoke, builtin, Sem.run_bind, Sem.run_pure, Result.andThen_ok, List.map_toArray, List.map_cons, List.map_nil, hs, hx, hr]
  exact hK _ _ (h A' c' w' h2 h3)
/-- A slice of one struct is built. -/
theorem wpList_build1 {w : World} {ops : Array Oper} {rest : List Oper} {o : Oper} {a : Act} {Q : Exit → Act → World → Prop} (hgd : o.guard = none) (t e : TypeId) (x : Operand) (ho : o.op = .buildSlice t 1 #[(0, x)])
    (arr : Array Value) (i : TypeInfo) (z : Value) (size : Nat) (ht : P.underlying t = some (.slice e)) (hi : P.info? e = some i) (hz : i.zero = some z) (hsize : i.size = size) (hsz : 0 < size) (hsm : size ≤ 1000) (hzs : z.cells.size = size)
    (hx : a.eval x = .agg arr) (ha : arr.size = size) (h : wpList P ops Q rest (a.put o.dst (.slice (some ⟨w.heap.size, 0, none⟩) 1 1)) (w.alloc (.cells arr e))) : wpList P ops Q (o :: rest) a w := by
  subst hsize
  refine wpList_buildSlice hgd t e 1 _ ho arr i z ht hi hz (by omega) (by omega) ?_ h
  have := Great.fill_whole (s := i.size) hsz [.agg arr] ((Array.range (1 * i.size)).map (z.cells[· % z.cells.size]!)) (fun v hv => by rw [List.mem_singleton.1 hv]; exact ha) (by simp)
  simpa [hx, Value.cells] using this
end

theorem owns_step {base size n : Nat} {e : TypeId} {v : Value} {xs : List Value} {w w' : World} (h : w.ownsRow base e size v n xs) (k : KeepTy e w w') : w'.ownsRow base e size v n xs := by
  refine ⟨h.1, ?_⟩
  rcases h.2 with hn | ⟨g, cap, cur, hv, hbg, hgg, rest⟩
  · exact .inl hn
  · exact .inr ⟨g, cap, cur, hv, hbg, k _ _ _ hgg, rest⟩
theorem owns_base {base base' size n : Nat} {e : TypeId} {v : Value} {xs : List Value} {w : World} (h : w.ownsRow base e size v n xs) (hb : base' ≤ base) : w.ownsRow base' e size v n xs := by
  refine ⟨h.1, ?_⟩
  rcases h.2 with hn | ⟨g, cap, cur, hv, hbg, rest⟩
  · exact .inl hn
  · exact .inr ⟨g, cap, cur, hv, Nat.le_trans hb hbg, rest⟩
/-- A row that is owned can be read. -/
theorem own_cells {base size n c : Nat} {e : TypeId} {A : Option Addr} {w : World} {xs : List Value} (h : w.ownsRow base e size (.slice A n c) n xs) (hn : 0 < n) :
    ∃ (g : Nat) (cur : Array Value), A = some ⟨g, 0, none⟩ ∧ base ≤ g ∧ w.heap[g]? = some (.cells cur e (0, 0)) ∧ n ≤ c ∧ cur.size = c * size ∧ ∀ (j : Nat) (u : Value), xs[j]? = some u → cur[j]? = some u := by
  rcases h.2 with ⟨_, h0⟩ | ⟨g, cap, cur, hv, hb, hg, h1, _, h2, ht⟩
  · omega
  · injection hv with hA _ hc
    subst hc
    refine ⟨g, cur, hA, hb, hg, h1, h2, fun j u hu => ?_⟩
    rw [← Array.getElem?_toList]
    rw [← ht, List.getElem?_take] at hu
    split at hu
    · exact hu
    · cases hu
/-- What the program's table says of a struct's size. -/
theorem info_size {t : TypeId} {n k : Nat} (h : (Try.prog.info? t).map (fun i => (i.zero.map (·.cells.size), i.size, i.bytes)) = some (some n, n, k)) : ∃ i z, Try.prog.info? t = some i ∧ i.zero = some z ∧ i.size = n ∧ i.bytes = k ∧ z.cells.size = n := by
  cases hi : Try.prog.info? t with
  | none => rw [hi] at h; cases h
  | some i =>
    rw [hi, Option.map_some] at h
    injection h with h
    injection h with h1 h
    injection h with h2 h3
    cases hz : i.zero with
    | none => rw [hz] at h1; cases h1
    | some z =>
      rw [hz, Option.map_some] at h1
      exact ⟨i, z, rfl, hz, h2, h3, Option.some.inj h1⟩

section
variable {P : Program}
/-- copy of whole structs into a row that is known. -/
theorem run_copy_rows (w : World) (dT sT ty elem : TypeId) (size g o dLen dCap : Nat) (a : Addr) (sLen sCap : Nat) (cur : Array Value) (t : TypeId) (cs : List Value) (k : Nat)
    (hu : P.underlying dT = some (.slice elem)) (hs : (P.info? elem).map (·.size) = some size) (hg : w.heap[g]? = some (.cells cur t (0, 0))) (hk : Nat.min sLen dLen = k) (hn : cs.length = k * size)
    (hsrc : ∀ j v, cs[j]? = some v → w.cell? (a.add j) = some v) (hfit : o + cs.length ≤ cur.size) (h1 : ∀ v ∈ cs, v.oneCell' = true) :
    (Builtin.copy_ #[dT, sT] ty #[.slice (some ⟨g, o, none⟩) dLen dCap, .slice (some a) sLen sCap]).run P w =
      .ok (goInt k) (w.setRow g (cur.toList.take o ++ cs ++ cur.toList.drop (o + cs.length)).toArray) := by
  have hl := run_loadCells_list (P := P) w a cs hsrc
  have hst := run_storeCells_at P g o t cs 0 cur w hg (by simpa using hfit) h1
  cases hq : P.info? elem with
  | none => simp [hq] at hs
  | some i =>
    have hi : i.size = size := by simpa [hq] using hs
    rw [hn] at hl
    simp [Builtin.copy_, run_underlying hu, Builtin.lenOf, Builtin.firstCells, sizeOf, typeInfo, hq, hi, hk, hl, hst]
theorem wp_copy_is (w : World) {o : Oper} {a : Act} {K : Act → World → Prop} {Q : Exit → Act → World → Prop} (d s : Operand) (t t' : TypeId)
    (ho : o.op = .call { callee := .builtin .copy, args := #[d, s], argTypes := #[t, t'] }) (v u : Value) (hd : a.eval d = v) (hs : a.eval s = u) {v' : Value} {w' : World}
    (hr : (Builtin.copy_ #[t, t'] o.type #[v, u]).run P w = .ok v' w') (h : K (a.put o.dst v') w') : o.wp P a w K Q := by
  unfold Oper.wp execOp
  simp only [ho, resolve, invoke, builtin, Sem.run_bind, Sem.run_pure, Result.andThen_ok, List.map_toArray, List.map_cons, List.map_nil, hd, hs, hr]
  exact h
theorem wpList_copy_is (w : World) {ops : Array Oper} {rest : List Oper} {o : Oper} {a : Act} {Q : Exit → Act → World → Prop} (hgd : o.guard = none) (d s : Operand) (t t' : TypeId)
    (ho : o.op = .call { callee := .builtin .copy, args := #[d, s], argTypes := #[t, t'] }) (v u : Value) (hd : a.eval d = v) (hs : a.eval s = u) {v' : Value} {w' : World}
    (hr : (Builtin.copy_ #[t, t'] o.type #[v, u]).run P w = .ok v' w') (h : wpList P ops Q rest (a.put o.dst v') w') : wpList P ops Q (o :: rest) a w :=
  wpList_plain hgd fun _ hK => wp_copy_is w d s t t' ho v u hd hs hr (hK _ _ h)
theorem step_copy_is {ops : Array Oper} {o : Oper} {a : Act} {w : World} {K : Act → World → Prop} {Q : Exit → Act → World → Prop} {E : Prop}
    (hg : o.guard = none) (d x : Operand) (dT sT : TypeId) (hop : o.op = Op.call { callee := Callee.builtin Builtin.copy, args := #[d, x], argTypes := #[dT, sT] })
    (v u : Value) (hd : a.eval d = v) (hx : a.eval x = u) {v' : Value} {w' : World} (hr : (Builtin.copy_ #[dT, sT] o.type #[v, u]).run P w = .ok v' w') (hK : K (a.put o.dst v') w') :
    if Region.wanted o (yielded ops a.tmps) = true then Oper.wp P o a w K Q else E := by
  have hw : Region.wanted o (yielded ops a.tmps) = true := by simp [Region.wanted, hg]
  rw [if_pos hw]
  unfold Oper.wp
  simp [execOp, hop, resolve, invoke, builtin, hd, hx, hr, Result.andThen]
  exact hK
end

theorem take_three {α : Type} {a b c : List α} {p q : Nat} (ha : a.length = q) (hp : p ≤ q) : (a ++ b ++ c).take p = a.take p := by
  rw [List.append_assoc, List.take_append_of_le_length (by omega)]
theorem drop_three {α : Type} {a b c : List α} {q : Nat} (ha : a.length = q) : (a ++ b ++ c).drop q = b ++ c := by
  rw [List.append_assoc, List.drop_append, List.drop_eq_nil_of_le (by omega), ha, Nat.sub_self]; rfl
/-- What stands in a row behind the two copies of an insertion in place. -/
theorem ins_row {α : Type} {L xs vs : List α} {p s N : Nat} (hL : L.take N = xs) (hx : xs.length = N) (hp : p ≤ N) (hfit : N + s ≤ L.length) :
    (L.take (p + s) ++ xs.drop p ++ L.drop (p + s + (xs.drop p).length)).take p ++ vs ++ (L.take (p + s) ++ xs.drop p ++ L.drop (p + s + (xs.drop p).length)).drop (p + s) = xs.take p ++ vs ++ xs.drop p ++ L.drop (N + s) := by
  have e1 : (L.take (p + s)).length = p + s := by rw [List.length_take]; omega
  have e2 : p + s + (xs.drop p).length = N + s := by rw [List.length_drop, hx]; omega
  rw [take_three e1 (by omega), drop_three e1, e2, List.take_take, Nat.min_eq_left (by omega)]
  have e4 : L.take p = xs.take p := by rw [← hL, List.take_take, Nat.min_eq_left hp]
  rw [e4]
  simp only [List.append_assoc]
/-- What stands in a new row behind the two copies. -/
theorem grow_row {α : Type} {Z xs vs : List α} {p s N : Nat} (hx : xs.length = N) (hp : p ≤ N) (hv : vs.length = s) :
    ((xs.take p ++ Z).take p ++ vs ++ (xs.take p ++ Z).drop (p + vs.length)).take (p + s) ++ xs.drop p ++ ((xs.take p ++ Z).take p ++ vs ++ (xs.take p ++ Z).drop (p + vs.length)).drop (p + s + (xs.drop p).length) = xs.take p ++ vs ++ xs.drop p ++ Z.drop (N + s - p) := by
  have e1 : (xs.take p).length = p := by rw [List.length_take]; omega
  have e2 : (xs.drop p).length = N - p := by rw [List.length_drop, hx]
  have e3 : (xs.take p ++ Z).take p = xs.take p := by rw [List.take_append_of_le_length (Nat.le_of_eq e1.symm)]; exact List.take_of_length_le (Nat.le_of_eq e1)
  have e4 : (xs.take p ++ Z).drop (p + s) = Z.drop s := by rw [List.drop_append, e1, List.drop_eq_nil_of_le (by omega), List.nil_append, Nat.add_sub_cancel_left]
  have e5 : (xs.take p ++ vs).length = p + s := by rw [List.length_append, e1, hv]
  rw [hv, e3, e4, e2]
  generalize hM : xs.take p ++ vs = M at *
  have h1 : (M ++ Z.drop s).take (p + s) = M := by rw [List.take_append_of_le_length (by omega), List.take_of_length_le (by omega)]
  have h2 : (M ++ Z.drop s).drop (p + s + (N - p)) = Z.drop (N + s - p) := by
    rw [List.drop_append, List.drop_eq_nil_of_le (by omega), List.nil_append, List.drop_drop, e5]
    congr 1; omega
  rw [h1, h2]
theorem ins_len {α : Type} {xs vs : List α} {p s N : Nat} (hx : xs.length = N) (hp : p ≤ N) (hv : vs.length = s) : (xs.take p ++ vs ++ xs.drop p).length = N + s := by
  rw [List.length_append, List.length_append, List.length_take, List.length_drop]; omega
section
variable {P : Program} {ops : Array Oper} {Q : Exit → Act → World → Prop} {md : Region.Mode} {S : World → Prop}
/-- A slice of one struct is built: the operation. -/
theorem wp_build1 {w : World} {o : Oper} {a : Act} {K : Act → World → Prop} (t e : TypeId) (x : Operand) (ho : o.op = .buildSlice t 1 #[(0, x)])
    (arr : Array Value) (i : TypeInfo) (z : Value) (size : Nat) (ht : P.underlying t = some (.slice e)) (hi : P.info? e = some i) (hz : i.zero = some z) (hsize : i.size = size) (hsz : 0 < size) (hsm : size ≤ 1000) (hzs : z.cells.size = size)
    (hx : a.eval x = .agg arr) (ha : arr.size = size) (h : K (a.put o.dst (.slice (some ⟨w.heap.size, 0, none⟩) 1 1)) (w.alloc (.cells arr e))) : o.wp P a w K Q := by
  subst hsize
  refine wp_buildSlice t e 1 _ ho arr i z ht hi hz (by omega) (by omega) ?_ h
  have := Great.fill_whole (s := i.size) hsz [.agg arr] ((Array.range (1 * i.size)).map (z.cells[· % z.cells.size]!)) (fun v hv => by rw [List.mem_singleton.1 hv]; exact ha) (by simp)
  simpa [hx, Value.cells] using this
end
end Go.Proofs.Ytbajmbegkacbbaa
