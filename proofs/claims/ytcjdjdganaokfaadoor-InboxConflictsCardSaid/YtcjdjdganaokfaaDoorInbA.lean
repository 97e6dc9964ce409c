/-
  Lists of messages in memory; binary search among messages and among senders.
-/
import Derived.Test.YtcjdjdganaokfaaDoorMsgU
import Derived.Test.YtcjdjdganaokfaaDoorShelf2
namespace Go.Proofs.YtcjdjdganaokfaaDoor
open Go.RowKit

section
variable {P : Program}
/-- A struct is loaded from the middle of a row. -/
theorem run_loadVar_at (w : World) (g off : Nat) (ty : TypeId) (cs : Array Value) (d : TypeDesc) (hg : ∀ j u, cs[j]? = some u → w.cell? ⟨g, off + j, none⟩ = some u)
    (hu : P.underlying ty = some d) (hd : (match d with | .struct _ | .array _ _ => true | _ => false) = true) (hi : (P.info? ty).map (·.size) = some cs.size) :
    (loadVar ty ⟨g, off, none⟩).run P w = .ok (.agg cs) w := by
  have hl : (loadCells ⟨g, off, none⟩ cs.toList.length).run P w = .ok cs.toList.toArray w :=
    run_loadCells_list (P := P) w ⟨g, off, none⟩ cs.toList (fun j v hv => by
      have hadd : (⟨g, off, none⟩ : Addr).add j = ⟨g, off + j, none⟩ := by unfold Addr.add; split <;> simp_all
      rw [hadd]
      exact hg j v (by simpa using hv))
  cases hq : P.info? ty with
  | none => simp [hq] at hi
  | some i =>
    have hs : i.size = cs.size := by simpa [hq] using hi
    have hagg : (isAgg ty).run P w = .ok true w := by
      unfold isAgg
      rw [Sem.run_bind, run_underlying hu w]
      cases d <;> simp_all
    simp only [Array.length_toList, Array.toArray_toList] at hl
    simp [loadVar, Sem.run_bind, hagg, sizeOf, typeInfo, hq, hs, hl]
theorem wp_load_at {o : Oper} {a : Act} {w : World} {K : Act → World → Prop} {Q : Exit → Act → World → Prop} (ty : TypeId) (x : Operand) (ho : o.op = .load ty x)
    (g off : Nat) (hx : a.eval x = .pointer (some ⟨g, off, none⟩)) (cs : Array Value) (d : TypeDesc) (hg : ∀ j u, cs[j]? = some u → w.cell? ⟨g, off + j, none⟩ = some u)
    (hu : P.underlying ty = some d) (hd : (match d with | .struct _ | .array _ _ => true | _ => false) = true) (hi : (P.info? ty).map (·.size) = some cs.size)
    (h : K (a.put o.dst (.agg cs)) w) : o.wp P a w K Q := by
  unfold Oper.wp execOp
  simp only [ho, hx, Instr.loadAt, Instr.sureAddr, Sem.run_bind, Sem.run_pure, Result.andThen_ok, run_loadVar_at w g off ty cs d hg hu hd hi]
  exact h
theorem wpList_load_at {ops : Array Oper} {rest : List Oper} {o : Oper} {a : Act} {w : World} {Q : Exit → Act → World → Prop} (hgd : o.guard = none) (ty : TypeId) (x : Operand) (ho : o.op = .load ty x)
    (g off : Nat) (hx : a.eval x = .pointer (some ⟨g, off, none⟩)) (cs : Array Value) (d : TypeDesc) (hg : ∀ j u, cs[j]? = some u → w.cell? ⟨g, off + j, none⟩ = some u)
    (hu : P.underlying ty = some d) (hd : (match d with | .struct _ | .array _ _ => true | _ => false) = true) (hi : (P.info? ty).map (·.size) = some cs.size)
    (h : wpList P ops Q rest (a.put o.dst (.agg cs)) w) : wpList P ops Q (o :: rest) a w :=
  wpList_plain hgd fun _ hK => wp_load_at ty x ho g off hx cs d hg hu hd hi (hK _ _ h)
theorem wpList_load_at_w {ops : Array Oper} {rest : List Oper} {o : Oper} {a : Act} {w : World} {Q : Exit → Act → World → Prop} (hw : Region.wanted o (yielded ops a.tmps) = true) (ty : TypeId) (x : Operand) (ho : o.op = .load ty x)
    (g off : Nat) (hx : a.eval x = .pointer (some ⟨g, off, none⟩)) (cs : Array Value) (d : TypeDesc) (hg : ∀ j u, cs[j]? = some u → w.cell? ⟨g, off + j, none⟩ = some u)
    (hu : P.underlying ty = some d) (hd : (match d with | .struct _ | .array _ _ => true | _ => false) = true) (hi : (P.info? ty).map (·.size) = some cs.size)
    (h : wpList P ops Q rest (a.put o.dst (.agg cs)) w) : wpList P ops Q (o :: rest) a w :=
  BigFrame.wpList_want hw fun _ hK => wp_load_at ty x ho g off hx cs d hg hu hd hi (hK _ _ h)
end

/-- Rows of things of n cells each, read. -/
theorem flatK_at {α : Type} (f : α → List Value) (n : Nat) (hf : ∀ x, (f x).length = n) (l : List α) (i : Nat) (h : i < l.length) (k : Nat) (hk : k < n) : (l.flatMap f)[i * n + k]? = (f l[i])[k]? := by
  induction l generalizing i with
  | nil => simp at h
  | cons x l ih =>
    rw [List.flatMap_cons]
    cases i with
    | zero => rw [Nat.zero_mul, Nat.zero_add, List.getElem?_append_left (by rw [hf]; exact hk)]; rfl
    | succ i =>
      have e : (i + 1) * n + k = n + (i * n + k) := by rw [Nat.add_mul]; omega
      rw [e, List.getElem?_append_right (by rw [hf]; omega), hf, Nat.add_sub_cancel_left]
      exact ih i (by simpa using h)
theorem flatK_len {α : Type} (f : α → List Value) (n : Nat) (hf : ∀ x, (f x).length = n) (l : List α) : (l.flatMap f).length = l.length * n := by
  induction l with
  | nil => simp
  | cons x l ih => rw [List.flatMap_cons, List.length_append, ih, hf, List.length_cons, Nat.add_mul]; omega

/-- How many of a list stand ahead of something; whether it is there. -/
def lbF {α : Type} (f : α → Int) (l : List α) : Nat := (l.takeWhile fun x => decide (f x < 0)).length
def hasF {α : Type} (f : α → Int) (l : List α) : Bool := (l[lbF f l]?).any fun x => decide (f x = 0)
def MonoF {α : Type} (f : α → Int) (l : List α) (d : α) : Prop := ∀ a b, a ≤ b → b < l.length → f (l.getD b d) < 0 → f (l.getD a d) < 0
theorem lbF_eq {α : Type} {f : α → Int} {d : α} : ∀ (l : List α) (i : Nat), i ≤ l.length → (∀ t, t < i → f (l.getD t d) < 0) → (i < l.length → 0 ≤ f (l.getD i d)) → lbF f l = i
  | [], i, hi, _, _ => by simp at hi; simp [lbF, hi]
  | x :: r, 0, _, _, h2 => by
    have : 0 ≤ f x := by simpa using h2 (by simp)
    unfold lbF
    rw [List.takeWhile_cons_of_neg (by simp; omega)]
    rfl
  | x :: r, i + 1, hi, h1, h2 => by
    have ha : f x < 0 := by simpa using h1 0 (Nat.succ_pos _)
    have ih := lbF_eq (f := f) (d := d) r i (by simpa using hi) (fun t ht => by simpa using h1 (t + 1) (by omega)) (fun h => by simpa using h2 (by simpa using h))
    unfold lbF at ih ⊢
    rw [List.takeWhile_cons_of_pos (by simpa using ha), List.length_cons, ih]
theorem lbF_le {α : Type} (f : α → Int) (l : List α) : lbF f l ≤ l.length := by
  unfold lbF
  exact (List.takeWhile_sublist _).length_le
theorem hasF_yes {α : Type} {f : α → Int} {d : α} {l : List α} {i : Nat} (h : lbF f l = i) (hi : i < l.length) (he : f (l.getD i d) = 0) : hasF f l = true := by
  unfold hasF
  rw [h, List.getElem?_eq_getElem hi]
  rw [at_k hi] at he
  simpa using he
theorem hasF_no {α : Type} {f : α → Int} {d : α} {l : List α} {i : Nat} (h : lbF f l = i) (hi : i < l.length) (he : f (l.getD i d) ≠ 0) : hasF f l = false := by
  unfold hasF
  rw [h, List.getElem?_eq_getElem hi]
  rw [at_k hi] at he
  simpa using he
theorem hasF_end {α : Type} {f : α → Int} {l : List α} {i : Nat} (h : lbF f l = i) (hi : ¬ i < l.length) : hasF f l = false := by
  unfold hasF
  rw [h, List.getElem?_eq_none (by omega)]
  rfl

/-- A message with its two slices. -/
structure MsS where
  m : Msg
  P : Option Addr
  c : Nat
  Q : Option Addr
  d : Nat
abbrev MsS.arr (x : MsS) : Array Value := msgL x.m x.P x.c x.Q x.d
abbrev MsS.v (x : MsS) : Value := .agg x.arr
def MsS.cs (x : MsS) : List Value := x.arr.toList
def ms0 : MsS := ⟨msg0, none, 0, none, 0⟩
theorem MsS.cs_len (x : MsS) : x.cs.length = 30 := rfl
/-- What its slices point at can be read. -/
def MsS.Lies (b : Nat) (w : World) (x : MsS) : Prop := LegsIn b w x.P x.m.onw ∧ NumsIn b w x.Q x.m.lst
theorem MsS.Lies.keep {b : Nat} {w w1 : World} {x : MsS} (h : x.Lies b w) (hb : Below w.heap.size w w1) : x.Lies b w1 := ⟨h.1.keep hb, h.2.keep hb⟩
theorem MsS.Lies.grown {b : Nat} {w w1 : World} {x : MsS} (h : x.Lies b w) (hg : w.grownBy w1 (some b)) : x.Lies b w1 := ⟨h.1.grown hg, h.2.grown hg⟩
/-- Some messages, in a row that is not block b. -/
def MsgsIn (b : Nat) (w : World) (A : Option Addr) (xs : List MsS) : Prop :=
  0 < xs.length → ∃ g off, A = some ⟨g, off, none⟩ ∧ g ≠ b ∧ (∀ j u, (xs.flatMap MsS.cs)[j]? = some u → w.cell? ⟨g, off + j, none⟩ = some u) ∧ ∀ x ∈ xs, x.Lies b w
theorem MsgsIn.keep {b : Nat} {w w1 : World} {A : Option Addr} {xs : List MsS} (h : MsgsIn b w A xs) (hb : Below w.heap.size w w1) : MsgsIn b w1 A xs := fun hn => by
  obtain ⟨g, off, hA, hg, hc, hl⟩ := h hn
  exact ⟨g, off, hA, hg, fun j u hu => kept hb (hc j u hu), fun x hx => (hl x hx).keep hb⟩
theorem MsgsIn.grown {b : Nat} {w w1 : World} {A : Option Addr} {xs : List MsS} (h : MsgsIn b w A xs) (hg : w.grownBy w1 (some b)) : MsgsIn b w1 A xs := fun hn => by
  obtain ⟨g, off, hA, hgb, hc, hl⟩ := h hn
  exact ⟨g, off, hA, hgb, fun j u hu => hg.cell (hc j u hu) (by simpa using hgb), fun x hx => (hl x hx).grown hg⟩
theorem MsgsIn.nil (b : Nat) (w : World) (A : Option Addr) : MsgsIn b w A [] := fun h => absurd h (Nat.lt_irrefl 0)
theorem MsgsIn.at {b : Nat} {w : World} {A : Option Addr} {xs : List MsS} (h : MsgsIn b w A xs) {i : Nat} (hi : i < xs.length) :
    ∃ g off, A = some ⟨g, off, none⟩ ∧ g ≠ b ∧ (∀ j u, (xs.getD i ms0).arr[j]? = some u → w.cell? ⟨g, off + i * 30 + j, none⟩ = some u) ∧ (xs.getD i ms0).Lies b w := by
  obtain ⟨g, off, hA, hg, hc, hl⟩ := h (by omega)
  rw [at_k hi]
  refine ⟨g, off, hA, hg, fun j u hu => ?_, hl _ (List.getElem_mem _)⟩
  have hj : j < 30 := by
    have := (Array.getElem?_eq_some_iff.1 hu).1
    simpa using this
  rw [Nat.add_assoc]
  refine hc _ _ ?_
  rw [flatK_at MsS.cs 30 MsS.cs_len xs i hi j hj]
  rw [← Array.getElem?_toList] at hu
  exact hu

/-- How the number of a held message lies to a number. -/
def numC (t : Int) (x : MsS) : Int := Lib.compareInt x.m.num t
theorem fh1_any (x : MsS) (n : Int) (w : World) :
    Calls Tryd.prog 86 #[x.v, .int .i64 n] w fun e w' => e = .returned (.int .i64 (numC n x)) ∧ Below w.heap.size w w' := by
  have z3 : (w.alloc (.cells x.arr 32)).cell? ⟨w.heap.size, 3, none⟩ = some (.int .i64 x.m.num) := by rw [Lib.cell_of_heap (heap_alloc_new w _)]; rfl
  have B1 := hide ((Below.refl w.heap.size w).alloc (Nat.le_refl _) (.cells x.arr 32))
  go_enter Tryd.func86, Tryd.ntmps86
  go_wp2_with (go_at_call 87; refine (Tryd.cmp_Compare_int _ _ _).mono ?_; rintro e w1 ⟨rfl, rfl⟩)
  go_ret
  exact ⟨rfl, unhide B1⟩

set_option maxHeartbeats 4000000 in
set_option maxRecDepth 100000 in
theorem bsm_any (b : Nat) (A : Option Addr) (cap : Nat) (xs : List MsS) (t : Int) (w : World) (h : MsgsIn b w A xs) (hz : xs.length ≤ 1000000) (hm : MonoF (numC t) xs ms0) :
    Calls Tryd.prog 85 #[.slice A xs.length cap, .int .i64 t, .func (.func 86) #[] #[]] w
      fun e w' => e = .returned (.tuple #[.int .i64 (lbF (numC t) xs : Nat), .bool (hasF (numC t) xs)]) ∧ Below w.heap.size w w' := by
  have HI := hide h
  have HM := hide hm
  clear h hm
  go_enter Tryd.func85, Tryd.ntmps85
  go_wp2
  go_loopw [9, 10] (fun s9 s10 wr => ∃ lo hi : Nat, s9 = .int .i64 lo ∧ s10 = .int .i64 hi ∧ lo ≤ hi ∧ hi ≤ xs.length ∧ Hid (Below w.heap.size w wr) ∧ Hid ((∀ k, k < lo → numC t (xs.getD k ms0) < 0) ∧ (hi < xs.length → 0 ≤ numC t (xs.getD hi ms0)))) (fun s9 s10 _ => (intOf s10).toNat - (intOf s9).toNat)
  case atStart => exact ⟨0, xs.length, rfl, rfl, Nat.zero_le _, Nat.le_refl _, Lib.hid (Below.refl _ _), Lib.hid ⟨fun k hk => absurd hk (Nat.not_lt_zero _), fun h => absurd h (Nat.lt_irrefl _)⟩⟩
  case round =>
    obtain ⟨lo, hi, rfl, rfl, hlh, hin, HB, HX⟩ := hrel
    obtain ⟨wo, rfl⟩ : ∃ wo : World, wo = wr := ⟨_, rfl⟩
    by_cases hlt : lo < hi
    · obtain ⟨g, off, rfl, hg, hc, -⟩ := ((unhide HI).keep HB.out).at (i := (lo + hi) / 2) (by omega)
      have HY := hide (show ∀ y, xs.getD ((lo + hi) / 2) ms0 = y → numC t y < 0 → (∀ k, k < (lo + hi) / 2 + 1 → numC t (xs.getD k ms0) < 0) from fun y hy hn k hk => (unhide HM) k ((lo + hi) / 2) (by omega) (by omega) (by rw [hy]; exact hn))
      generalize hx : xs.getD ((lo + hi) / 2) ms0 = x at hc
      have HX0 := hide hx
      have HC := hide hc
      clear hx hc
      cases hn : decide (numC t x < 0) with
      | true =>
        have hn' : numC t x < 0 := of_decide_eq_true hn
        go_wp2_with (first
          | (refine wpList_load_at rfl _ _ rfl g (off + (lo + hi) / 2 * 30) rfl _ _ (unhide HC) undM' undM infoM ?_)
          | (go_at_call 86; refine (fh1_any x t _).mono ?_; rintro e w1 ⟨rfl, hb1⟩; have HB1 := hide hb1; clear hb1))
        go_roundw
        case rel => exact ⟨(lo + hi) / 2 + 1, hi, by go_num, rfl, by omega, hin, Lib.hid (onward HB.out (unhide HB1)), Lib.hid ⟨unhide HY x (unhide HX0) hn', HX.out.2⟩⟩
        case measure => simp [intOf]; omega
      | false =>
        have hn' : ¬ numC t x < 0 := of_decide_eq_false hn
        go_wp2_with (first
          | (refine wpList_load_at rfl _ _ rfl g (off + (lo + hi) / 2 * 30) rfl _ _ (unhide HC) undM' undM infoM ?_)
          | (go_at_call 86; refine (fh1_any x t _).mono ?_; rintro e w1 ⟨rfl, hb1⟩; have HB1 := hide hb1; clear hb1))
        go_roundw
        case rel => exact ⟨lo, (lo + hi) / 2, rfl, by go_num, by omega, by omega, Lib.hid (onward HB.out (unhide HB1)), Lib.hid ⟨HX.out.1, fun _ => by rw [unhide HX0]; omega⟩⟩
        case measure => simp [intOf]; omega
    · obtain rfl : hi = lo := by omega
      have HE := hide (lbF_eq (f := numC t) xs hi hin HX.out.1 HX.out.2)
      by_cases hn : hi < xs.length
      · obtain ⟨g, off, rfl, hg, hc, -⟩ := ((unhide HI).keep HB.out).at (i := hi) hn
        have HQ := hide (show ∀ y, xs.getD hi ms0 = y → (numC t y = 0 → hasF (numC t) xs = true) ∧ (numC t y ≠ 0 → hasF (numC t) xs = false) from fun y hy => ⟨fun h => hasF_yes (d := ms0) (unhide HE) hn (by rw [hy]; exact h), fun h => hasF_no (d := ms0) (unhide HE) hn (by rw [hy]; exact h)⟩)
        generalize hx : xs.getD hi ms0 = x at hc
        have HX0 := hide hx
        have HC := hide hc
        clear hx hc
        cases hq : decide (numC t x = 0) with
        | true =>
          have hq' : numC t x = 0 := of_decide_eq_true hq
          go_wp2_with (first
            | (refine wpList_load_at_w rfl _ _ rfl g (off + hi * 30) rfl _ _ (unhide HC) undM' undM infoM ?_)
            | (go_at_call 86; refine (fh1_any x t _).mono ?_; rintro e w1 ⟨rfl, hb1⟩; have HB1 := hide hb1; clear hb1))
          go_ret2
          exact ⟨by rw [unhide HE, (unhide HQ x (unhide HX0)).1 hq']; rfl, onward HB.out (unhide HB1)⟩
        | false =>
          have HQ' := hide (show ¬ numC t x = 0 from of_decide_eq_false hq)
          have hb : (numC t x == 0) = false := by simpa using unhide HQ'
          clear hq
          go_wp2_with (first
            | (refine wpList_load_at_w rfl _ _ rfl g (off + hi * 30) rfl _ _ (unhide HC) undM' undM infoM ?_)
            | (go_at_call 86; refine (fh1_any x t _).mono ?_; rintro e w1 ⟨rfl, hb1⟩; have HB1 := hide hb1; clear hb1))
          go_ret2
          exact ⟨by rw [unhide HE, (unhide HQ x (unhide HX0)).2 (unhide HQ')]; rfl, onward HB.out (unhide HB1)⟩
      · go_wp2
        go_ret2
        exact ⟨by rw [unhide HE, hasF_end (unhide HE) hn]; rfl, HB.out⟩
/-- A sender with the messages that it holds. -/
structure SnS where
  port : ByteArray
  next : Int
  A : Option Addr
  c : Nat
  held : List MsS
abbrev SnS.arr (s : SnS) : Array Value := #[.string s.port, .int .i64 s.next, .slice s.A s.held.length s.c]
abbrev SnS.v (s : SnS) : Value := .agg s.arr
def SnS.cs (s : SnS) : List Value := s.arr.toList
def sn0 : SnS := ⟨⟨#[]⟩, 0, none, 0, []⟩
theorem SnS.cs_len (s : SnS) : s.cs.length = 3 := rfl
theorem infoS : (Tryd.prog.info? 93).map (·.size) = some 3 := by kernel_rfl
theorem undS : (match (Tryd.prog.underlying 93).getD .bool with | .struct _ | .array _ _ => true | _ => false) = true := by kernel_rfl
theorem undS' : Tryd.prog.underlying 93 = some ((Tryd.prog.underlying 93).getD .bool) := by kernel_rfl
/-- Some senders, in a row that is not block b. -/
def SndsIn (b : Nat) (w : World) (A : Option Addr) (xs : List SnS) : Prop :=
  0 < xs.length → ∃ g off, A = some ⟨g, off, none⟩ ∧ g ≠ b ∧ (∀ j u, (xs.flatMap SnS.cs)[j]? = some u → w.cell? ⟨g, off + j, none⟩ = some u) ∧ ∀ x ∈ xs, MsgsIn b w x.A x.held
theorem SndsIn.keep {b : Nat} {w w1 : World} {A : Option Addr} {xs : List SnS} (h : SndsIn b w A xs) (hb : Below w.heap.size w w1) : SndsIn b w1 A xs := fun hn => by
  obtain ⟨g, off, hA, hg, hc, hl⟩ := h hn
  exact ⟨g, off, hA, hg, fun j u hu => kept hb (hc j u hu), fun x hx => (hl x hx).keep hb⟩
theorem SndsIn.grown {b : Nat} {w w1 : World} {A : Option Addr} {xs : List SnS} (h : SndsIn b w A xs) (hg : w.grownBy w1 (some b)) : SndsIn b w1 A xs := fun hn => by
  obtain ⟨g, off, hA, hgb, hc, hl⟩ := h hn
  exact ⟨g, off, hA, hgb, fun j u hu => hg.cell (hc j u hu) (by simpa using hgb), fun x hx => (hl x hx).grown hg⟩
theorem SndsIn.nil (b : Nat) (w : World) (A : Option Addr) : SndsIn b w A [] := fun h => absurd h (Nat.lt_irrefl 0)
theorem SndsIn.at {b : Nat} {w : World} {A : Option Addr} {xs : List SnS} (h : SndsIn b w A xs) {i : Nat} (hi : i < xs.length) :
    ∃ g off, A = some ⟨g, off, none⟩ ∧ g ≠ b ∧ (∀ j u, (xs.getD i sn0).arr[j]? = some u → w.cell? ⟨g, off + i * 3 + j, none⟩ = some u) ∧ MsgsIn b w (xs.getD i sn0).A (xs.getD i sn0).held := by
  obtain ⟨g, off, hA, hg, hc, hl⟩ := h (by omega)
  rw [at_k hi]
  refine ⟨g, off, hA, hg, fun j u hu => ?_, hl _ (List.getElem_mem _)⟩
  have hj : j < 3 := by
    have := (Array.getElem?_eq_some_iff.1 hu).1
    simpa using this
  rw [Nat.add_assoc]
  refine hc _ _ ?_
  rw [flatK_at SnS.cs 3 SnS.cs_len xs i hi j hj]
  rw [← Array.getElem?_toList] at hu
  exact hu

/-- How the port of a sender lies to a port. -/
def portC (t : ByteArray) (s : SnS) : Int := Lib.compareBytes s.port.data.toList t.data.toList
theorem fi1_any (x : SnS) (t : ByteArray) (w : World) :
    Calls Tryd.prog 78 #[x.v, .string t] w fun e w' => e = .returned (.int .i64 (portC t x)) ∧ Below w.heap.size w w' := by
  have z3 : (w.alloc (.cells x.arr 93)).cell? ⟨w.heap.size, 0, none⟩ = some (.string x.port) := by rw [Lib.cell_of_heap (heap_alloc_new w _)]; rfl
  have B1 := hide ((Below.refl w.heap.size w).alloc (Nat.le_refl _) (.cells x.arr 93))
  go_enter Tryd.func78, Tryd.ntmps78
  go_wp2_with (go_at_call 79; refine (Tryd.strings_Compare _ _ _).mono ?_; rintro e w1 ⟨rfl, rfl⟩)
  go_ret
  exact ⟨rfl, unhide B1⟩

set_option maxHeartbeats 4000000 in
set_option maxRecDepth 100000 in
theorem bss_any (b : Nat) (A : Option Addr) (cap : Nat) (xs : List SnS) (t : ByteArray) (w : World) (h : SndsIn b w A xs) (hz : xs.length ≤ 1000000) (hm : MonoF (portC t) xs sn0) :
    Calls Tryd.prog 77 #[.slice A xs.length cap, .string t, .func (.func 78) #[] #[]] w
      fun e w' => e = .returned (.tuple #[.int .i64 (lbF (portC t) xs : Nat), .bool (hasF (portC t) xs)]) ∧ Below w.heap.size w w' := by
  have HI := hide h
  have HM := hide hm
  clear h hm
  go_enter Tryd.func77, Tryd.ntmps77
  go_wp2
  go_loopw [9, 10] (fun s9 s10 wr => ∃ lo hi : Nat, s9 = .int .i64 lo ∧ s10 = .int .i64 hi ∧ lo ≤ hi ∧ hi ≤ xs.length ∧ Hid (Below w.heap.size w wr) ∧ Hid ((∀ k, k < lo → portC t (xs.getD k sn0) < 0) ∧ (hi < xs.length → 0 ≤ portC t (xs.getD hi sn0)))) (fun s9 s10 _ => (intOf s10).toNat - (intOf s9).toNat)
  case atStart => exact ⟨0, xs.length, rfl, rfl, Nat.zero_le _, Nat.le_refl _, Lib.hid (Below.refl _ _), Lib.hid ⟨fun k hk => absurd hk (Nat.not_lt_zero _), fun h => absurd h (Nat.lt_irrefl _)⟩⟩
  case round =>
    obtain ⟨lo, hi, rfl, rfl, hlh, hin, HB, HX⟩ := hrel
    obtain ⟨wo, rfl⟩ : ∃ wo : World, wo = wr := ⟨_, rfl⟩
    by_cases hlt : lo < hi
    · obtain ⟨g, off, rfl, hg, hc, -⟩ := ((unhide HI).keep HB.out).at (i := (lo + hi) / 2) (by omega)
      have HY := hide (show ∀ y : SnS, xs.getD ((lo + hi) / 2) sn0 = y → portC t y < 0 → (∀ k, k < (lo + hi) / 2 + 1 → portC t (xs.getD k sn0) < 0) from fun y hy hn k hk => (unhide HM) k ((lo + hi) / 2) (by omega) (by omega) (by rw [hy]; exact hn))
      generalize hx : xs.getD ((lo + hi) / 2) sn0 = x at hc
      have HX0 := hide hx
      have HC := hide hc
      clear hx hc
      cases hn : decide (portC t x < 0) with
      | true =>
        have hn' : portC t x < 0 := of_decide_eq_true hn
        go_wp2_with (first
          | (refine wpList_load_at rfl _ _ rfl g (off + (lo + hi) / 2 * 3) rfl _ _ (unhide HC) undS' undS infoS ?_)
          | (go_at_call 78; refine (fi1_any x t _).mono ?_; rintro e w1 ⟨rfl, hb1⟩; have HB1 := hide hb1; clear hb1))
        go_roundw
        case rel => exact ⟨(lo + hi) / 2 + 1, hi, by go_num, rfl, by omega, hin, Lib.hid (onward HB.out (unhide HB1)), Lib.hid ⟨unhide HY x (unhide HX0) hn', HX.out.2⟩⟩
        case measure => simp [intOf]; omega
      | false =>
        have hn' : ¬ portC t x < 0 := of_decide_eq_false hn
        go_wp2_with (first
          | (refine wpList_load_at rfl _ _ rfl g (off + (lo + hi) / 2 * 3) rfl _ _ (unhide HC) undS' undS infoS ?_)
          | (go_at_call 78; refine (fi1_any x t _).mono ?_; rintro e w1 ⟨rfl, hb1⟩; have HB1 := hide hb1; clear hb1))
        go_roundw
        case rel => exact ⟨lo, (lo + hi) / 2, rfl, by go_num, by omega, by omega, Lib.hid (onward HB.out (unhide HB1)), Lib.hid ⟨HX.out.1, fun _ => by rw [unhide HX0]; omega⟩⟩
        case measure => simp [intOf]; omega
    · obtain rfl : hi = lo := by omega
      have HE := hide (lbF_eq (f := portC t) xs hi hin HX.out.1 HX.out.2)
      by_cases hn : hi < xs.length
      · obtain ⟨g, off, rfl, hg, hc, -⟩ := ((unhide HI).keep HB.out).at (i := hi) hn
        have HQ := hide (show ∀ y : SnS, xs.getD hi sn0 = y → (portC t y = 0 → hasF (portC t) xs = true) ∧ (portC t y ≠ 0 → hasF (portC t) xs = false) from fun y hy => ⟨fun h => hasF_yes (d := sn0) (unhide HE) hn (by rw [hy]; exact h), fun h => hasF_no (d := sn0) (unhide HE) hn (by rw [hy]; exact h)⟩)
        generalize hx : xs.getD hi sn0 = x at hc
        have HX0 := hide hx
        have HC := hide hc
        clear hx hc
        cases hq : decide (portC t x = 0) with
        | true =>
          have hq' : portC t x = 0 := of_decide_eq_true hq
          go_wp2_with (first
            | (refine wpList_load_at_w rfl _ _ rfl g (off + hi * 3) rfl _ _ (unhide HC) undS' undS infoS ?_)
            | (go_at_call 78; refine (fi1_any x t _).mono ?_; rintro e w1 ⟨rfl, hb1⟩; have HB1 := hide hb1; clear hb1))
          go_ret2
          exact ⟨by rw [unhide HE, (unhide HQ x (unhide HX0)).1 hq']; rfl, onward HB.out (unhide HB1)⟩
        | false =>
          have HQ' := hide (show ¬ portC t x = 0 from of_decide_eq_false hq)
          have hb : (portC t x == 0) = false := by simpa using unhide HQ'
          clear hq
          go_wp2_with (first
            | (refine wpList_load_at_w rfl _ _ rfl g (off + hi * 3) rfl _ _ (unhide HC) undS' undS infoS ?_)
            | (go_at_call 78; refine (fi1_any x t _).mono ?_; rintro e w1 ⟨rfl, hb1⟩; have HB1 := hide hb1; clear hb1))
          go_ret2
          exact ⟨by rw [unhide HE, (unhide HQ x (unhide HX0)).2 (unhide HQ')]; rfl, onward HB.out (unhide HB1)⟩
      · go_wp2
        go_ret2
        exact ⟨by rw [unhide HE, hasF_end (unhide HE) hn]; rfl, HB.out⟩

/-- The value of an inbox. -/
abbrev ibV (win : Int) (A : Option Addr) (n c : Nat) : Value := .agg #[.int .i64 win, .slice A n c]
set_option maxHeartbeats 1000000 in
theorem find_any (b : Nat) (win : Int) (A : Option Addr) (cap : Nat) (xs : List SnS) (t : ByteArray) (w : World) (h : SndsIn b w A xs) (hz : xs.length ≤ 1000000) (hm : MonoF (portC t) xs sn0) :
    Calls Tryd.prog 37 #[ibV win A xs.length cap, .string t] w
      fun e w' => e = .returned (.tuple #[.int .i64 (lbF (portC t) xs : Nat), .bool (hasF (portC t) xs)]) ∧ Below w.heap.size w w' := by
  have z1 : (w.alloc (.cells #[.int .i64 win, .slice A xs.length cap] 46)).cell? ⟨w.heap.size, 1, none⟩ = some (.slice A xs.length cap) := by rw [Lib.cell_of_heap (heap_alloc_new w _)]; rfl
  have b1 := (Below.refl w.heap.size w).alloc (Nat.le_refl _) (.cells #[.int .i64 win, .slice A xs.length cap] 46)
  have HC := hide (bss_any b A cap xs t _ (h.keep b1) hz hm)
  have B1 := hide b1
  clear h hm b1
  go_enter Tryd.func37, Tryd.ntmps37
  go_wp2_with (go_at_call 77; refine (unhide HC).mono ?_; rintro e w1 ⟨rfl, hb1⟩; have HB1 := hide hb1; clear hb1)
  go_ret2
  exact ⟨rfl, onward (unhide B1) (unhide HB1)⟩
set_option maxHeartbeats 1000000 in
theorem findheld_any (b : Nat) (s : SnS) (t : Int) (w : World) (h : MsgsIn b w s.A s.held) (hz : s.held.length ≤ 1000000) (hm : MonoF (numC t) s.held ms0) :
    Calls Tryd.prog 45 #[s.v, .int .i64 t] w
      fun e w' => e = .returned (.tuple #[.int .i64 (lbF (numC t) s.held : Nat), .bool (hasF (numC t) s.held)]) ∧ Below w.heap.size w w' := by
  have z1 : (w.alloc (.cells s.arr 93)).cell? ⟨w.heap.size, 2, none⟩ = some (.slice s.A s.held.length s.c) := by rw [Lib.cell_of_heap (heap_alloc_new w _)]; rfl
  have b1 := (Below.refl w.heap.size w).alloc (Nat.le_refl _) (.cells s.arr 93)
  have HC := hide (bsm_any b s.A s.c s.held t _ (h.keep b1) hz hm)
  have B1 := hide b1
  clear h hm b1
  go_enter Tryd.func45, Tryd.ntmps45
  go_wp2_with (go_at_call 85; refine (unhide HC).mono ?_; rintro e w1 ⟨rfl, hb1⟩; have HB1 := hide hb1; clear hb1)
  go_ret2
  exact ⟨rfl, onward (unhide B1) (unhide HB1)⟩
end Go.Proofs.YtcjdjdganaokfaaDoor
