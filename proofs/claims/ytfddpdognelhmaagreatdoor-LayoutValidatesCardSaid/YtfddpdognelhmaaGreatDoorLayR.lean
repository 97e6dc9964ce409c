/-
  Contracts of the reader of lines.
-/
import Derived.Test.YtfddpdognelhmaaGreatDoorNumR
import Derived.Test.YtfddpdognelhmaaGreatDoorLayP
import Derived.Lib.OthersKept
import Derived.Laws.Rows
import Derived.Laws.Tables

/- LayR: Lines of the text of a layout: plain mathematics; contracts of isDevice and read. -/
namespace Go.Proofs.YtfddpdognelhmaaGreatDoor
open Go.RowKit

def ln0 : Ln := ⟨0, ⟨#[]⟩, 0, 0, 0, []⟩
/-- Reading a word for a character of the form. -/
def rdOk (c : Int) (s : ByteArray) : Bool := if c = 76 ∨ c = 90 ∨ c = 87 then numOk s else if c = 62 then (s.toList == [62]) else nameB s
def rdStep (x : Ln) (c : Int) (s : ByteArray) : Ln :=
  if c = 78 then { x with name := s } else if c = 76 then { x with len := numV s } else if c = 90 then { x with zone := numV s } else if c = 87 then { x with win := numV s } else if c = 62 then x else { x with oth := x.oth ++ [s] }
theorem rdStep_kind (x : Ln) (c : Int) (s : ByteArray) : (rdStep x c s).kind = x.kind := by
  unfold rdStep; (repeat' split) <;> rfl

theorem isDevice_any (x : Ln) (A : Option Addr) (c : Nat) (w : World) :
    Calls Tryz.prog 70 #[lnV x A c] w fun e w' => e = .returned (.bool (decide (9 < x.kind))) ∧ Below w.heap.size w w' := by
  have B1 := hide ((Below.refl w.heap.size w).alloc (Nat.le_refl _) (lnO x A c))
  go_enter Tryz.func70, Tryz.ntmps70
  go_wp2
  all_goals (go_ret; exact ⟨rfl, unhide B1⟩)

/-- A line under construction in block q; its row of names is the reader's own. -/
structure LnAt (q : Nat) (x : Ln) (v : Value) (w : World) : Prop where
  box : w.heap[q]? = some (.cells #[.int .i64 x.kind, .string x.name, .int .i64 x.len, .int .i64 x.zone, .int .i64 x.win, v] 69 (0, 0))
  row : w.ownsRow (q + 1) 9 1 v x.oth.length (x.oth.map Value.string)
abbrev OthS (q : Nat) (w w' : World) : Prop := Lib.OthersKept 9 (some q) w w'
theorem own_set {w : World} {q i n : Nat} {t : TypeId} {v u : Value} {xs : List Value} (h : w.ownsRow (q + 1) t 1 v n xs) : (w.setCell ⟨q, i, none⟩ u).ownsRow (q + 1) t 1 v n xs := by
  refine ⟨h.1, ?_⟩
  rcases h.2 with h1 | ⟨g, cap, cur, h1, h2, h3, h4⟩
  · exact .inl h1
  · refine .inr ⟨g, cap, cur, h1, h2, ?_, h4⟩
    rw [RowKit.Below.heap_setCell _ _ _ _ (by show g ≠ q; omega)]
    exact h3
theorem LnAt.lt {q : Nat} {x : Ln} {v : Value} {w : World} (h : LnAt q x v w) : q < w.heap.size := (Array.getElem?_eq_some_iff.1 h.box).1
theorem LnAt.below {q : Nat} {x : Ln} {v : Value} {w w1 : World} (h : LnAt q x v w) (hb : Below w.heap.size w w1) : LnAt q x v w1 := ⟨heap_below h.box hb, owns_later h.row hb⟩
theorem oth_below {q : Nat} {w w1 : World} (hb : Below w.heap.size w w1) : OthS q w w1 := fun _ _ h _ _ => heap_below h hb
/-- What read comes to. -/
def ReadTo (q : Nat) (x : Ln) (ok : Bool) (w : World) (e : Ending) (w' : World) : Prop :=
  e = .returned (.bool ok) ∧ (∃ v, LnAt q x v w') ∧ Below q w w' ∧ OthS q w w'
set_option maxHeartbeats 4000000 in
set_option maxRecDepth 100000 in
theorem lread_any (q : Nat) (x : Ln) (v : Value) (ch : Int) (s : ByteArray) (w : World) (hT : LTab w) (hc : letC ch) (hz : x.oth.length ≤ 1000) (h : LnAt q x v w) :
    Calls Tryz.prog 86 #[.pointer (some ⟨q, 0, none⟩), .int .i32 ch, .string s] w (ReadTo q (rdStep x ch s) (rdOk ch s) w) := by
  obtain ⟨i0, hi1, hz0, hz1, hz2⟩ := info_parts linfo_str
  have Hi := hide hi1
  have Hz0 := hide hz0
  have Hz1 := hide hz1
  have Hz2 := hide hz2
  have HL := hide h
  have HT := hide hT
  have fz : ∀ i, w.frozen? ⟨q, i, none⟩ = false := fun i => Lib.frozen_of_heap h.box i
  have hlt := h.lt
  have HNum := hide (lnumber_any s w hT)
  clear hi1 hz0 hz1 hz2 hT h
  rcases hc with rfl | rfl | rfl | rfl | rfl | rfl | rfl
  · have f1 := fz 1
    have c1 : w.cell? ⟨q, 1, none⟩ = some (.string x.name) := by rw [Lib.cell_of_heap (unhide HL).box]; rfl
    clear fz
    go_enter Tryz.func86, Tryz.ntmps86
    go_wp2_with (first | (go_at_call 76; refine (name_any _ _).mono ?_; rintro e w1 ⟨rfl, rfl⟩))
    go_ret
    exact ⟨rfl, ⟨_, heap_set (unhide HL).box _, own_set (unhide HL).row⟩, (Below.refl _ _).setCell (p := ⟨q, 1, none⟩) (Nat.le_refl _) _, (Lib.OthersKept.refl _ _ _).setCell ⟨q, 1, none⟩ rfl _⟩
  · clear fz
    go_enter Tryz.func86, Tryz.ntmps86
    go_wp2_with fail
    refine (unhide HNum).mono ?_
    rintro e w1 ⟨rfl, hb1⟩
    have hL1 := (unhide HL).below hb1
    have f1 : w1.frozen? ⟨q, 2, none⟩ = false := Lib.frozen_of_heap hL1.box 2
    have c1 : w1.cell? ⟨q, 2, none⟩ = some (.int .i64 x.len) := by rw [Lib.cell_of_heap hL1.box]; rfl
    have HL1 := hide hL1
    have HB1 := hide hb1
    clear hL1 hb1
    go_wp2
    go_ret
    exact ⟨rfl, ⟨_, heap_set (unhide HL1).box _, own_set (unhide HL1).row⟩, ((unhide HB1).mono (Nat.le_of_lt hlt)).setCell (p := ⟨q, 2, none⟩) (Nat.le_refl _) _, (oth_below (unhide HB1)).setCell ⟨q, 2, none⟩ rfl _⟩
  · clear fz
    go_enter Tryz.func86, Tryz.ntmps86
    go_wp2_with fail
    refine (unhide HNum).mono ?_
    rintro e w1 ⟨rfl, hb1⟩
    have hL1 := (unhide HL).below hb1
    have f1 : w1.frozen? ⟨q, 3, none⟩ = false := Lib.frozen_of_heap hL1.box 3
    have c1 : w1.cell? ⟨q, 3, none⟩ = some (.int .i64 x.zone) := by rw [Lib.cell_of_heap hL1.box]; rfl
    have HL1 := hide hL1
    have HB1 := hide hb1
    clear hL1 hb1
    go_wp2
    go_ret
    exact ⟨rfl, ⟨_, heap_set (unhide HL1).box _, own_set (unhide HL1).row⟩, ((unhide HB1).mono (Nat.le_of_lt hlt)).setCell (p := ⟨q, 3, none⟩) (Nat.le_refl _) _, (oth_below (unhide HB1)).setCell ⟨q, 3, none⟩ rfl _⟩
  · clear fz
    go_enter Tryz.func86, Tryz.ntmps86
    go_wp2_with fail
    refine (unhide HNum).mono ?_
    rintro e w1 ⟨rfl, hb1⟩
    have hL1 := (unhide HL).below hb1
    have f1 : w1.frozen? ⟨q, 4, none⟩ = false := Lib.frozen_of_heap hL1.box 4
    have c1 : w1.cell? ⟨q, 4, none⟩ = some (.int .i64 x.win) := by rw [Lib.cell_of_heap hL1.box]; rfl
    have HL1 := hide hL1
    have HB1 := hide hb1
    clear hL1 hb1
    go_wp2
    go_ret
    exact ⟨rfl, ⟨_, heap_set (unhide HL1).box _, own_set (unhide HL1).row⟩, ((unhide HB1).mono (Nat.le_of_lt hlt)).setCell (p := ⟨q, 4, none⟩) (Nat.le_refl _) _, (oth_below (unhide HB1)).setCell ⟨q, 4, none⟩ rfl _⟩
  · clear fz
    go_enter Tryz.func86, Tryz.ntmps86
    go_wp2
    all_goals (go_ret; exact ⟨rfl, ⟨_, unhide HL⟩, Below.refl _ _, Lib.OthersKept.refl _ _ _⟩)
  · have c5 : w.cell? ⟨q, 5, none⟩ = some v := by rw [Lib.cell_of_heap (unhide HL).box]; rfl
    clear fz
    obtain ⟨ao, cp, rfl⟩ := own_form (unhide HL).row
    go_enter Tryz.func86, Tryz.ntmps86
    go_wp2_with (first
      | (at_builtin; refine wpList_append_own _ rfl _ _ 66 rfl (q + 1) 9 i0 (.string ByteArray.empty) 1 16 Tryz.underlying66 (unhide Hi) (unhide Hz0) (unhide Hz1) (unhide Hz2) rfl (by decide) _ _ _ rfl ((unhide HL).row.alloc _) ⟨w.heap.size, 0, none⟩ 1 1 [.string s] rfl rfl ?c1 ?c2 ?c3 ?c4 ?c5 ?_))
    case c1 => exact lone_new w _ _
    case c2 =>
      intro u hu
      simp at hu
      subst hu
      rfl
    case c3 => unfold maxLen; omega
    case c4 => omega
    case c5 => rw [World.size_alloc]; omega
    intro v' w2 hown2 hgrow _
    obtain ⟨ao', cp', rfl⟩ := own_form hown2
    have hg0 : q < (w.alloc (.cells #[.string s] 9)).heap.size := by rw [World.size_alloc]; omega
    have hr0 := ((unhide HL).row.alloc (.cells #[.string s] 9))
    have hbx : w2.heap[q]? = some (.cells #[.int .i64 x.kind, .string x.name, .int .i64 x.len, .int .i64 x.zone, .int .i64 x.win, .slice ao x.oth.length cp] 69 (0, 0)) := by
      rw [hgrow.block q hg0 (fun e => by have := (hr0.lt q e.symm).1; omega)]
      exact heap_below (unhide HL).box (below_new (Below.refl _ _) _)
    have f5 : w2.frozen? ⟨q, 5, none⟩ = false := Lib.frozen_of_heap hbx 5
    have d5 : w2.cell? ⟨q, 5, none⟩ = some (.slice ao x.oth.length cp) := by rw [Lib.cell_of_heap hbx]; rfl
    have HBx := hide hbx
    have HO2 := hide hown2
    have HB2 := hide ((((Below.refl w.heap.size w).alloc (Nat.le_refl _) (.cells #[.string s] 9)).mono (Nat.le_of_lt hlt)).grown hgrow (Nat.le_of_lt hg0) (fun g e => by have := (hr0.lt g e).1; omega))
    have HK2 := hide ((oth_below (q := q) ((Below.refl w.heap.size w).alloc (Nat.le_refl _) (.cells #[.string s] 9))).grown hgrow (fun g e => by
      rcases hr0.2 with ⟨h1, _⟩ | ⟨g', cap, cur, h1, _, h3, _⟩
      · rw [h1] at e; cases e
      · rw [h1] at e
        have : g' = g := Option.some.inj e
        subst this
        exact ⟨_, _, h3⟩))
    clear hown2 hgrow hbx hr0 hg0 c5
    go_wp2_with (first | (go_at_call 76; refine (name_any _ _).mono ?_; rintro e w3 ⟨rfl, rfl⟩))
    go_ret
    refine ⟨rfl, ⟨_, heap_set (unhide HBx) _, own_set ?_⟩, (unhide HB2).setCell (p := ⟨q, 5, none⟩) (Nat.le_refl _) _, (unhide HK2).setCell ⟨q, 5, none⟩ rfl _⟩
    have h9 := unhide HO2
    show w2.ownsRow (q + 1) 9 1 _ (x.oth ++ [s]).length ((x.oth ++ [s]).map Value.string)
    rw [List.length_append, List.map_append]
    exact h9
  · have c5 : w.cell? ⟨q, 5, none⟩ = some v := by rw [Lib.cell_of_heap (unhide HL).box]; rfl
    clear fz
    obtain ⟨ao, cp, rfl⟩ := own_form (unhide HL).row
    go_enter Tryz.func86, Tryz.ntmps86
    go_wp2_with (first
      | (at_builtin; refine wpList_append_own _ rfl _ _ 66 rfl (q + 1) 9 i0 (.string ByteArray.empty) 1 16 Tryz.underlying66 (unhide Hi) (unhide Hz0) (unhide Hz1) (unhide Hz2) rfl (by decide) _ _ _ rfl ((unhide HL).row.alloc _) ⟨w.heap.size, 0, none⟩ 1 1 [.string s] rfl rfl ?c1 ?c2 ?c3 ?c4 ?c5 ?_))
    case c1 => exact lone_new w _ _
    case c2 =>
      intro u hu
      simp at hu
      subst hu
      rfl
    case c3 => unfold maxLen; omega
    case c4 => omega
    case c5 => rw [World.size_alloc]; omega
    intro v' w2 hown2 hgrow _
    obtain ⟨ao', cp', rfl⟩ := own_form hown2
    have hg0 : q < (w.alloc (.cells #[.string s] 9)).heap.size := by rw [World.size_alloc]; omega
    have hr0 := ((unhide HL).row.alloc (.cells #[.string s] 9))
    have hbx : w2.heap[q]? = some (.cells #[.int .i64 x.kind, .string x.name, .int .i64 x.len, .int .i64 x.zone, .int .i64 x.win, .slice ao x.oth.length cp] 69 (0, 0)) := by
      rw [hgrow.block q hg0 (fun e => by have := (hr0.lt q e.symm).1; omega)]
      exact heap_below (unhide HL).box (below_new (Below.refl _ _) _)
    have f5 : w2.frozen? ⟨q, 5, none⟩ = false := Lib.frozen_of_heap hbx 5
    have d5 : w2.cell? ⟨q, 5, none⟩ = some (.slice ao x.oth.length cp) := by rw [Lib.cell_of_heap hbx]; rfl
    have HBx := hide hbx
    have HO2 := hide hown2
    have HB2 := hide ((((Below.refl w.heap.size w).alloc (Nat.le_refl _) (.cells #[.string s] 9)).mono (Nat.le_of_lt hlt)).grown hgrow (Nat.le_of_lt hg0) (fun g e => by have := (hr0.lt g e).1; omega))
    have HK2 := hide ((oth_below (q := q) ((Below.refl w.heap.size w).alloc (Nat.le_refl _) (.cells #[.string s] 9))).grown hgrow (fun g e => by
      rcases hr0.2 with ⟨h1, _⟩ | ⟨g', cap, cur, h1, _, h3, _⟩
      · rw [h1] at e; cases e
      · rw [h1] at e
        have : g' = g := Option.some.inj e
        subst this
        exact ⟨_, _, h3⟩))
    clear hown2 hgrow hbx hr0 hg0 c5
    go_wp2_with (first | (go_at_call 76; refine (name_any _ _).mono ?_; rintro e w3 ⟨rfl, rfl⟩))
    go_ret
    refine ⟨rfl, ⟨_, heap_set (unhide HBx) _, own_set ?_⟩, (unhide HB2).setCell (p := ⟨q, 5, none⟩) (Nat.le_refl _) _, (unhide HK2).setCell ⟨q, 5, none⟩ rfl _⟩
    have h9 := unhide HO2
    show w2.ownsRow (q + 1) 9 1 _ (x.oth ++ [s]).length ((x.oth ++ [s]).map Value.string)
    rw [List.length_append, List.map_append]
    exact h9
end Go.Proofs.YtfddpdognelhmaaGreatDoor

/- LayS: Contract of readLine of layouts. -/
namespace Go.Proofs.YtfddpdognelhmaaGreatDoor
open Go.RowKit

abbrev lnA (x : Ln) (A : Option Addr) (c : Nat) : Array Value := #[.int .i64 x.kind, .string x.name, .int .i64 x.len, .int .i64 x.zone, .int .i64 x.win, .slice A x.oth.length c]
theorem linfo_line : (Tryz.prog.info? 69).map (·.size) = some 6 := by kernel_rfl
section
variable {ops : Array Oper} {rest : List Oper} {o : Oper} {a : Act} {W : World} {Q : Exit → Act → World → Prop}
/-- A whole line is stored into a block. -/
theorem wpList_storeL {g : Nat} {old : Array Value} (hg : W.heap[g]? = some (.cells old 69 (0, 0))) (x : Ln) (A : Option Addr) (c : Nat) (hgd : o.guard = none) (p y : Operand) (ho : o.op = .store 69 p y)
    (hx : a.eval p = .pointer (some ⟨g, 0, none⟩)) (hy : a.eval y = lnV x A c) (hold : old.size = 6)
    (h : wpList Tryz.prog ops Q rest (a.put o.dst undef) (W.setRow g (lnA x A c))) : wpList Tryz.prog ops Q (o :: rest) a W :=
  wpList_store_row hgd _ p y ho g (lnA x A c) hx hy 69 old hg linfo_line hold (by simp [Value.oneCell']) h
end
theorem lbelow_setRow {B : Nat} {a w : World} (h : Below B a w) {g : Nat} (hg : B ≤ g) (cs : Array Value) : Below B a (w.setRow g cs) :=
  h.trans ⟨rfl, rfl, rfl, by rw [size_setRow]; exact Nat.le_refl _, fun i hi => setRow_other w g i cs (by omega)⟩
theorem setRow_keep {w : World} {g j : Nat} {o : Obj} (h : w.heap[j]? = some o) (hj : j ≠ g) (cs : Array Value) : (w.setRow g cs).heap[j]? = some o := (setRow_other w g j cs hj).trans h
theorem ln_cells {W : World} {g : Nat} {x : Ln} {A : Option Addr} {c : Nat} {t : TypeId} {fz : Nat × Nat} (h : W.heap[g]? = some (.cells (lnA x A c) t fz)) :
    W.cell? ⟨g, 0, none⟩ = some (.int .i64 x.kind) ∧ W.cell? ⟨g, 1, none⟩ = some (.string x.name) ∧ W.cell? ⟨g, 2, none⟩ = some (.int .i64 x.len) ∧ W.cell? ⟨g, 3, none⟩ = some (.int .i64 x.zone) ∧ W.cell? ⟨g, 4, none⟩ = some (.int .i64 x.win) ∧ W.cell? ⟨g, 5, none⟩ = some (.slice A x.oth.length c) :=
  ⟨by rw [Lib.cell_of_heap h]; rfl, by rw [Lib.cell_of_heap h]; rfl, by rw [Lib.cell_of_heap h]; rfl, by rw [Lib.cell_of_heap h]; rfl, by rw [Lib.cell_of_heap h]; rfl, by rw [Lib.cell_of_heap h]; rfl⟩
theorem own_setRow {w : World} {g B n : Nat} {t : TypeId} {v : Value} {xs : List Value} {cs : Array Value} (h : w.ownsRow B t 1 v n xs) (hg : g < B) : (w.setRow g cs).ownsRow B t 1 v n xs := by
  refine ⟨h.1, ?_⟩
  rcases h.2 with h1 | ⟨g', cap, cur, h1, h2, h3, h4⟩
  · exact .inl h1
  · exact .inr ⟨g', cap, cur, h1, h2, setRow_keep h3 (by omega) cs, h4⟩
/-- A line under reading: the first n words behind the first one are read. -/
def lnFold (k : Nat) (ws : List ByteArray) : Nat → Ln
  | 0 => ⟨(k : Int), ⟨#[]⟩, 0, 0, 0, []⟩
  | n + 1 => rdStep (lnFold k ws n) ((frmI k).getD n 0) (ws.getD (n + 1) ByteArray.empty)
theorem lnFold_oth (k : Nat) (ws : List ByteArray) : ∀ n, (lnFold k ws n).oth.length ≤ n
  | 0 => Nat.le_refl 0
  | n + 1 => by
    have h := lnFold_oth k ws n
    show (rdStep (lnFold k ws n) _ _).oth.length ≤ n + 1
    unfold rdStep
    (repeat' split) <;> first
      | (show (lnFold k ws n).oth.length ≤ n + 1; omega)
      | (show ((lnFold k ws n).oth ++ [_]).length ≤ n + 1; rw [List.length_append, List.length_singleton]; omega)
def rdAt (k : Nat) (ws : List ByteArray) (j : Nat) : Bool := rdOk ((frmI k).getD j 0) (ws.getD (j + 1) ByteArray.empty)
def lnKind (ws : List ByteArray) : Nat := kindF (ws.getD 0 ByteArray.empty)
def lnSized (ws : List ByteArray) : Bool := !((kfS (lnKind ws)).toList.isEmpty || ((ws.length : Int) != 1 + ((kfS (lnKind ws)).size : Int)))
def readW (ws : List ByteArray) : Option Ln :=
  if lnSized ws = true then (if (List.range (kfS (lnKind ws)).size).all (rdAt (lnKind ws) ws) = true then some (lnFold (lnKind ws) ws (kfS (lnKind ws)).size) else none) else none
/-- The line that a text is. -/
def readF (s : ByteArray) : Option Ln := readW (splitC 32 s)
theorem readW_no1 {ws : List ByteArray} (h : lnSized ws = false) : readW ws = none := by unfold readW; rw [h]; rfl
theorem readW_no2 {ws : List ByteArray} (h : lnSized ws = true) {j : Nat} (hj : j < (kfS (lnKind ws)).size) (h2 : rdAt (lnKind ws) ws j = false) : readW ws = none := by
  unfold readW; rw [if_pos h, range_no hj h2]; rfl
theorem readW_yes {ws : List ByteArray} (h : lnSized ws = true) (h2 : ∀ j, j < (kfS (lnKind ws)).size → rdAt (lnKind ws) ws j = true) : readW ws = some (lnFold (lnKind ws) ws (kfS (lnKind ws)).size) := by
  unfold readW; rw [if_pos h, range_yes h2]; rfl

theorem frm_let {n : Nat} (hn : n < 12) : ∀ ch ∈ frmI n, letC ch := fun ch hch =>
  (frm_asks hn (x := ⟨0, ⟨#[]⟩, 0, 0, 0, List.replicate (needN n) ByteArray.empty⟩) (by simp) ch hch).1
/-- What readLine keeps. -/
structure RlS (w : World) (ws : List ByteArray) (s : ByteArray) (k : Nat) (x : Ln) (wr : World) : Prop where
  bel : Below w.heap.size w wr
  res : wr.heap[w.heap.size]? = some (.cells #[.int .i64 0, .string ⟨#[]⟩, .int .i64 0, .int .i64 0, .int .i64 0, .slice none 0 0] 69 (0, 0))
  row : wr.heap[w.heap.size + 1]? = some (.cells (ws.map Value.string).toArray 9 (0, 0))
  ln : ∃ v, LnAt (w.heap.size + 2) x v wr
  it : wr.heap[w.heap.size + 3]? = some (.stringIter s k)
theorem RlS.lt {w wr : World} {ws : List ByteArray} {s : ByteArray} {k : Nat} {x : Ln} (h : RlS w ws s k x wr) : w.heap.size + 3 < wr.heap.size := (Array.getElem?_eq_some_iff.1 h.it).1
theorem RlS.next {w wr : World} {ws : List ByteArray} {s : ByteArray} {k : Nat} {x : Ln} (h : RlS w ws s k x wr) (k' : Nat) : RlS w ws s k' x (wr.iterAt (w.heap.size + 3) s k') := by
  obtain ⟨v, h1⟩ := h.ln
  refine ⟨Lib.below_iterAt h.bel (by omega) _ _, (Lib.iterAt_other wr _ _ s k' (by omega)).trans h.res, (Lib.iterAt_other wr _ _ s k' (by omega)).trans h.row, ⟨v, (Lib.iterAt_other wr _ _ s k' (by omega)).trans h1.box, h1.row.1, ?_⟩, Lib.iterAt_heap wr _ s k k' h.it⟩
  rcases h1.row.2 with h2 | ⟨g, cap, cur, h2, h3, h4, h5⟩
  · exact .inl h2
  · refine .inr ⟨g, cap, cur, h2, h3, ?_, h5⟩
    rw [Lib.iterAt_other wr _ g s k' (fun e => by subst e; rw [h.it] at h4; cases h4)]
    exact h4
theorem RlS.read {w wr w1 : World} {ws : List ByteArray} {s : ByteArray} {k : Nat} {x y : Ln} (h : RlS w ws s k x wr) (h1 : ∃ v, LnAt (w.heap.size + 2) y v w1) (h2 : Below (w.heap.size + 2) wr w1) (h3 : OthS (w.heap.size + 2) wr w1) : RlS w ws s k y w1 :=
  ⟨h.bel.trans (h2.mono (by omega)), (h2.block _ (by omega)).trans h.res, (h2.block _ (by omega)).trans h.row, h1, h3 _ _ h.it (by simp) (fun _ _ e => by cases e)⟩
/-- What readLine comes to. -/
def RdTo (b : Nat) (r : Option Ln) (w : World) (e : Ending) (w' : World) : Prop :=
  ∃ (A : Option Addr) (c : Nat), e = .returned (.tuple #[lnV (r.getD ln0) A c, .bool r.isSome]) ∧ StrRow b w' A (r.getD ln0).oth ∧ Below w.heap.size w w'
set_option maxHeartbeats 4000000 in
set_option maxRecDepth 100000 in
theorem lrline_any (b : Nat) (s : ByteArray) (w : World) (hT : LTab w) (hs : s.size ≤ 4000000) (hbw : b < w.heap.size) :
    Calls Tryz.prog 68 #[.string s] w (RdTo b (readF s) w) := by
  have HX := hide (show readF s = readW (splitC 32 s) from rfl)
  have HT := hide hT
  have HSp := hide (splitc_any 32 s (w.alloc (.cells #[.int .i64 0, .string ⟨#[]⟩, .int .i64 0, .int .i64 0, .int .i64 0, .slice none 0 0] 69)) hs)
  have hpos : 0 < (splitC 32 s).length := by rw [splitC_length]; omega
  generalize readF s = R at *
  generalize splitC 32 s = ws at *
  clear hT
  go_enter Tryz.func68, Tryz.ntmps68
  go_wp2_with fail
  refine (unhide HSp).mono ?_
  rintro e w1 ⟨rfl, hw1⟩
  have b0 := (Below.refl w.heap.size w).alloc (Nat.le_refl _) (.cells #[.int .i64 0, .string ⟨#[]⟩, .int .i64 0, .int .i64 0, .int .i64 0, .slice none 0 0] 69)
  have b1 : Below w.heap.size w w1 := by rw [hw1]; exact below_new b0 _
  have hres : w1.heap[w.heap.size]? = some (.cells #[.int .i64 0, .string ⟨#[]⟩, .int .i64 0, .int .i64 0, .int .i64 0, .slice none 0 0] 69 (0, 0)) := by
    rw [hw1]; exact heap_below (heap_alloc_new w _) (below_new (Below.refl _ _) _)
  have hrow : w1.heap[w.heap.size + 1]? = some (.cells (ws.map Value.string).toArray 9 (0, 0)) := by
    have := heap_alloc_new (w.alloc (.cells #[.int .i64 0, .string ⟨#[]⟩, .int .i64 0, .int .i64 0, .int .i64 0, .slice none 0 0] 69)) (.cells (ws.map Value.string).toArray 9)
    rw [World.size_alloc] at this
    rw [hw1]; exact this
  have hz1 : w1.heap.size = w.heap.size + 2 := by rw [hw1, World.size_alloc, World.size_alloc]
  have HCell := hide (show ∀ (W : World) (j : Nat), W.heap[w.heap.size + 1]? = some (.cells (ws.map Value.string).toArray 9 (0, 0)) → j < ws.length → W.cell? ⟨w.heap.size + 1, j, none⟩ = some (.string (ws.getD j ByteArray.empty)) from fun W j hW hj => by
    rw [Lib.cell_of_heap hW, at_k hj]; simp [hj])
  have HLk := hide (show lnKind ws = kindF (ws.getD 0 ByteArray.empty) from rfl)
  have y0 := unhide HCell w1 0 hrow hpos
  have HT1 := hide ((unhide HT).keep b1)
  have HKd := hide (lkind_any (ws.getD 0 ByteArray.empty) w1 ((unhide HT).keep b1))
  rw [← unhide HLk] at HKd
  have hk12 : lnKind ws < 12 := kindF_lt _
  have hpi : (0 : Int) < (ws.length : Int) := by omega
  generalize ws.getD 0 ByteArray.empty = w0 at *
  have q1 := ((unhide HT).keep b1).forms (lnKind ws) hk12
  have HSz := hide (show lnSized ws = !((kfS (lnKind ws)).toList.isEmpty || ((ws.length : Int) != 1 + ((kfS (lnKind ws)).size : Int))) from rfl)
  have HN1 := hide fun h => readW_no1 (ws := ws) h
  have HN2 := hide fun h j hj h2 => readW_no2 (ws := ws) h (j := j) hj h2
  have HY := hide fun h h2 => readW_yes (ws := ws) h h2
  have HF := hide (show frmI (lnKind ws) = (kfS (lnKind ws)).data.toList.map (fun c => (c.toNat : Int)) from rfl)
  have HAs := hide (kf_ascii hk12)
  have HAk := hide (frm_let hk12)
  have hfew := kf_few hk12
  have HRd := hide (show ∀ j, rdAt (lnKind ws) ws j = rdOk ((frmI (lnKind ws)).getD j 0) (ws.getD (j + 1) ByteArray.empty) from fun _ => rfl)
  have HFo := hide (show ∀ j, lnFold (lnKind ws) ws (j + 1) = rdStep (lnFold (lnKind ws) ws j) ((frmI (lnKind ws)).getD j 0) (ws.getD (j + 1) ByteArray.empty) from fun _ => rfl)
  have HF0 := hide (show lnFold (lnKind ws) ws 0 = ⟨(lnKind ws : Int), ⟨#[]⟩, 0, 0, 0, []⟩ from rfl)
  have HFl := hide (lnFold_oth (lnKind ws) ws)
  generalize lnKind ws = k at *
  have k0 : (0 : Int) ≤ (k : Int) := by omega
  have k12 : (k : Int) < 12 := by omega
  generalize kfS k = fm at *
  have HB1 := hide b1
  have HRes := hide hres
  have HRow := hide hrow
  clear hw1 b0 b1 hres hrow HSp
  cases hsz : lnSized ws with
  | false =>
    have HR := hide (show R = none from (unhide HX).trans (unhide HN1 hsz))
    have HE := unhide HSz
    rw [hsz] at HE
    have HBx := hide (show ∀ W, Below w1.heap.size w1 W → RdTo b none w (.returned (.tuple #[lnV ln0 none 0, .bool false])) (W.setRow w.heap.size (lnA ln0 none 0)) from fun W hb => ⟨none, 0, rfl, fun h => absurd h (Nat.lt_irrefl 0), lbelow_setRow (onward (unhide HB1) hb) (Nat.le_refl _) _⟩)
    have HRr := hide (show ∀ W, Below w1.heap.size w1 W → W.heap[w.heap.size]? = some (.cells #[.int .i64 0, .string ⟨#[]⟩, .int .i64 0, .int .i64 0, .int .i64 0, .slice none 0 0] 69 (0, 0)) from fun W hb => heap_below (unhide HRes) hb)
    have HRc := hide (show ∀ W : World, W.heap[w.heap.size]? = some (Obj.cells #[.int .i64 0, .string ⟨#[]⟩, .int .i64 0, .int .i64 0, .int .i64 0, .slice none 0 0] 69 (0, 0)) → (W.setRow w.heap.size (lnA ln0 none 0)).heap[w.heap.size]? = some (Obj.cells (lnA ln0 none 0) 69 (0, 0)) from fun (W : World) h => setRow_heap W _ _ _ _ _ h)
    cases he : fm.toList.isEmpty with
    | true =>
      have e1 : fm.toList = [] := by simpa using he
      clear HE hsz
      have q3 := kept ((Below.refl w1.heap.size w1).alloc (Nat.le_refl _) (.cells #[.int .i64 (k : Int), .string ⟨#[]⟩, .int .i64 0, .int .i64 0, .int .i64 0, .slice none 0 0] 69)) q1
      go_wp2_with (first
        | (refine wpList_storeL (unhide HRr _ (by with_reducible exact (Below.refl _ _).alloc (Nat.le_refl _) _)) ln0 none 0 rfl _ _ rfl rfl rfl rfl ?_)
        | (go_at_call 85; refine (unhide HKd).mono ?_; rintro e w2 ⟨rfl, rfl⟩))
      have hbA := (Below.refl w1.heap.size w1).alloc (Nat.le_refl _) (.cells #[.int .i64 (k : Int), .string ⟨#[]⟩, .int .i64 0, .int .i64 0, .int .i64 0, .slice none 0 0] 69)
      have hR := unhide HRc _ (unhide HRr _ hbA)
      have hEnd := unhide HBx _ hbA
      rw [unhide HR]
      obtain ⟨r0, r1, r2, r3, r4, r5⟩ := ln_cells hR
      exact bodyPost_ret (v := .tuple #[lnV ln0 none 0, .bool false]) (by simp [results, go_sem, r0, r1, r2, r3, r4, r5]) rfl hEnd
    | false =>
      have hne : ((ws.length : Int) != 1 + (fm.size : Int)) = true := by
        rw [he] at HE
        cases h9 : ((ws.length : Int) != 1 + (fm.size : Int)) with
        | true => rfl
        | false => rw [h9] at HE; exact absurd HE (by decide)
      clear HE hsz
      have q3 := kept ((Below.refl w1.heap.size w1).alloc (Nat.le_refl _) (.cells #[.int .i64 (k : Int), .string ⟨#[]⟩, .int .i64 0, .int .i64 0, .int .i64 0, .slice none 0 0] 69)) q1
      go_wp2_with (first
        | (refine wpList_storeL (unhide HRr _ (by with_reducible exact (Below.refl _ _).alloc (Nat.le_refl _) _)) ln0 none 0 rfl _ _ rfl rfl rfl rfl ?_)
        | (go_at_call 85; refine (unhide HKd).mono ?_; rintro e w2 ⟨rfl, rfl⟩))
      have hbA := (Below.refl w1.heap.size w1).alloc (Nat.le_refl _) (.cells #[.int .i64 (k : Int), .string ⟨#[]⟩, .int .i64 0, .int .i64 0, .int .i64 0, .slice none 0 0] 69)
      have hR := unhide HRc _ (unhide HRr _ hbA)
      have hEnd := unhide HBx _ hbA
      rw [unhide HR]
      obtain ⟨r0, r1, r2, r3, r4, r5⟩ := ln_cells hR
      exact bodyPost_ret (v := .tuple #[lnV ln0 none 0, .bool false]) (by simp [results, go_sem, r0, r1, r2, r3, r4, r5]) rfl hEnd
  | true =>
    have HE := unhide HSz
    rw [hsz] at HE
    have he : fm.toList.isEmpty = false := by
      cases h9 : fm.toList.isEmpty with
      | false => rfl
      | true => rw [h9] at HE; exact absurd HE (by simp)
    have hne : ((ws.length : Int) != 1 + (fm.size : Int)) = false := by
      rw [he] at HE
      cases h9 : ((ws.length : Int) != 1 + (fm.size : Int)) with
      | false => rfl
      | true => rw [h9] at HE; exact absurd HE (by decide)
    have hwl : ws.length = 1 + fm.size := by
      have := bne_eq_false_iff_eq.1 hne
      omega
    have HY1 := hide (fun h2 => (unhide HX).trans (unhide HY hsz h2))
    have HN3 := hide (fun j hj h2 => (unhide HX).trans (unhide HN2 hsz j hj h2))
    clear HE hsz HN1 HN2 HY HSz HX
    have hbA := (Below.refl w1.heap.size w1).alloc (Nat.le_refl _) (.cells #[.int .i64 (k : Int), .string ⟨#[]⟩, .int .i64 0, .int .i64 0, .int .i64 0, .slice none 0 0] 69)
    have hz2 := hide (show (w1.alloc (.cells #[.int .i64 (k : Int), .string ⟨#[]⟩, .int .i64 0, .int .i64 0, .int .i64 0, .slice none 0 0] 69)).heap.size = w.heap.size + 3 by rw [World.size_alloc, hz1])
    have hbx2 : (w1.alloc (.cells #[.int .i64 (k : Int), .string ⟨#[]⟩, .int .i64 0, .int .i64 0, .int .i64 0, .slice none 0 0] 69)).heap[w.heap.size + 2]? = some (Obj.cells #[.int .i64 (k : Int), .string ⟨#[]⟩, .int .i64 0, .int .i64 0, .int .i64 0, .slice none 0 0] 69 (0, 0)) := by
      rw [← hz1]; exact heap_alloc_new w1 _
    have HS0 := hide (show ∀ W, Below (w1.alloc (.cells #[.int .i64 (k : Int), .string ⟨#[]⟩, .int .i64 0, .int .i64 0, .int .i64 0, .slice none 0 0] 69)).heap.size (w1.alloc (.cells #[.int .i64 (k : Int), .string ⟨#[]⟩, .int .i64 0, .int .i64 0, .int .i64 0, .slice none 0 0] 69)) W → W.heap[w.heap.size + 3]? = some (.stringIter fm 0) → RlS w ws fm 0 (lnFold k ws 0) W from fun W hb hi => ⟨onward (onward (unhide HB1) hbA) hb, heap_below (heap_below (unhide HRes) hbA) hb, heap_below (heap_below (unhide HRow) hbA) hb, ⟨.slice none 0 0, by rw [unhide HF0]; exact heap_below hbx2 hb, by rw [unhide HF0]; exact ⟨rfl, .inl ⟨rfl, rfl⟩⟩⟩, hi⟩)
    have q2 : (w1.alloc (.cells #[.int .i64 (k : Int), .string ⟨#[]⟩, .int .i64 0, .int .i64 0, .int .i64 0, .slice none 0 0] 69)).cell? ⟨w.heap.size + 2, 0, none⟩ = some (.int .i64 (k : Int)) := by rw [Lib.cell_of_heap hbx2]; rfl
    have q3 : (w1.alloc (.cells #[.int .i64 (k : Int), .string ⟨#[]⟩, .int .i64 0, .int .i64 0, .int .i64 0, .slice none 0 0] 69)).cell? ⟨2, k, none⟩ = some (.string fm) := kept hbA q1
    clear hbx2 hbA q1
    go_wp2_with (first
      | (go_at_call 85; refine (unhide HKd).mono ?_; rintro e w2 ⟨rfl, rfl⟩))
    clear q2 q3
    go_loopw [7] (fun _ wr => ∃ i : Nat, i ≤ fm.size ∧ RlS w ws fm i (lnFold k ws i) wr ∧ Hid (∀ j, j < i → rdAt k ws j = true)) (fun _ wr => fm.size - wr.iterPos (w.heap.size + 3))
    case atStart => exact ⟨0, Nat.zero_le _, unhide HS0 _ ((Below.refl _ _).alloc (Nat.le_refl _) _) (by rw [← unhide hz2]; exact World.iter_heap _ _ _), Lib.hid fun j hj => absurd hj (Nat.not_lt_zero _)⟩
    case round =>
      obtain ⟨i, hi, hS, hd⟩ := hrel
      obtain ⟨wo, rfl⟩ : ∃ wo : World, wo = wr := ⟨_, rfl⟩
      have hit := hS.it
      have hpos' : wo.iterPos (w.heap.size + 3) = i := by unfold World.iterPos; rw [hit]
      have HP0 := hide hpos'
      clear hpos'
      by_cases hlt : i < fm.size
      · have ha : (fm[i]'hlt).toNat < 128 := unhide HAs _ (by rw [← byte_at hlt, at_k (by simpa using hlt)]; exact List.getElem_mem _)
        have hnx : ∀ ty, (Instr.next (.pointer (some ⟨w.heap.size + 3, 0, none⟩)) true ty).run Tryz.prog wo = _ := fun ty => Lib.run_next_ascii_at wo (w.heap.size + 3) fm i ty hit hlt ha
        have hSa := hS.next (i + 1)
        obtain ⟨wa, hwa⟩ : ∃ wa : World, wo.iterAt (w.heap.size + 3) fm (i + 1) = wa := ⟨_, rfl⟩
        rw [hwa] at hSa
        have hlen : i < (frmI k).length := by rw [unhide HF, List.length_map, size_list]; exact hlt
        have hat : (frmI k).getD i 0 = ((fm[i]'hlt).toNat : Int) := by
          rw [unhide HF, at_k (by rw [List.length_map, size_list]; exact hlt), List.getElem_map]
          rw [← byte_at hlt, at_k (by rw [size_list]; exact hlt)]
        have hmem : ((fm[i]'hlt).toNat : Int) ∈ frmI k := by rw [← hat, at_k hlen]; exact List.getElem_mem _
        have y1 := unhide HCell wa (1 + i) hSa.row (by omega)
        rw [show 1 + i = i + 1 by omega] at y1
        have y2 := y1
        rw [show i + 1 = 1 + i by omega] at y2
        have HRi := hide (unhide HRd i)
        have HFi := hide (unhide HFo i)
        rw [hat] at HRi HFi
        rw [show 1 + i = i + 1 by omega] at y2
        have y3 : wa.cell? ⟨w.heap.size + 1, 1 + i, none⟩ = some (.string (ws.getD (i + 1) ByteArray.empty)) := by rw [show 1 + i = i + 1 by omega]; exact y1
        clear y2
        obtain ⟨v, hln⟩ := hSa.ln
        have HCall := hide (lread_any (w.heap.size + 2) (lnFold k ws i) v ((fm[i]'hlt).toNat : Int) (ws.getD (i + 1) ByteArray.empty) wa ((unhide HT).keep hSa.bel) (unhide HAk _ hmem) (by have := unhide HFl i; omega) hln)
        have HP := hide fun h => upto_step (p := fun j => rdAt k ws j = true) (k := i) hd.out h
        have HNo := hide fun (h : rdAt k ws i = false) => unhide HN3 i hlt h
        have HSa := hide hSa
        clear hit hlen hat hmem ha hS hSa hln
        generalize ((fm[i]'hlt).toNat : Int) = ch at *
        generalize ws.getD (i + 1) ByteArray.empty = wd at *
        have i0 : (0 : Int) ≤ 1 + (i : Int) := by omega
        have i1 : 1 + (i : Int) < (ws.length : Int) := by omega
        cases hok : rdOk ch wd with
        | false =>
          have HRn := hide (unhide HNo ((unhide HRi).trans hok))
          rw [hok] at HCall
          clear hok
          go_wp2_with fail
          refine (unhide HCall).mono ?_
          rintro e w5 ⟨rfl, hln5, hb5, ho5⟩
          have hS5 := (unhide HSa).read hln5 hb5 ho5
          have hrs := hS5.res
          have HRs := hide hrs
          have hEnd : RdTo b none w (.returned (.tuple #[lnV ln0 none 0, .bool false])) (w5.setRow w.heap.size (lnA ln0 none 0)) := ⟨none, 0, rfl, fun h => absurd h (Nat.lt_irrefl 0), lbelow_setRow hS5.bel (Nat.le_refl _) _⟩
          have hR := setRow_heap w5 w.heap.size _ (lnA ln0 none 0) _ _ hrs
          have HEnd := hide hEnd
          have HR5 := hide hR
          clear hln5 hb5 ho5 hS5 hrs hEnd hR y1 y3 hnx hwa
          go_wp2_with (first
            | (refine wpList_storeL (unhide HRs) ln0 none 0 rfl _ _ rfl rfl rfl rfl ?_))
          obtain ⟨r0, r1, r2, r3, r4, r5⟩ := ln_cells (unhide HR5)
          rw [unhide HRn]
          exact bodyPost_ret (v := .tuple #[lnV ln0 none 0, .bool false]) (by simp [results, go_sem, r0, r1, r2, r3, r4, r5]) rfl (unhide HEnd)
        | true =>
          have HRy := hide (unhide HP ((unhide HRi).trans hok))
          rw [hok] at HCall
          clear hok
          go_wp2_with fail
          refine (unhide HCall).mono ?_
          rintro e w5 ⟨rfl, hln5, hb5, ho5⟩
          have HS5 := hide ((unhide HSa).read hln5 hb5 ho5)
          clear hln5 hb5 ho5 y1 y3 hnx hwa
          go_wp2
          go_roundw
          case rel => exact ⟨i + 1, by omega, by rw [unhide HFi]; exact unhide HS5, Lib.hid (unhide HRy)⟩
          case measure =>
            have e2 : w5.iterPos (w.heap.size + 3) = i + 1 := by unfold World.iterPos; rw [(unhide HS5).it]
            rw [e2, unhide HP0]; omega
      · have hnx : ∀ ty, (Instr.next (.pointer (some ⟨w.heap.size + 3, 0, none⟩)) true ty).run Tryz.prog wo = _ := fun ty => Lib.run_next_end_at wo (w.heap.size + 3) fm i ty hit hlt
        obtain rfl : i = fm.size := by omega
        have HRy := hide (unhide HY1 fun j hj => hd.out j hj)
        have HS := hide hS
        obtain ⟨v, hln⟩ := hS.ln
        obtain ⟨ao, cp, rfl⟩ := own_form hln.row
        have HLn := hide hln
        have HRs := hide hS.res
        generalize lnFold k ws fm.size = x at *
        obtain ⟨s0, s1, s2, s3, s4, s5⟩ := ln_cells hln.box
        clear hit hS hln
        go_wp2_with (first
          | (refine wpList_storeL (unhide HRs) x ao cp rfl _ _ rfl rfl rfl rfl ?_))
        have hR := setRow_heap wo w.heap.size _ (lnA x ao cp) _ _ (unhide HRs)
        obtain ⟨r0, r1, r2, r3, r4, r5⟩ := ln_cells hR
        rw [unhide HRy]
        refine bodyPost_ret (v := .tuple #[lnV x ao cp, .bool true]) (by simp [results, go_sem, r0, r1, r2, r3, r4, r5]) rfl ?_
        refine ⟨ao, cp, rfl, ?_, lbelow_setRow (unhide HS).bel (Nat.le_refl _) _⟩
        exact StrRow.own (own_setRow (unhide HLn).row (by omega)) (by omega)
end Go.Proofs.YtfddpdognelhmaaGreatDoor

/- LayT: Contracts of follows and readLines of layouts. -/
namespace Go.Proofs.YtfddpdognelhmaaGreatDoor
open Go.RowKit

/-- A line with its slice of names. -/
structure LnS where
  x : Ln
  P : Option Addr
  c : Nat
def LnS.cs (u : LnS) : List Value := (lnA u.x u.P u.c).toList
def lns0 : LnS := ⟨ln0, none, 0⟩
theorem LnS.cs_len (u : LnS) : u.cs.length = 6 := rfl
def lnsV (us : List LnS) : List Value := us.flatMap LnS.cs
theorem lnsV_len (us : List LnS) : (lnsV us).length = us.length * 6 := by
  unfold lnsV
  induction us with
  | nil => rfl
  | cons u us ih => rw [List.flatMap_cons, List.length_append, ih, LnS.cs_len, List.length_cons]; omega
theorem lnsV_at (us : List LnS) (i : Nat) (h : i < us.length) (j : Nat) (hj : j < 6) : (lnsV us)[i * 6 + j]? = (us.getD i lns0).cs[j]? := by
  unfold lnsV
  induction us generalizing i with
  | nil => simp at h
  | cons u us ih =>
    rw [List.flatMap_cons]
    cases i with
    | zero => rw [Nat.zero_mul, Nat.zero_add, List.getElem?_append_left (by rw [LnS.cs_len]; exact hj)]; rfl
    | succ i =>
      rw [show (i + 1) * 6 + j = 6 + (i * 6 + j) by omega, List.getElem?_append_right (by rw [LnS.cs_len]; omega), LnS.cs_len, Nat.add_sub_cancel_left]
      exact ih i (by simpa using h)
/-- Some lines, in a row. -/
def LnsIn (b : Nat) (w : World) (A : Option Addr) (us : List LnS) : Prop :=
  0 < us.length → ∃ g off, A = some ⟨g, off, none⟩ ∧ (∀ j u, (lnsV us)[j]? = some u → w.cell? ⟨g, off + j, none⟩ = some u) ∧ ∀ u ∈ us, StrRow b w u.P u.x.oth
theorem LnsIn.keep {b : Nat} {w w1 : World} {A : Option Addr} {us : List LnS} (h : LnsIn b w A us) (hb : Below w.heap.size w w1) : LnsIn b w1 A us := fun hn => by
  obtain ⟨g, off, hA, hc, hl⟩ := h hn
  exact ⟨g, off, hA, fun j u hu => kept hb (hc j u hu), fun u hu => (hl u hu).step ((KeepTy.below hb).s b)⟩
theorem LnsIn.at {b : Nat} {w : World} {A : Option Addr} {us : List LnS} (h : LnsIn b w A us) {i : Nat} (hi : i < us.length) :
    ∃ g off, A = some ⟨g, off, none⟩ ∧ (w.cell? ⟨g, off + i * 6, none⟩ = some (.int .i64 (us.getD i lns0).x.kind) ∧ w.cell? ⟨g, off + i * 6 + 1, none⟩ = some (.string (us.getD i lns0).x.name) ∧ w.cell? ⟨g, off + i * 6 + 2, none⟩ = some (.int .i64 (us.getD i lns0).x.len) ∧ w.cell? ⟨g, off + i * 6 + 3, none⟩ = some (.int .i64 (us.getD i lns0).x.zone) ∧ w.cell? ⟨g, off + i * 6 + 4, none⟩ = some (.int .i64 (us.getD i lns0).x.win) ∧ w.cell? ⟨g, off + i * 6 + 5, none⟩ = some (.slice (us.getD i lns0).P (us.getD i lns0).x.oth.length (us.getD i lns0).c)) ∧ StrRow b w (us.getD i lns0).P (us.getD i lns0).x.oth := by
  obtain ⟨g, off, hA, hc, hl⟩ := h (by omega)
  have k : ∀ j v, j < 6 → (us.getD i lns0).cs[j]? = some v → w.cell? ⟨g, off + i * 6 + j, none⟩ = some v := fun j v hj hv => by
    rw [Nat.add_assoc]
    exact hc _ _ (by rw [lnsV_at us i hi j hj]; exact hv)
  refine ⟨g, off, hA, ⟨k 0 _ (by omega) rfl, k 1 _ (by omega) rfl, k 2 _ (by omega) rfl, k 3 _ (by omega) rfl, k 4 _ (by omega) rfl, k 5 _ (by omega) rfl⟩, ?_⟩
  rw [at_k hi]
  exact hl _ (List.getElem_mem _)
theorem lns_own {b base n cap : Nat} {w : World} {A : Option Addr} {us : List LnS} (h : w.ownsRow base 69 6 (.slice A n cap) us.length (lnsV us)) (hl : ∀ u ∈ us, StrRow b w u.P u.x.oth) : LnsIn b w A us := fun hn => by
  rcases h.2 with ⟨_, h0⟩ | ⟨g, cap', cur, hv, _, hg, _, _, _, ht⟩
  · omega
  · injection hv with hA
    refine ⟨g, 0, hA, fun j u hu => ?_, hl⟩
    rw [Nat.zero_add, Lib.cell_of_heap hg, ← Array.getElem?_toList]
    rw [← ht, List.getElem?_take] at hu
    split at hu
    · exact hu
    · cases hu

/-- A line may stand behind others. -/
def folB (l : List Ln) (x : Ln) : Bool := decide (l.length = 0) || (decide (9 < x.kind) || !decide (9 < (l.getD (l.length - 1) ln0).kind))
set_option maxHeartbeats 4000000 in
theorem follows_any (b : Nat) (us : List LnS) (x : Ln) (A P : Option Addr) (c d : Nat) (w : World) (hz : us.length ≤ 1000000) (h : LnsIn b w A us) :
    Calls Tryz.prog 69 #[.slice A us.length c, lnV x P d] w fun e w' => e = .returned (.bool (folB (us.map (·.x)) x)) ∧ Below w.heap.size w w' := by
  have b1 := (Below.refl w.heap.size w).alloc (Nat.le_refl _) (lnO x P d)
  have HI := hide (h.keep b1)
  have B1 := hide b1
  clear h b1
  have HD := hide fun W => isDevice_any x P d W
  by_cases h0 : us.length = 0
  · have HR := hide (show folB (us.map (·.x)) x = true by unfold folB; rw [List.length_map, h0]; rfl)
    have h0' : ((us.length : Int) == 0) = true := by rw [beq_iff_eq]; omega
    clear h0
    go_enter Tryz.func69, Tryz.ntmps69
    go_wp2
    go_ret
    exact ⟨ret_bool (unhide HR).symm, unhide B1⟩
  · have h0' : ((us.length : Int) == 0) = false := by rw [beq_eq_false_iff_ne]; omega
    have HR0 := hide (show folB (us.map (·.x)) x = (decide (9 < x.kind) || !decide (9 < (us.getD (us.length - 1) lns0).x.kind)) by
      unfold folB
      rw [List.length_map, decide_eq_false h0, Bool.false_or]
      congr 3
      rw [at_k (by rw [List.length_map]; omega), at_k (by omega), List.getElem_map])
    cases hd : decide (9 < x.kind) with
    | true =>
      rw [hd] at HR0 HD
      clear h0
      go_enter Tryz.func69, Tryz.ntmps69
      go_wp2_with (first | (go_at_call 70; refine (unhide HD _).mono ?_; rintro e w1 ⟨rfl, hb1⟩; have HB1 := hide ((unhide B1).trans (hb1.mono (unhide B1).size)); clear hb1))
      go_ret
      exact ⟨ret_bool (by rw [unhide HR0]; rfl), unhide HB1⟩
    | false =>
      rw [hd] at HR0 HD
      obtain ⟨m, hm⟩ : ∃ m, us.length = m + 1 := ⟨us.length - 1, by omega⟩
      rw [show us.length - 1 = m by omega] at HR0
      have HI2 := hide fun W (hb : Below (w.alloc (lnO x P d)).heap.size (w.alloc (lnO x P d)) W) => ((unhide HI).keep hb).at (i := m) (by omega)
      have HD2 := hide fun W => isDevice_any (us.getD m lns0).x (us.getD m lns0).P (us.getD m lns0).c W
      generalize us.getD m lns0 = u at *
      rw [hm] at h0' ⊢
      clear h0
      have m0 : (0 : Int) ≤ (m : Int) := by omega
      have hmi : (m : Int) < (m : Int) + 1 := by omega
      have hmz : m ≤ 1000000 := by omega
      clear hm
      cases hu : decide (9 < u.x.kind)
      all_goals
        rw [hu] at HR0 HD2
        go_enter Tryz.func69, Tryz.ntmps69
        go_wp2_with fail
        refine (unhide HD _).mono ?_
        rintro e w1 ⟨rfl, hb1⟩
        have HB1 := hide ((unhide B1).trans (hb1.mono (unhide B1).size))
        obtain ⟨g, off, rfl, ⟨s0, s1, s2, s3, s4, s5⟩, -⟩ := unhide HI2 _ hb1
        clear hb1
        go_wp2_with (first | (go_at_call 70; refine (unhide HD2 _).mono ?_; rintro e w2 ⟨rfl, hb2⟩; have HB2 := hide (onward (unhide HB1) hb2); clear hb2))
        go_ret
        exact ⟨ret_bool (by rw [unhide HR0]; rfl), unhide HB2⟩

theorem linfo_line6 : (Tryz.prog.info? 69).map (fun i => (i.zero, i.size, i.bytes)) = some (some (.agg #[.int .i64 0, .string ⟨#[]⟩, .int .i64 0, .int .i64 0, .int .i64 0, .slice none 0 0]), 6, 72) := by kernel_rfl
/-- The lines of a text, or those before the first wrong one and false. -/
def linesG : Nat → List Ln → ByteArray → List Ln × Bool
  | 0, acc, _ => (acc, true)
  | f + 1, acc, s => if s.size = 0 then (acc, true) else if cutC 10 s = -1 then (acc, false) else match readF (s.extract 0 (cutC 10 s).toNat) with
    | none => (acc, false)
    | some x => if folB acc x = true then linesG f (acc ++ [x]) (s.extract ((cutC 10 s).toNat + 1) s.size) else (acc, false)
def linesF (s : ByteArray) : List Ln × Bool := linesG s.size [] s
theorem linesG_end {s : ByteArray} (h : s.size = 0) (f : Nat) (acc : List Ln) : linesG f acc s = (acc, true) := by
  cases f with
  | zero => rfl
  | succ f => unfold linesG; rw [if_pos h]
theorem linesG_cut {s : ByteArray} (h : s.size ≠ 0) (h1 : cutC 10 s = -1) (f : Nat) (acc : List Ln) : linesG (f + 1) acc s = (acc, false) := by
  unfold linesG; rw [if_neg h, if_pos h1]
theorem linesG_none {s : ByteArray} {k : Nat} (h : s.size ≠ 0) (h1 : cutC 10 s = (k : Int)) (h2 : readF (s.extract 0 k) = none) (f : Nat) (acc : List Ln) : linesG (f + 1) acc s = (acc, false) := by
  unfold linesG; rw [if_neg h, if_neg (by omega), h1, Int.toNat_natCast, h2]
theorem linesG_fol {s : ByteArray} {k : Nat} {x : Ln} (h : s.size ≠ 0) (h1 : cutC 10 s = (k : Int)) (h2 : readF (s.extract 0 k) = some x) (f : Nat) (acc : List Ln) (h3 : folB acc x = false) : linesG (f + 1) acc s = (acc, false) := by
  unfold linesG; rw [if_neg h, if_neg (by omega), h1, Int.toNat_natCast, h2]
  show (if folB acc x = true then _ else (acc, false)) = (acc, false)
  rw [h3]; rfl
theorem linesG_go {s : ByteArray} {k : Nat} {x : Ln} (h : s.size ≠ 0) (h1 : cutC 10 s = (k : Int)) (h2 : readF (s.extract 0 k) = some x) (f : Nat) (acc : List Ln) (h3 : folB acc x = true) : linesG (f + 1) acc s = linesG f (acc ++ [x]) (s.extract (k + 1) s.size) := by
  show (if s.size = 0 then (acc, true) else if cutC 10 s = -1 then (acc, false) else _) = _
  rw [if_neg h, if_neg (by omega), h1, Int.toNat_natCast, h2]
  show (if folB acc x = true then _ else (acc, false)) = _
  rw [if_pos h3]
/-- What readLines keeps. -/
structure LsS (b : Nat) (w : World) (us : List LnS) (v : Value) (wr : World) : Prop where
  bel : Below w.heap.size w wr
  row : wr.ownsRow w.heap.size 69 6 v us.length (lnsV us)
  lies : ∀ u ∈ us, StrRow b wr u.P u.x.oth
theorem LsS.below {b : Nat} {w wr w1 : World} {us : List LnS} {v : Value} (h : LsS b w us v wr) (hb : Below wr.heap.size wr w1) : LsS b w us v w1 :=
  ⟨onward h.bel hb, owns_later h.row hb, fun u hu => (h.lies u hu).step ((KeepTy.below hb).s b)⟩
theorem LsS.push {b : Nat} {w wr w1 : World} {us : List LnS} {v v' : Value} {u : LnS} (h : LsS b w us v wr) (hu : StrRow b wr u.P u.x.oth) (hg : wr.grownBy w1 v.ownBlock) (hr : w1.ownsRow w.heap.size 69 6 v' (us.length + 1) (lnsV us ++ u.cs)) : LsS b w (us ++ [u]) v' w1 := by
  have hk := KeepTy.grow (t' := 9) h.row (by decide) hg
  refine ⟨h.bel.grown hg h.bel.size (fun g e => (h.row.lt g e).1), ?_, fun z hz => ?_⟩
  · unfold lnsV at hr ⊢
    rw [List.length_append, List.flatMap_append]
    simpa using hr
  · rcases List.mem_append.1 hz with hz | hz
    · exact (h.lies z hz).step (hk.s b)
    · rw [List.mem_singleton.1 hz]; exact hu.step (hk.s b)
/-- What readLines comes to. -/
def LinesTo (b : Nat) (r : List Ln × Bool) (w : World) (e : Ending) (w' : World) : Prop :=
  ∃ (A : Option Addr) (c : Nat) (us : List LnS), e = .returned (.tuple #[.slice A us.length c, .bool r.2]) ∧ us.map (·.x) = r.1 ∧ LnsIn b w' A us ∧ Below w.heap.size w w'
set_option maxHeartbeats 4000000 in
set_option maxRecDepth 100000 in
theorem lrlines_any (b : Nat) (s : ByteArray) (w : World) (hT : LTab w) (hs : s.size ≤ 1000000) (hbw : b < w.heap.size) :
    Calls Tryz.prog 45 #[.string s] w (LinesTo b (linesF s) w) := by
  obtain ⟨i0, hi1, hz0, hz1, hz2⟩ := info_parts linfo_line6
  have Hi := hide hi1
  have Hz0 := hide hz0
  have Hz1 := hide hz1
  have Hz2 := hide hz2
  have HT := hide hT
  clear hi1 hz0 hz1 hz2 hT
  go_enter Tryz.func45, Tryz.ntmps45
  go_wp2
  go_loopw [0, 4] (fun sv v wr => ∃ (t : ByteArray) (us : List LnS) (f0 : Nat), sv = .string t ∧ t.size + us.length ≤ s.size ∧ t.size ≤ f0 ∧ LsS b w us v wr ∧ Hid (linesG f0 (us.map (·.x)) t = linesF s)) (fun sv _ _ => match sv with | .string t => t.size | _ => 0)
  case atStart => exact ⟨s, [], s.size, rfl, by simp, Nat.le_refl _, ⟨Below.refl _ _, ⟨rfl, .inl ⟨rfl, rfl⟩⟩, fun u hu => (nomatch hu)⟩, Lib.hid rfl⟩
  case round =>
    obtain ⟨t, us, f0, rfl, hts, htf, hS, hd⟩ := hrel
    obtain ⟨wo, rfl⟩ : ∃ wo : World, wo = wr := ⟨_, rfl⟩
    have HS := hide hS
    by_cases h0 : t.size = 0
    · have e0 : t.toList.isEmpty = true := size_empty h0
      have e1 : t.toList = [] := by simpa using e0
      have HR := hide (show linesF s = (us.map (·.x), true) by rw [← hd.out, linesG_end h0])
      obtain ⟨ao, cp, rfl⟩ := own_form hS.row
      clear h0 hd hS
      go_wp2
      go_ret2
      refine ⟨ao, cp, us, by rw [unhide HR]; rfl, by rw [unhide HR], lns_own (unhide HS).row (unhide HS).lies, (unhide HS).bel⟩
    · have e0 : t.toList.isEmpty = false := not_empty (by omega)
      obtain ⟨f, rfl⟩ : ∃ f, f0 = f + 1 := ⟨f0 - 1, by omega⟩
      rcases cutC_cases 10 t with hc | ⟨k, hc, hkz⟩
      · have HR := hide (show linesF s = (us.map (·.x), false) by rw [← hd.out, linesG_cut h0 hc])
        have HCt := hide fun W => cutc_miss 10 t W hc
        have HRd := hide fun W hT' hb' => lrline_any b t W hT' (by omega) hb'
        obtain ⟨ao, cp, rfl⟩ := own_form hS.row
        clear h0 hd hS hc
        go_wp2_with fail
        refine (unhide HCt _).mono ?_
        rintro e w2 ⟨rfl, hb2⟩
        have HS2 := hide ((unhide HS).below hb2)
        clear hb2
        go_wp2_with fail
        refine (unhide HRd _ ((unhide HT).keep (unhide HS2).bel) (Nat.lt_of_lt_of_le hbw (unhide HS2).bel.size)).mono ?_
        rintro e w3 ⟨A, c, rfl, -, hb3⟩
        have HS3 := hide (((unhide HS2).below hb3).below (below_new (Below.refl _ _) (lnO ((readF t).getD ln0) A c)))
        clear hb3
        go_wp2
        go_ret2
        exact ⟨ao, cp, us, by rw [unhide HR]; rfl, by rw [unhide HR], lns_own (unhide HS3).row (unhide HS3).lies, (unhide HS3).bel⟩
      · have HCt := hide fun W => cutc_hit 10 t k W (by unfold maxLen; omega) hc hkz
        have h1s : (t.extract 0 k).size ≤ 4000000 := by rw [ByteArray.size_extract]; omega
        have h2s : (t.extract (k + 1) t.size).size < t.size := by rw [ByteArray.size_extract]; omega
        have HRd := hide fun W hT' hb' => lrline_any b (t.extract 0 k) W hT' h1s hb'
        have HN1 := hide fun h => linesG_none h0 hc h f (us.map (·.x))
        have HN2 := hide fun x h => linesG_fol (x := x) h0 hc h f (us.map (·.x))
        have HN3 := hide fun x h => linesG_go (x := x) h0 hc h f (us.map (·.x))
        obtain ⟨ao, cp, rfl⟩ := own_form hS.row
        generalize t.extract 0 k = t1 at *
        generalize t.extract (k + 1) t.size = t2 at *
        clear h0 hS hc hkz
        cases hr : readF t1 with
        | none =>
          have HR := hide (show linesF s = (us.map (·.x), false) by rw [← hd.out, unhide HN1 hr])
          rw [hr] at HRd
          clear hd hr
          go_wp2_with fail
          refine (unhide HCt _).mono ?_
          rintro e w2 ⟨rfl, hb2⟩
          have HS2 := hide ((unhide HS).below hb2)
          clear hb2
          go_wp2_with fail
          refine (unhide HRd _ ((unhide HT).keep (unhide HS2).bel) (Nat.lt_of_lt_of_le hbw (unhide HS2).bel.size)).mono ?_
          rintro e w3 ⟨A, c, rfl, -, hb3⟩
          have HS3 := hide (((unhide HS2).below hb3).below (below_new (Below.refl _ _) (lnO ln0 A c)))
          clear hb3
          go_wp2
          go_ret2
          exact ⟨ao, cp, us, by rw [unhide HR]; rfl, by rw [unhide HR], lns_own (unhide HS3).row (unhide HS3).lies, (unhide HS3).bel⟩
        | some x =>
          rw [hr] at HRd
          cases hfo : folB (us.map (·.x)) x with
          | false =>
            have HR := hide (show linesF s = (us.map (·.x), false) by rw [← hd.out, unhide HN2 x hr hfo])
            have HFo := hide fun A c W hI => follows_any b us x ao A cp c W (by omega) hI
            rw [hfo] at HFo
            clear hd hr hfo
            go_wp2_with fail
            refine (unhide HCt _).mono ?_
            rintro e w2 ⟨rfl, hb2⟩
            have HS2 := hide ((unhide HS).below hb2)
            clear hb2
            go_wp2_with fail
            refine (unhide HRd _ ((unhide HT).keep (unhide HS2).bel) (Nat.lt_of_lt_of_le hbw (unhide HS2).bel.size)).mono ?_
            rintro e w3 ⟨A, c, rfl, -, hb3⟩
            have HS3 := hide (((unhide HS2).below hb3).below (below_new (Below.refl _ _) (lnO x A c)))
            have HI3 := hide (lns_own (unhide HS3).row (unhide HS3).lies)
            clear hb3
            go_wp2_with (first | (go_at_call 69; refine (unhide HFo A c _ (unhide HI3)).mono ?_; rintro e w4 ⟨rfl, hb4⟩; have HS4 := hide ((unhide HS3).below hb4); clear hb4))
            go_ret2
            exact ⟨ao, cp, us, by rw [unhide HR]; rfl, by rw [unhide HR], lns_own (unhide HS4).row (unhide HS4).lies, (unhide HS4).bel⟩
          | true =>
            have HR := hide (show linesG f ((us.map (·.x)) ++ [x]) t2 = linesF s by rw [← hd.out, unhide HN3 x hr hfo])
            have HFo := hide fun A c W hI => follows_any b us x ao A cp c W (by omega) hI
            rw [hfo] at HFo
            clear hd hr hfo
            go_wp2_with fail
            refine (unhide HCt _).mono ?_
            rintro e w2 ⟨rfl, hb2⟩
            have HS2 := hide ((unhide HS).below hb2)
            clear hb2
            go_wp2_with fail
            refine (unhide HRd _ ((unhide HT).keep (unhide HS2).bel) (Nat.lt_of_lt_of_le hbw (unhide HS2).bel.size)).mono ?_
            rintro e w3 ⟨A, c, rfl, hst3, hb3⟩
            have bB := (Below.refl w3.heap.size w3).alloc (Nat.le_refl _) (lnO x A c)
            have HS3 := hide (((unhide HS2).below hb3).below bB)
            have HSt3 := hide (hst3.step ((KeepTy.below bB).s b))
            have HI3 := hide (lns_own (unhide HS3).row (unhide HS3).lies)
            have HBox := hide (show ∀ W, Below (w3.alloc (lnO x A c)).heap.size (w3.alloc (lnO x A c)) W → W.heap[w3.heap.size]? = some (.cells (lnA x A c) 69 (0, 0)) from fun W hb => heap_below (heap_alloc_new w3 _) hb)
            clear hb3 hst3 bB
            go_wp2_with fail
            refine (unhide HFo A c _ (unhide HI3)).mono ?_
            rintro e w4 ⟨rfl, hb4⟩
            have HS4 := hide ((unhide HS3).below hb4)
            have HSt4 := hide ((unhide HSt3).step ((KeepTy.below hb4).s b))
            obtain ⟨d0, d1, d2, d3, d4, d5⟩ := ln_cells (unhide HBox _ hb4)
            have bC := (Below.refl w4.heap.size w4).alloc (Nat.le_refl _) (lnO x A c)
            have HS5 := hide ((unhide HS4).below bC)
            have HSt5 := hide ((unhide HSt4).step ((KeepTy.below bC).s b))
            have hsz5 := (unhide HS4).bel.size
            clear hb4 bC
            go_wp2_with (first
              | (at_builtin; refine wpList_append_own _ rfl _ _ 81 rfl w.heap.size 69 i0 (.agg #[.int .i64 0, .string ⟨#[]⟩, .int .i64 0, .int .i64 0, .int .i64 0, .slice none 0 0]) 6 72 Tryz.underlying81 (unhide Hi) (unhide Hz0) (unhide Hz1) (unhide Hz2) rfl (by decide) _ _ _ rfl (unhide HS5).row ⟨w4.heap.size, 0, none⟩ 1 1 (lnA x A c).toList rfl rfl ?c1 ?c2 ?c3 ?c4 ?c5 ?_))
            case c2 => simp [Value.oneCell']
            case c3 => unfold maxLen; omega
            case c4 => omega
            case c5 => rw [World.size_alloc]; omega
            intro v' w6 hown6 hgrow _
            have HS6 := hide ((unhide HS5).push (u := ⟨x, A, c⟩) (unhide HSt5) hgrow hown6)
            clear hown6 hgrow d0 d1 d2 d3 d4 d5
            go_wp2
            go_roundw
            case rel => exact ⟨t2, us ++ [⟨x, A, c⟩], f, rfl, by rw [List.length_append, List.length_singleton]; omega, by omega, unhide HS6, Lib.hid (by rw [List.map_append, List.map_cons, List.map_nil]; exact unhide HR)⟩
            case measure => show t2.size < t.size; omega
end Go.Proofs.YtfddpdognelhmaaGreatDoor
