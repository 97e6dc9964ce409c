/-
  Screening (layer 15): ScreenOnlyVerdicts: its walk.
-/
import Derived.Test.YtdhkhkcijffbiaaScrD
import Derived.Test.YtdhkhkcijffbiaaScrE
import Derived.Test.YtdhkhkcijffbiaaAnyH
namespace Go.Proofs.Ytdhkhkcijffbiaa
open Go.RowKit

section
variable {P : Program} {ops : Array Oper} {Q : Exit → Act → World → Prop} {md : Region.Mode} {S : World → Prop}
set_option maxRecDepth 100000 in
theorem yields_loadS {o : Oper} {a : Act} {g : Nat} {s : Scr} {A : Option Addr} {c : Nat} (x : Operand) (ho : o.op = .load 28 x)
    (hx : a.eval x = .pointer (some ⟨g, 0, none⟩)) (hw : Region.wanted o (yielded ops a.tmps) = true) (hS : ∀ w, S w → w.heap[g]? = some (scrO s A c)) : YieldsIf Try.prog ops S o (scrV s A c) a := by
  refine .inl ⟨hw, fun w hs => ?_⟩
  unfold execOp
  simp only [ho, hx, Instr.loadAt, Instr.sureAddr, Sem.run_bind, Sem.run_pure, Result.andThen_ok, run_loadVar_row w g 28 28 _ (0, 0) _ (hS w hs) Try.underlying28 rfl infoS]
end
theorem moreq_any (B b : Nat) (w : World) (h : Src B b w) :
    Calls Try.prog 13 #[.pointer (some ⟨b, 0, none⟩)] w fun e w' => ∃ v : Bool, e = .returned (.bool v) ∧ Below w.heap.size w w' := by
  obtain ⟨hbase, ⟨A, n, c, k, e1, e2, e3, e4, e5⟩, hfree, hlt⟩ := h
  clear e5
  by_cases hk : (k : Int) < (n : Int)
  · go_enter Try.func13, Try.ntmps13
    go_wp2_with fail
    go_quiet (fail)
    go_wp2
    go_ret
    exact ⟨_, rfl, draws (Below.refl _ _) _⟩
  · go_enter Try.func13, Try.ntmps13
    go_wp2_with fail
    go_quiet (fail)
    go_wp2
    go_ret
    exact ⟨_, rfl, draws (Below.refl _ _) _⟩
theorem kin_any (b : Nat) (l : List Int) (x : Int) (A : Option Addr) (c : Nat) (w : World) (hz : l.length ≤ 1000000) (h : NumsIn b w A l) :
    Calls Try.prog 30 #[.slice A l.length c, .int .i64 x] w fun e w' => e = .returned (.bool (decide (x ∈ l))) ∧ w = w' := by
  have HL := hide h
  clear h
  go_enter Try.func30, Try.ntmps30
  go_wp2
  go_loop [5] (fun i => ∃ k : Nat, k ≤ l.length ∧ i = .int .i64 k ∧ Hid (∀ j, j < k → l.getD j 0 ≠ x)) (fun i => l.length - (intOf i).toNat)
  case atStart => exact ⟨0, Nat.zero_le _, rfl, Lib.hid fun j hj => absurd hj (Nat.not_lt_zero _)⟩
  case round =>
    obtain ⟨k, hk, rfl, HJ⟩ := hrel
    by_cases hlt : k < l.length
    · obtain ⟨g, off, rfl, _, hc⟩ := (unhide HL) (by omega)
      have c0 := hc k hlt
      have kl : (k : Int) < (l.length : Int) := by omega
      have k0 : (0 : Int) ≤ (k : Int) := by omega
      have HM := hide (show l.getD k 0 ∈ l by rw [at_k hlt]; exact List.getElem_mem _)
      have HN := hide (show l.getD k 0 ≠ x → ∀ j, j < k + 1 → l.getD j 0 ≠ x from fun hn j hj => by
        by_cases e : j = k
        · rw [e]; exact hn
        · exact (unhide HJ) j (by omega))
      generalize l.getD k 0 = y at *
      clear hc
      by_cases he : y = x
      · have hq : (y == x) = true := by rw [beq_iff_eq]; exact he
        have HE := hide he
        clear he
        go_wp2
        go_ret
        exact ⟨ret_bool (by rw [decide_eq_true (by rw [← unhide HE]; exact unhide HM)]), rfl⟩
      · have hq : (y == x) = false := by rw [beq_eq_false_iff_ne]; exact he
        have HE := hide ((unhide HN) he)
        clear he
        go_wp2
        go_round
        case rel => exact ⟨k + 1, by omega, by go_num, Lib.hid (unhide HE)⟩
        case measure => simp [intOf]; omega
    · have kl : ¬ (k : Int) < (l.length : Int) := by omega
      have HM := hide (show x ∉ l from fun hm => by
        obtain ⟨j, hj, e⟩ := List.getElem_of_mem hm
        exact (unhide HJ) j (by omega) (by rw [at_k hj]; exact e))
      go_wp2
      go_ret
      exact ⟨ret_bool (by rw [decide_eq_false (unhide HM)]), rfl⟩
/-- Among the cleared bags are those whose check is cleared. -/
theorem clr_mem {s : Scr} (hv : ValS s) (b : Int) : decide (b ∈ clrL s) = (findB s b && decide ((findX s b).st = 2)) := by
  cases h : findO s b with
  | none =>
    rw [findB_none h, Bool.false_and, decide_eq_false_iff_not]
    intro hm
    obtain ⟨x, hx, rfl⟩ := List.mem_map.1 hm
    exact find_no h x ((List.mem_filter.1 hx).1) rfl
  | some y =>
    obtain ⟨f1, f2⟩ := findB_some h
    rw [f1, f2, Bool.true_and, decide_eq_decide]
    obtain ⟨k, hk, e, hb⟩ := find_some h
    constructor
    · intro hm
      obtain ⟨x, hx, rfl⟩ := List.mem_map.1 hm
      obtain ⟨hx1, hx2⟩ := List.mem_filter.1 hx
      obtain ⟨j, hj, ej⟩ := mem_getD hx1
      have := find_at (bag := x.bag) hv.asc hj (by rw [ej])
      unfold findO at h
      rw [h] at this
      rw [Option.some.inj this, ej]
      simpa using hx2
    · intro hs
      exact List.mem_map.2 ⟨y, List.mem_filter.2 ⟨by rw [← e]; exact getD_mem hk, by simpa using hs⟩, hb⟩

theorem RowIn.grown2 {α : Type} {f : α → List Value} {b r : Nat} {w w1 : World} {A : Option Addr} {xs : List α} (h : RowIn f b w A xs) (h' : RowIn f r w A xs) (hg : w.grownBy w1 (some r)) : RowIn f b w1 A xs := fun hn => by
  obtain ⟨g, off, hA, hgb, hc⟩ := h hn
  obtain ⟨g', off', hA', hgr, _⟩ := h' hn
  rw [hA] at hA'
  injection hA' with hA'
  injection hA' with e1 _
  exact ⟨g, off, hA, hgb, fun j u hu => hg.cell (hc j u hu) (by simp; omega)⟩
theorem RowIn.ne {α : Type} {f : α → List Value} {b : Nat} {w : World} {A : Option Addr} {xs : List α} (h : RowIn f b w A xs) (hn : 0 < xs.length) {q off : Nat} (hA : A = some ⟨q, off, none⟩) : q ≠ b := by
  obtain ⟨g, off', hA', hgb, _⟩ := h hn
  rw [hA] at hA'
  injection hA' with hA'
  injection hA' with e1 _
  omega
theorem RowIn.row2 {α : Type} {f : α → List Value} {b X : Nat} {w : World} {A : Option Addr} {xs : List α} (h : RowIn f b w A xs) (h' : RowIn f X w A xs) (cs : Array Value) : RowIn f b (w.setRow X cs) A xs := fun hn => RowIn.apart h (fun _ _ hA => h'.ne hn hA) cs hn
/-- The reader R, the screening's box X. -/
structure OvS (w0 : World) (R X : Nat) (s : Scr) (A : Option Addr) (c : Nat) (W : World) : Prop where
  src : Src R R W
  box : W.heap[X]? = some (scrO s A c)
  ckR : CksIn R W A s.l
  ckX : CksIn X W A s.l
  cap : s.l.length ≤ c
  bel : Below w0.heap.size w0 W
  lo : w0.heap.size ≤ R
  lt : R < X
  val : ValS s
section
variable {w0 W W' : World} {R X : Nat} {s s' : Scr} {A A' : Option Addr} {c c' : Nat}
theorem OvS.reads (h : OvS w0 R X s A c W) (hs : Src R R W') (hg : W.grownBy W' (some R)) : OvS w0 R X s A c W' :=
  ⟨hs, (hg.block _ (Array.getElem?_eq_some_iff.1 h.box).1 (fun e => by injection e with e; have := h.lt; omega)).trans h.box, h.ckR.grown hg, h.ckX.grown2 h.ckR hg, h.cap, below_reads h.bel hg h.lo h.bel.size, h.lo, h.lt, h.val⟩
theorem OvS.below (h : OvS w0 R X s A c W) (hb : Below W.heap.size W W') : OvS w0 R X s A c W' :=
  ⟨h.src.keep hb, heap_below h.box hb, h.ckR.keep hb, h.ckX.keep hb, h.cap, onward h.bel hb, h.lo, h.lt, h.val⟩
theorem OvS.put (h : OvS w0 R X s A c W) (h1 : CksIn R W A' s'.l) (h2 : CksIn X W A' s'.l) (hc : s'.l.length ≤ c') (hv : ValS s') : OvS w0 R X s' A' c' (W.setRow X (scrA s' A' c')) :=
  ⟨h.src.grown (row := some X) (grown_row W X _) (fun k hk => by injection hk with hk; have := h.lt; omega), setRow_heap W X _ _ _ _ h.box, h1.row2 h2 _, RowIn.box h2 _, hc, below_row h.bel (by have := h.lo; have := h.lt; omega) _, h.lo, h.lt, hv⟩
theorem OvS.szX (h : OvS w0 R X s A c W) : X < W.heap.size := (Array.getElem?_eq_some_iff.1 h.box).1
theorem OvS.szR (h : OvS w0 R X s A c W) : R < W.heap.size := by have := h.szX; have := h.lt; omega
end
end Go.Proofs.Ytdhkhkcijffbiaa
