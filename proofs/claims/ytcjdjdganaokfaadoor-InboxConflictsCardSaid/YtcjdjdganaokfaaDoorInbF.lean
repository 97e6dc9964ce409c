/-
  Contract of decide: what becomes of a message.
-/
import Derived.Test.YtcjdjdganaokfaaDoorInbE
namespace Go.Proofs.YtcjdjdganaokfaaDoor
open Go.RowKit

set_option maxRecDepth 100000 in
/-- A message is loaded from the middle of a row, in a region that draws its order. -/
theorem quiet_loadA {o : Oper} {a : Act} {C : World → Prop} {K : Act → Prop} {g off : Nat} {x : MsS} (y : Operand) (ho : o.op = .load 32 y)
    (hx : a.eval y = .pointer (some ⟨g, off, none⟩)) (hC : ∀ w, C w → ∀ j u, x.arr[j]? = some u → w.cell? ⟨g, off + j, none⟩ = some u) (hK : K (a.put o.dst x.v)) : o.quiet Tryd.prog a C K := by
  refine ⟨x.v, fun w hw => ?_, hK⟩
  unfold Oper.quietAt execOp
  simp only [ho, hx, Instr.loadAt, Instr.sureAddr, Sem.run_bind, Sem.run_pure, Result.andThen_ok, run_loadVar_at w g off _ x.arr _ (hC w hw) undM' undM infoM]
  exact ⟨rfl, rfl⟩

/-- What becomes of a message of a sender. -/
def decR (s : SnS) (win : Int) (m : Msg) : Int :=
  if m.num < s.next then 3 else if s.next + win ≤ m.num then 4 else
  if hasF (numC m.num) s.held then (if sameM (s.held.getD (lbF (numC m.num) s.held) ms0).m m then 3 else 5) else if s.next < m.num then 2 else 1

theorem hasF_lt {α : Type} {f : α → Int} {l : List α} (h : hasF f l = true) : lbF f l < l.length := by
  unfold hasF at h
  rcases Nat.lt_or_ge (lbF f l) l.length with h1 | h1
  · exact h1
  · rw [List.getElem?_eq_none h1] at h; cases h

set_option maxHeartbeats 4000000 in
set_option maxRecDepth 100000 in
theorem decide_any (b : Nat) (s : SnS) (win : Int) (x : MsS) (w : World) (hs : MsgsIn b w s.A s.held) (hz : s.held.length ≤ 1000000) (hx : x.Lies b w) (hf : ∀ y ∈ s.held, y.m.onw.length ≤ 1000 ∧ y.m.lst.length ≤ 1000)
    (hm : MonoF (numC x.m.num) s.held ms0) (hn1 : 0 ≤ s.next) (hn2 : s.next ≤ 1000000000) (hw1 : 0 ≤ win) (hw2 : win ≤ 1000000000) :
    Calls Tryd.prog 38 #[s.v, .int .i64 win, x.v] w fun e w' => e = .returned (.int .i64 (decR s win x.m)) ∧ Below w.heap.size w w' := by
  generalize hv : decR s win x.m = v
  unfold decR at hv
  have HV := hide hv
  clear hv
  obtain ⟨W1, hW1⟩ : ∃ W1 : World, (w.alloc (.cells s.arr 93)).alloc (.cells x.arr 32) = W1 := ⟨_, rfl⟩
  have b1 : Below w.heap.size w W1 := by rw [← hW1]; exact below_new ((Below.refl _ _).alloc (Nat.le_refl _) _) _
  have hS1 : W1.heap[w.heap.size]? = some (.cells s.arr 93 (0, 0)) := by rw [← hW1, Below.heap_alloc _ _ _ (by rw [World.size_alloc]; omega)]; exact heap_alloc_new w _
  have hM1 : W1.heap[w.heap.size + 1]? = some (.cells x.arr 32 (0, 0)) := by
    rw [← hW1]
    have := heap_alloc_new (w.alloc (.cells s.arr 93)) (.cells x.arr 32)
    rwa [World.size_alloc] at this
  have z3 : W1.cell? ⟨w.heap.size + 1, 3, none⟩ = some (.int .i64 x.m.num) := by rw [Lib.cell_of_heap hM1]; rfl
  have HF := hide (findheld_any b s x.m.num W1 (hs.keep b1) hz hm)
  have HS1 := hide hS1
  have HM1 := hide hM1
  have HB1 := hide b1
  have HH := hide (hs.keep b1)
  have HX := hide (hx.keep b1)
  have HFW := hide hf
  have HM := hide hm
  have hw : IntKind.i64.wrap (s.next + win) = s.next + win := by rw [IntKind.wrap_i64]; omega
  clear hs hx hf hm b1 hS1 hM1
  go_enter Tryd.func38, Tryd.ntmps38
  go_wp2_with (refine wpList_loadS (unhide HS1) rfl _ rfl rfl ?_)
  refine (unhide HF).mono ?_
  rintro e w2 ⟨rfl, hb2⟩
  have y3 := kept hb2 z3
  have y1 : w2.cell? ⟨w.heap.size, 1, none⟩ = some (.int .i64 s.next) := kept hb2 (by rw [Lib.cell_of_heap (unhide HS1)]; rfl)
  have y2 : w2.cell? ⟨w.heap.size, 2, none⟩ = some (.slice s.A s.held.length s.c) := kept hb2 (by rw [Lib.cell_of_heap (unhide HS1)]; rfl)
  have hM2 := (hb2.block _ (Array.getElem?_eq_some_iff.1 (unhide HM1)).1).trans (unhide HM1)
  have HM2 := hide hM2
  have HH2 := hide ((unhide HH).keep hb2)
  have HX2 := hide ((unhide HX).keep hb2)
  have HB2 := hide (onward (unhide HB1) hb2)
  clear hb2 z3 HF HS1 HM1 HH HX hM2 HB1
  have HLT := hide (@hasF_lt _ (numC x.m.num) s.held)
  generalize hi : lbF (numC x.m.num) s.held = i at *
  generalize hh : hasF (numC x.m.num) s.held = has at *
  clear hi hh HM
  by_cases c1 : x.m.num < s.next
  · have e := unhide HV
    rw [if_pos c1] at e
    subst e
    go_wp2
    go_ret
    exact ⟨rfl, unhide HB2⟩
  · by_cases c2 : s.next + win ≤ x.m.num
    · have e := unhide HV
      rw [if_neg c1, if_pos c2] at e
      subst e
      go_wp2
      go_ret
      exact ⟨rfl, unhide HB2⟩
    · have HV2 := hide (show (if has then (if sameM (s.held.getD i ms0).m x.m then 3 else 5) else if s.next < x.m.num then 2 else 1) = v by
        have e := unhide HV
        rw [if_neg c1, if_neg c2] at e
        exact e)
      clear HV
      cases has with
      | false =>
        by_cases c3 : s.next < x.m.num
        · have e := unhide HV2
          rw [if_neg Bool.false_ne_true, if_pos c3] at e
          subst e
          go_wp2_with fail
          refine wp_region_after (by kernel_rfl) (by kernel_rfl) ?_
          repeat (go_big_quiet_step (fail))
          refine wpQuiet_nil ?_
          rintro _ ⟨t, rfl⟩
          have q3 := kept t.is y3
          have q1 := kept t.is y1
          have HT := hide t.is
          generalize t.to = W3 at *
          go_wp2
          go_ret
          exact ⟨rfl, onward (unhide HB2) (unhide HT)⟩
        · have e := unhide HV2
          rw [if_neg Bool.false_ne_true, if_neg c3] at e
          subst e
          go_wp2_with fail
          refine wp_region_after (by kernel_rfl) (by kernel_rfl) ?_
          repeat (go_big_quiet_step (fail))
          refine wpQuiet_nil ?_
          rintro _ ⟨t, rfl⟩
          have q3 := kept t.is y3
          have q1 := kept t.is y1
          have HT := hide t.is
          generalize t.to = W3 at *
          go_wp2
          go_ret
          exact ⟨rfl, onward (unhide HB2) (unhide HT)⟩
      | true =>
        have hil : i < s.held.length := unhide HLT rfl
        obtain ⟨g, off, hA, -, hc, hl⟩ := (unhide HH2).at hil
        have hy := unhide HFW (s.held.getD i ms0) (by rw [at_k hil]; exact List.getElem_mem _)
        have e := unhide HV2
        rw [if_pos rfl] at e
        generalize s.held.getD i ms0 = y at *
        have HD := hide (fun t : After w2 => same_any b y.m x.m y.P x.P y.Q x.Q y.c x.c y.d x.d t.to (by omega) (by omega) (hl.1.keep t.is) ((unhide HX2).1.keep t.is) (hl.2.keep t.is) ((unhide HX2).2.keep t.is))
        have q2 : ∀ t : After w2, t.to.cell? ⟨w.heap.size, 2, none⟩ = some (.slice s.A s.held.length s.c) := fun t => After.cell y2 t
        have HC := hide (fun (w' : World) (hw' : ∃ t : After w2, w' = t.to) => show ∀ j u, y.arr[j]? = some u → w'.cell? ⟨g, off + i * 30 + j, none⟩ = some u by
          obtain ⟨t, rfl⟩ := hw'
          exact fun j u hu => After.cell (hc j u hu) t)
        have HXB := hide (fun (w' : World) (hw' : ∃ t : After w2, w' = t.to) => show w'.heap[w.heap.size + 1]? = some (.cells x.arr 32 (0, 0)) by
          obtain ⟨t, rfl⟩ := hw'
          rw [t.is.block _ (Array.getElem?_eq_some_iff.1 (unhide HM2)).1]; exact unhide HM2)
        rw [hA] at q2
        have il : (i : Int) < (s.held.length : Int) := by omega
        clear hc hl hA y2
        go_wp2_with fail
        refine wp_region_after (by kernel_rfl) (by kernel_rfl) ?_
        repeat (go_big_quiet_step (fail))
        refine BigFrame.wpQuiet_want rfl (fun K hK => ?_)
        refine quiet_loadA _ rfl rfl (unhide HC) (hK _ ?_)
        clear hK K
        refine BigFrame.wpQuiet_want rfl (fun K hK => ?_)
        refine quiet_loadM _ rfl rfl (unhide HXB) (hK _ ?_)
        clear hK K
        simp only [Act.put, List.setIfInBounds_toArray, List.set_cons_succ, List.set_cons_zero]
        repeat (go_big_quiet_step (first | (go_at_call 56; exact After.call (unhide HD _))))
        refine wpQuiet_nil ?_
        rintro _ ⟨t, rfl⟩
        have HT := hide t.is
        generalize t.to = W3 at *
        cases hsm : sameM y.m x.m with
        | true =>
          rw [hsm, if_pos rfl] at e
          subst e
          go_wp2
          go_ret
          exact ⟨rfl, onward (unhide HB2) (unhide HT)⟩
        | false =>
          rw [hsm, if_neg Bool.false_ne_true] at e
          subst e
          go_wp2
          go_ret
          exact ⟨rfl, onward (unhide HB2) (unhide HT)⟩
end Go.Proofs.YtcjdjdganaokfaaDoor
