/-
  Screening (layer 15): the program's Start.
-/
import Derived.Test.YtdhkhkcijffbiaaScrS
namespace Go.Proofs.Ytdhkhkcijffbiaa
open Go.RowKit

abbrev zS : Array Value := #[.int .i64 0, .int .i64 0, .int .i64 0, .int .i64 0, .int .i64 0, .slice none 0 0]
/-- Start behind its search: the screening in its box, the result's box. -/
structure StS (w : World) (b : Nat) (s : Scr) (A : Option Addr) (c : Nat) (W : World) : Prop where
  bel : Below w.heap.size w W
  bx : W.heap[w.heap.size]? = some (scrO s A c)
  rs : W.heap[w.heap.size + 1]? = some (scrO scr0 none 0)
  cks : CksIn b W A s.l
section
variable {w W W' : World} {b : Nat} {s : Scr} {A : Option Addr} {c : Nat}
theorem StS.below (h : StS w b s A c W) (hb : Below W.heap.size W W') : StS w b s A c W' := ⟨onward h.bel hb, heap_below h.bx hb, heap_below h.rs hb, h.cks.keep hb⟩
theorem StS.lt (h : StS w b s A c W) : w.heap.size + 2 ≤ W.heap.size := (Array.getElem?_eq_some_iff.1 h.rs).1
theorem StS.start (h : CksIn b w A s.l) : StS w b s A c ((w.alloc (scrO s A c)).alloc (scrO scr0 none 0)) := by
  have b1 := below_new (below_new (Below.refl w.heap.size w) (scrO s A c)) (scrO scr0 none 0)
  exact ⟨b1, by rw [Below.heap_alloc _ _ _ (by rw [World.size_alloc]; omega)]; exact heap_alloc_new w _, by rw [← World.size_alloc w (scrO s A c)]; exact heap_alloc_new _ _, h.keep b1⟩
theorem StS.bad (h : StS w b s A c W) {o : Scr} {er ev : Int} (ho : o = scr0) (he : er = ev) : GivesS w o er (.returned (.tuple #[scrV scr0 none 0, .int .i64 ev])) (W.setRow (w.heap.size + 1) (scrA scr0 none 0)) :=
  gives_no ho he (below_row h.bel (by omega) _)
end
/-- A screening under way in the call's own box, its checks in a row of the call's own. -/
structure StD (w : World) (B : Nat) (o : Scr) (A : Option Addr) (c : Nat) (W : World) : Prop where
  bel : Below w.heap.size w W
  out : OutS B w.heap.size o A c W
  rs : W.heap[w.heap.size + 1]? = some (scrO scr0 none 0)
  lo : w.heap.size + 2 ≤ B
section
variable {w W W' : World} {b B : Nat} {s o : Scr} {A A' A2 : Option Addr} {c c' c2 : Nat}
theorem StD.below (h : StD w B o A c W) (hb : Below W.heap.size W W') : StD w B o A c W' := ⟨onward h.bel hb, h.out.below hb, heap_below h.rs hb, h.lo⟩
theorem StD.next (h : StD w B o A c W) (n : Int) : StD w B { o with next := n } A c (W.setCell ⟨w.heap.size, 4, none⟩ (.int .i64 n)) :=
  ⟨h.bel.setCell (p := ⟨w.heap.size, 4, none⟩) (Nat.le_refl _) _, h.out.next n, by rw [Below.heap_setCell _ _ _ _ (by simp)]; exact h.rs, h.lo⟩
theorem StD.gives (h : StD w B o A c W) : GivesS w o 0 (.returned (.tuple #[scrV o A c, .int .i64 0])) (W.setRow (w.heap.size + 1) (scrA o A c)) := by
  have hl := h.lo
  refine ⟨A, c, rfl, fun b hb => ?_, below_row h.bel (by omega) _, own_cap h.out.own⟩
  exact RowIn.own (h.out.own.kept (grown_row W _ _) (.inr (fun e => by have := (h.out.own.lt _ e).1; omega))) (.inl (by omega))
theorem StS.ins {k : Nat} {x : Ck} (h : StS w b s A c W) (lo : w.heap.size + 2 ≤ B) (own : W.ownsRow B 42 5 (.slice A2 s.l.length c2) s.l.length (s.l.flatMap Ck.cs)) (hg : W.grownBy W' (Value.slice A2 s.l.length c2).ownBlock) (hk : k ≤ s.l.length)
    (own' : W'.ownsRow B 42 5 (.slice A' (s.l.length + 1) c') (s.l.length + 1) ((s.l.flatMap Ck.cs).take (k * 5) ++ x.cs ++ (s.l.flatMap Ck.cs).drop (k * 5))) :
    StD w B { s with l := s.l.take k ++ x :: s.l.drop k } A' c' (W'.setCell ⟨w.heap.size, 5, none⟩ (.slice A' (s.l.length + 1) c')) := by
  have hlt := h.lt
  have hne : ∀ q, q < B → some q ≠ (Value.slice A2 s.l.length c2).ownBlock := fun q hq e => by have := (own.lt _ e.symm).1; omega
  have hbx := (hg.block _ (by omega) (hne _ (by omega))).trans h.bx
  have hrs := (hg.block _ (by omega) (hne _ (by omega))).trans h.rs
  have hl : (s.l.take k ++ x :: s.l.drop k).length = s.l.length + 1 := by rw [List.length_append, List.length_take, List.length_cons, List.length_drop]; omega
  refine ⟨(h.bel.grown hg h.bel.size (fun q e => by have := (own.lt q e).1; omega)).setCell (p := ⟨w.heap.size, 5, none⟩) (Nat.le_refl _) _, ⟨?_, ?_, by omega⟩, ?_, lo⟩
  · rw [heap_set hbx]
    show _ = some (scrO { s with l := s.l.take k ++ x :: s.l.drop k } A' c')
    unfold scrO scrA
    rw [hl]; rfl
  · rw [hl, ← flat_ins Ck.cs 5 Ck.cs_len s.l k hk x]
    exact own'.kept (grown_set _ _ _ _) (.inr (fun e => by have := (own'.lt _ e).1; omega))
  · rw [Below.heap_setCell _ _ _ _ (by simp)]; exact hrs
end
theorem yields_loadC {ops : Array Oper} {S : World → Prop} {o : Oper} {a : Act} {g : Nat} {x : Ck} {t : TypeId} {fz : Nat × Nat} (y : Operand) (ho : o.op = .load 42 y)
    (hx : a.eval y = .pointer (some ⟨g, 0, none⟩)) (hw : Region.wanted o (yielded ops a.tmps) = true) (hS : ∀ w, S w → w.heap[g]? = some (.cells x.arr t fz)) : YieldsIf Try.prog ops S o x.v a := by
  refine .inl ⟨hw, fun w hs => ?_⟩
  unfold execOp
  simp only [ho, hx, Instr.loadAt, Instr.sureAddr, Sem.run_bind, Sem.run_pure, Result.andThen_ok, run_loadVar_row w g t 42 _ fz _ (hS w hs) Try.underlying42 rfl infoC]

set_option maxHeartbeats 4000000 in
set_option maxRecDepth 100000 in
theorem pstart_any (b : Nat) (s : Scr) (bag now : Int) (A : Option Addr) (c : Nat) (w : World) (hv : ValS s) (h : CksIn b w A s.l) :
    Calls Try.prog 15 #[scrV s A c, .int .i64 bag, .int .i64 now] w (GivesS w (startS s bag now) (startE s bag now)) := by
  obtain ⟨W1, hW⟩ : ∃ W1 : World, (w.alloc (scrO s A c)).alloc (.cells zS 28) = W1 := ⟨_, rfl⟩
  have HS := hide (show StS w b s A c W1 from by rw [← hW]; exact StS.start h)
  have HBX := hide (unhide HS).bx
  have HV := hide hv
  clear hv h
  go_enter Try.func15, Try.ntmps15
  go_upto_region 2 with (first
    | (refine wpList_loadS (unhide HBX) rfl _ rfl rfl ?_)
    | (go_at_call 33; refine (sfind_any b s bag A c _ (unhide HV) (unhide HS).cks).mono ?_; rintro e w1 ⟨rfl, hb1⟩; have HB1 := hide hb1; clear hb1))
  have HS1 := hide ((unhide HS).below (unhide HB1))
  clear HBX HB1 HS hW
  have HBX := hide (unhide HS1).bx
  have HRS := hide (unhide HS1).rs
  have z4 : w1.cell? ⟨w.heap.size, 4, none⟩ = some (.int .i64 s.next) := by rw [Lib.cell_of_heap (unhide HBX)]; rfl
  by_cases h1 : bag < 1
  · have HE := hide (startE_bad (s := s) (now := now) (.inl h1))
    go_wp2_with (refine wpList_storeS (s := scr0) (A := none) (c := 0) (unhide HRS) rfl _ _ rfl rfl rfl ?_)
    refine bodyPost_ret (v := .tuple #[scrV scr0 none 0, .int .i64 1]) (results_row2' rfl _ _ (w.heap.size + 1) _ _ _ _ _ rfl rfl (setRow_heap w1 (w.heap.size + 1) _ (scrA scr0 none 0) _ _ (unhide HRS)) Try.underlying28 rfl infoS) rfl ?_
    exact (unhide HS1).bad (startS_no (by rw [unhide HE]; decide)) (unhide HE)
  by_cases h2 : 40 < bag
  · have HE := hide (startE_bad (s := s) (now := now) (.inr (.inl h2)))
    go_wp2_with (refine wpList_storeS (s := scr0) (A := none) (c := 0) (unhide HRS) rfl _ _ rfl rfl rfl ?_)
    refine bodyPost_ret (v := .tuple #[scrV scr0 none 0, .int .i64 1]) (results_row2' rfl _ _ (w.heap.size + 1) _ _ _ _ _ rfl rfl (setRow_heap w1 (w.heap.size + 1) _ (scrA scr0 none 0) _ _ (unhide HRS)) Try.underlying28 rfl infoS) rfl ?_
    exact (unhide HS1).bad (startS_no (by rw [unhide HE]; decide)) (unhide HE)
  cases ht : timeB now with
  | false =>
    have HE := hide (startE_bad (s := s) (bag := bag) (.inr (.inr ht)))
    go_wp2_with (first
      | (go_at_call 34; refine (istime_any now _).mono ?_; rintro e w2 ⟨rfl, hw⟩; subst w2; rw [ht])
      | (refine wpList_storeS (s := scr0) (A := none) (c := 0) (unhide HRS) rfl _ _ rfl rfl rfl ?_))
    refine bodyPost_ret (v := .tuple #[scrV scr0 none 0, .int .i64 1]) (results_row2' rfl _ _ (w.heap.size + 1) _ _ _ _ _ rfl rfl (setRow_heap w1 (w.heap.size + 1) _ (scrA scr0 none 0) _ _ (unhide HRS)) Try.underlying28 rfl infoS) rfl ?_
    exact (unhide HS1).bad (startS_no (by rw [unhide HE]; decide)) (unhide HE)
  | true =>
    cases hf : findB s bag with
    | true =>
      have HE := hide (startE_dup (s := s) (by omega) (by omega) ht hf)
      go_wp2_with (first
        | (go_at_call 34; refine (istime_any now _).mono ?_; rintro e w2 ⟨rfl, hw⟩; subst w2; rw [ht])
        | (refine wpList_storeS (s := scr0) (A := none) (c := 0) (unhide HRS) rfl _ _ rfl rfl rfl ?_))
      refine bodyPost_ret (v := .tuple #[scrV scr0 none 0, .int .i64 5]) (results_row2' rfl _ _ (w.heap.size + 1) _ _ _ _ _ rfl rfl (setRow_heap w1 (w.heap.size + 1) _ (scrA scr0 none 0) _ _ (unhide HRS)) Try.underlying28 rfl infoS) rfl ?_
      exact (unhide HS1).bad (startS_no (by rw [unhide HE]; decide)) (unhide HE)
    | false =>
      by_cases hn : 1048576 < s.next
      · have HE := hide (startE_lim (s := s) (by omega) (by omega) ht hf hn)
        go_wp2_with (first
          | (go_at_call 34; refine (istime_any now _).mono ?_; rintro e w2 ⟨rfl, hw⟩; subst w2; rw [ht])
          | (refine wpList_storeS (s := scr0) (A := none) (c := 0) (unhide HRS) rfl _ _ rfl rfl rfl ?_))
        refine bodyPost_ret (v := .tuple #[scrV scr0 none 0, .int .i64 2]) (results_row2' rfl _ _ (w.heap.size + 1) _ _ _ _ _ rfl rfl (setRow_heap w1 (w.heap.size + 1) _ (scrA scr0 none 0) _ _ (unhide HRS)) Try.underlying28 rfl infoS) rfl ?_
        exact (unhide HS1).bad (startS_no (by rw [unhide HE]; decide)) (unhide HE)
      · have HE := hide (startE_ok (s := s) (by omega) (by omega) ht hf hn)
        obtain ⟨x, hx⟩ : ∃ x : Ck, x = ⟨bag, 1, now, s.next, 1⟩ := ⟨_, rfl⟩
        go_upto_region 9 with (first
          | (go_at_call 34; refine (istime_any now _).mono ?_; rintro e w2 ⟨rfl, hw⟩; subst w2; rw [ht])
          | (refine wpList_storeC_new rfl ⟨bag, 1, now, s.next, 1⟩ rfl _ _ rfl rfl rfl rfl ?_))
        have HK0 := hide (heap_alloc_new w1 (.cells x.arr 42))
        have HB0 := hide ((Below.refl w1.heap.size w1).alloc (Nat.le_refl _) (.cells x.arr 42))
        have HS2 := hide ((unhide HS1).below (unhide HB0))
        have HKL := hide (show w1.heap.size < (w1.alloc (.cells x.arr 42)).heap.size by rw [World.size_alloc]; omega)
        have HLO := hide (unhide HS1).lt
        have hSd : ((w1.alloc (.cells x.arr 42)).drew).heap[w.heap.size]? = some (scrO s A c) ∧ ((w1.alloc (.cells x.arr 42)).drew).heap[w1.heap.size]? = some (.cells x.arr 42 (0, 0)) := ⟨(unhide HS2).bx, unhide HK0⟩
        have HSD := hide hSd
        clear hSd HB0 HBX HRS z4
        subst hx
        generalize hW2 : w1.alloc (.cells (Ck.arr ⟨bag, 1, now, s.next, 1⟩) 42) = W2 at *
        clear hW2
        generalize hkk : w1.heap.size = kk at *
        clear hkk HS1
        refine wp_region_anyZ 8 (fun Z => Z.heap[w.heap.size]? = some (scrO s A c) ∧ Z.heap[kk]? = some (.cells (Ck.arr ⟨bag, 1, now, s.next, 1⟩) 42 (0, 0))) (by kernel_rfl) ?_
        refine anyZ_take (i := 0) (v := .pointer (some ⟨w.heap.size, 5, none⟩)) rfl (by kernel_rfl) (by kernel_rfl) (by kernel_rfl) (by kernel_rfl) (fun _ _ _ h => h) (Or.inl ⟨by rfl, by intro Z _; go_simp⟩) (unhide HSD) ?_
        refine anyZ_take (i := 1) (v := .slice A s.l.length c) rfl (by kernel_rfl) (by kernel_rfl) (by kernel_rfl) (by kernel_rfl) (fun _ _ _ h => h) (Or.inl ⟨by rfl, by intro Z hs; have h9 : Z.cell? ⟨w.heap.size, 5, none⟩ = some (.slice A s.l.length c) := (by rw [Lib.cell_of_heap hs.1]; rfl); go_simp⟩) (unhide HSD) ?_
        refine anyZ_take (i := 3) (v := .int .i64 (lbF (bagC bag) s.l : Nat)) rfl (by kernel_rfl) (by kernel_rfl) (by kernel_rfl) (by kernel_rfl) (fun _ _ _ h => h) (Or.inl ⟨by rfl, by intro Z _; go_simp⟩) (unhide HSD) ?_
        refine anyZ_take (i := 4) (v := Ck.v ⟨bag, 1, now, s.next, 1⟩) rfl (by kernel_rfl) (by kernel_rfl) (by kernel_rfl) (by kernel_rfl) (fun _ _ _ h => h) (yields_loadC _ rfl rfl rfl (fun _ h => h.2)) (unhide HSD) ?_
        have hk := lbF_le (bagC bag) s.l
        have HKK := hide hk
        clear hk
        refine (fun (Y : Nat → Option Addr → Nat → Nat → Option Addr → Nat → World → Prop) (f : (∀ B A2 c2 vb A' c' W, StD w B { s with l := s.l.take (lbF (bagC bag) s.l) ++ ⟨bag, 1, now, s.next, 1⟩ :: s.l.drop (lbF (bagC bag) s.l) } A' c' W → Y B A2 c2 vb A' c' W) → _) (g : ∀ B A2 c2 vb A' c' W, StD w B { s with l := s.l.take (lbF (bagC bag) s.l) ++ ⟨bag, 1, now, s.next, 1⟩ :: s.l.drop (lbF (bagC bag) s.l) } A' c' W → Y B A2 c2 vb A' c' W) => f g) ?Y1 ?m1 ?r1
        case m1 =>
          intro hM
          obtain ⟨i0, z0, hi0, hia, hib, hic, hid⟩ := info_size info_ck
          refine anyZ_two (i := 2) (j := 5) (by kernel_rfl) rfl rfl (fun K hK => ?_) (fun K hK => ?_)
          case' refine_2 =>
            rw [if_pos (by rfl)]
            refine wp_build1 26 42 _ rfl (Ck.arr ⟨bag, 1, now, s.next, 1⟩) i0 z0 5 Try.underlying26 hi0 hia hib (by decide) (by decide) hid rfl rfl ?_
            have bV := onward (Below.refl _ W2).drew ((Below.refl W2.drew.heap.size W2.drew).alloc (Nat.le_refl _) (.cells (Ck.arr ⟨bag, 1, now, s.next, 1⟩) 42))
            have HS3 := hide (show StS w b s A c (W2.alloc (.cells (Ck.arr ⟨bag, 1, now, s.next, 1⟩) 42)).drew from (unhide HS2).below bV)
            have HV3 := hide (show (W2.alloc (.cells (Ck.arr ⟨bag, 1, now, s.next, 1⟩) 42)).drew.heap[W2.heap.size]? = some (.cells (Ck.arr ⟨bag, 1, now, s.next, 1⟩) 42) from heap_alloc_new W2.drew (.cells (Ck.arr ⟨bag, 1, now, s.next, 1⟩) 42))
            have HK3 := hide (show (W2.alloc (.cells (Ck.arr ⟨bag, 1, now, s.next, 1⟩) 42)).drew.heap[kk]? = some (.cells (Ck.arr ⟨bag, 1, now, s.next, 1⟩) 42) from heap_below (unhide HK0) bV)
            have HL3 := hide (show W2.heap.size < (W2.alloc (.cells (Ck.arr ⟨bag, 1, now, s.next, 1⟩) 42)).drew.heap.size from by show W2.heap.size < (W2.alloc (.cells (Ck.arr ⟨bag, 1, now, s.next, 1⟩) 42)).heap.size; rw [World.size_alloc]; omega)
            have HKL3 := hide (show kk < (W2.alloc (.cells (Ck.arr ⟨bag, 1, now, s.next, 1⟩) 42)).drew.heap.size from Nat.lt_trans (unhide HKL) (unhide HL3))
            refine hK _ _ ⟨fun _ => ⟨(unhide HS3).bx, unhide HK3⟩, ?_⟩
            clear hK K bV
            refine anyZ_one (i := 2) (by kernel_rfl) rfl (fun K hK => ?_)
            go_simp
            go_at_call 36
            generalize hW3 : (W2.alloc (.cells (Ck.arr ⟨bag, 1, now, s.next, 1⟩) 42)).drew = W3 at HS3 HV3 HK3 HL3 HKL3 ⊢
            clear hW3
            generalize hvb : W2.heap.size = vb at HV3 HL3 ⊢
            clear hvb
            refine (cloneC_any b A c s.l _ (unhide HS3).cks (by have := (unhide HV).len; omega)).mono ?_
            rintro e w4 ⟨A2, c2, rfl, hown, hb4⟩
            try go_simp
            have HS4 := hide ((unhide HS3).below hb4)
            have HV4 := hide (heap_below (unhide HV3) hb4)
            have HOW := hide hown
            have HB3 := hide (show w.heap.size + 2 ≤ W3.heap.size from (unhide HS3).lt)
            have HB4 := hide (show W3.heap.size ≤ w4.heap.size from hb4.size)
            have HNV := hide (show ∀ k, (Value.slice A2 s.l.length c2).ownBlock = some k → vb ≠ k from fun k e => by have h1 := (hown.lt k e).1; have h2 := unhide HL3; omega)
            have HK4 := hide (heap_below (unhide HK3) hb4)
            refine hK _ _ ⟨fun _ => ⟨(unhide HS4).bx, unhide HK4⟩, ?_⟩
            clear hK K hown hb4
            refine anyZ_one (i := 6) (by kernel_rfl) rfl (fun K hK => ?_)
            go_simp
            go_at_call 35
            refine (insC_any W3.heap.size A2 s.l.length c2 (lbF (bagC bag) s.l) vb (s.l.flatMap Ck.cs) (Ck.cs ⟨bag, 1, now, s.next, 1⟩) _ (unhide HOW) (unhide HKK) (by have := (unhide HV).len; omega) rfl (unhide HV4) (unhide HNV) ck_one (fun v hv => ck_one (l := [⟨bag, 1, now, s.next, 1⟩]) v (by simpa using hv)) (unhide HB4)).mono ?_
            rintro e w5 ⟨A', c', rfl, hown5, hg5⟩
            try go_simp
            have HD := hide ((unhide HS4).ins (unhide HB3) (unhide HOW) hg5 (unhide HKK) hown5)
            have hrow := (unhide HOW)
            have hlt := (unhide HS4).lt
            have hbx5 : w5.heap[w.heap.size]? = some (scrO s A c) := (hg5.block _ (by omega) (fun e => by have h1 := (hrow.lt _ e.symm).1; have h2 := unhide HB3; omega)).trans (unhide HS4).bx
            have f5 := Lib.frozen_of_heap hbx5 5
            have z5 : w5.cell? ⟨w.heap.size, 5, none⟩ = some (.slice A s.l.length c) := by rw [Lib.cell_of_heap hbx5]; rfl
            have HH5 := hide (And.intro hbx5 (show w5.heap[kk]? = some (.cells (Ck.arr ⟨bag, 1, now, s.next, 1⟩) 42 (0, 0)) from (hg5.block _ (Array.getElem?_eq_some_iff.1 (unhide HK4)).1 (fun e => by have h1 := (hrow.lt _ e.symm).1; have h2 := unhide HKL3; omega)).trans (unhide HK4)))
            refine hK _ _ ⟨fun _ => unhide HH5, ?_⟩
            clear hK K hown5 hg5 hrow hlt hbx5
            refine anyZ_take (i := 7) (v := .pointer (some ⟨w.heap.size, 5, none⟩)) rfl (by kernel_rfl) (by kernel_rfl) (by kernel_rfl) (by kernel_rfl) (fun _ _ _ h => h) (Or.inl ⟨by rfl, by intro Z _; go_simp⟩) (unhide HH5) ?_
            refine anyZ_one (i := 8) (by kernel_rfl) rfl (fun K hK => ?_)
            go_simp
            refine hK _ _ ⟨fun h => absurd rfl h, ?_⟩
            clear hK K
            refine anyZ_done (by kernel_rfl) ?_ _
            go_simp
            generalize W3.heap.size = BBB at *
            generalize w5.setCell ⟨w.heap.size, 5, none⟩ (.slice A' (s.l.length + 1) c') = W6 at *
            have HDD := unhide HD
            exact hM BBB A2 c2 vb A' c' W6 HDD
          case' refine_1 =>
            go_simp
            go_at_call 36
            refine (cloneC_any b A c s.l _ ((unhide HS2).cks.keep (Below.refl _ W2).drew) (by have := (unhide HV).len; omega)).mono ?_
            rintro e w3 ⟨A2, c2, rfl, hown, hb3⟩
            try go_simp
            have hb23 := onward (Below.refl _ W2).drew hb3
            have HS3 := hide ((unhide HS2).below hb23)
            have HOW3 := hide hown
            have HK3 := hide (heap_below (unhide HK0) hb23)
            have HKL3 := hide (show kk < W2.drew.heap.size from unhide HKL)
            refine hK _ _ ⟨fun _ => ⟨(unhide HS3).bx, unhide HK3⟩, ?_⟩
            clear hK K
            refine anyZ_one (i := 5) (by kernel_rfl) rfl (fun K hK => ?_)
            rw [if_pos (by rfl)]
            refine wp_build1 26 42 _ rfl (Ck.arr ⟨bag, 1, now, s.next, 1⟩) i0 z0 5 Try.underlying26 hi0 hia hib (by decide) (by decide) hid rfl rfl ?_
            have bV := (Below.refl w3.heap.size w3).alloc (Nat.le_refl _) (.cells (Ck.arr ⟨bag, 1, now, s.next, 1⟩) 42)
            have HS4 := hide ((unhide HS3).below bV)
            have HV4 := hide (heap_alloc_new w3 (.cells (Ck.arr ⟨bag, 1, now, s.next, 1⟩) 42))
            have HOW := hide (owns_later hown bV)
            have HB3 := hide (show w.heap.size + 2 ≤ W2.drew.heap.size from (unhide HS2).lt)
            have HB4 := hide (show W2.drew.heap.size ≤ (w3.alloc (.cells (Ck.arr ⟨bag, 1, now, s.next, 1⟩) 42)).heap.size from Nat.le_trans hb3.size bV.size)
            have HNV := hide (show ∀ k, (Value.slice A2 s.l.length c2).ownBlock = some k → w3.heap.size ≠ k from fun k e => by have h1 := (hown.lt k e).2; omega)
            have HK4 := hide (heap_below (unhide HK3) bV)
            refine hK _ _ ⟨fun _ => ⟨(unhide HS4).bx, unhide HK4⟩, ?_⟩
            clear hK K hown hb3 hb23 bV HOW3
            generalize w3.alloc (.cells (Ck.arr ⟨bag, 1, now, s.next, 1⟩) 42) = w4 at *
            generalize w3.heap.size = vb at *
            generalize W2.drew.heap.size = B at *
            refine anyZ_one (i := 6) (by kernel_rfl) rfl (fun K hK => ?_)
            go_simp
            go_at_call 35
            refine (insC_any B A2 s.l.length c2 (lbF (bagC bag) s.l) vb (s.l.flatMap Ck.cs) (Ck.cs ⟨bag, 1, now, s.next, 1⟩) _ (unhide HOW) (unhide HKK) (by have := (unhide HV).len; omega) rfl (unhide HV4) (unhide HNV) ck_one (fun v hv => ck_one (l := [⟨bag, 1, now, s.next, 1⟩]) v (by simpa using hv)) (unhide HB4)).mono ?_
            rintro e w5 ⟨A', c', rfl, hown5, hg5⟩
            try go_simp
            have HD := hide ((unhide HS4).ins (unhide HB3) (unhide HOW) hg5 (unhide HKK) hown5)
            have hrow := (unhide HOW)
            have hlt := (unhide HS4).lt
            have hbx5 : w5.heap[w.heap.size]? = some (scrO s A c) := (hg5.block _ (by omega) (fun e => by have h1 := (hrow.lt _ e.symm).1; have h2 := unhide HB3; omega)).trans (unhide HS4).bx
            have f5 := Lib.frozen_of_heap hbx5 5
            have z5 : w5.cell? ⟨w.heap.size, 5, none⟩ = some (.slice A s.l.length c) := by rw [Lib.cell_of_heap hbx5]; rfl
            have HH5 := hide (And.intro hbx5 (show w5.heap[kk]? = some (.cells (Ck.arr ⟨bag, 1, now, s.next, 1⟩) 42 (0, 0)) from (hg5.block _ (Array.getElem?_eq_some_iff.1 (unhide HK4)).1 (fun e => by have h1 := (hrow.lt _ e.symm).1; have h2 := unhide HKL3; omega)).trans (unhide HK4)))
            refine hK _ _ ⟨fun _ => unhide HH5, ?_⟩
            clear hK K hown5 hg5 hrow hlt hbx5
            refine anyZ_take (i := 7) (v := .pointer (some ⟨w.heap.size, 5, none⟩)) rfl (by kernel_rfl) (by kernel_rfl) (by kernel_rfl) (by kernel_rfl) (fun _ _ _ h => h) (Or.inl ⟨by rfl, by intro Z _; go_simp⟩) (unhide HH5) ?_
            refine anyZ_one (i := 8) (by kernel_rfl) rfl (fun K hK => ?_)
            go_simp
            refine hK _ _ ⟨fun h => absurd rfl h, ?_⟩
            clear hK K
            refine anyZ_done (by kernel_rfl) ?_ _
            go_simp
            clear HB3 HB4
            generalize w5.setCell ⟨w.heap.size, 5, none⟩ (.slice A' (s.l.length + 1) c') = W6 at *
            have HDD := unhide HD
            exact hM B A2 c2 vb A' c' W6 HDD
        intro B A2 c2 vb A' c' W5 hD
        have HD := hide hD
        have z4 : W5.cell? ⟨w.heap.size, 4, none⟩ = some (.int .i64 s.next) := by rw [Lib.cell_of_heap hD.out.box]; rfl
        have f4 := Lib.frozen_of_heap hD.out.box 4
        have hnx := (unhide HV).nx
        have HD2 := hide (hD.next (s.next + 1))
        have HBX := hide (unhide HD2).out.box
        have HRS := hide (unhide HD2).rs
        have HEE := hide (startS_ok (unhide HE))
        clear hD
        go_wp2_with (first
          | (refine wpList_loadS (unhide HBX) rfl _ rfl rfl ?_)
          | (refine wpList_storeS (unhide HRS) rfl _ _ rfl rfl rfl ?_))
        refine bodyPost_ret (v := .tuple #[scrV { s with next := s.next + 1, l := s.l.take (lbF (bagC bag) s.l) ++ ⟨bag, 1, now, s.next, 1⟩ :: s.l.drop (lbF (bagC bag) s.l) } A' c', .int .i64 0]) (results_row2' rfl _ _ (w.heap.size + 1) _ _ _ _ _ rfl rfl (setRow_heap _ (w.heap.size + 1) _ _ _ _ (unhide HRS)) Try.underlying28 rfl infoS) rfl ?_
        rw [unhide HE, unhide HEE]
        exact (unhide HD2).gives
end Go.Proofs.Ytdhkhkcijffbiaa
