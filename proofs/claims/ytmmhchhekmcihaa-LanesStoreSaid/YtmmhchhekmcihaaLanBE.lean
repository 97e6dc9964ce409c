/-
  Lanes (layer 17): the program's Put.
-/
import Derived.Test.YtmmhchhekmcihaaLanBD
import Derived.Test.YtmmhchhekmcihaaAnyZ
import Derived.Test.YtmmhchhekmcihaaAppK
namespace Go.Proofs.Ytmmhchhekmcihaa
open Go.RowKit

/-- A bag more at the end of a lane of a copy. -/
theorem ClI.put {R : Nat} {L : List (List Bg)} {rw : Nat → Option Addr × Nat} {W W' : World} {p c : Nat} {A : Option Addr} {s : Bg} (h : ClI R L.length L.length L rw W) (hp : p < L.length) (hg : W.grownBy W' (lnV L rw p).ownBlock)
    (ho : W'.ownsRow (R + 1) 39 2 (.slice A ((L.getD p []).length + 1) c) ((L.getD p []).length + 1) ((L.getD p []).flatMap bgC ++ bgC s)) :
    StoI (fun b => b < R) (W'.setCell ⟨R, p, none⟩ (.slice A ((L.getD p []).length + 1) c)) (some ⟨R, 0, none⟩) (L.set p (L.getD p [] ++ [s])) L.length := by
  obtain ⟨cur, h1, h2, h3⟩ := h.row
  have hne : some R ≠ (lnV L rw p).ownBlock := fun e => by have := (h.own p hp).lt R e.symm; omega
  have h1' : W'.heap[R]? = some (.cells cur 68 (0, 0)) := (hg.block R (Array.getElem?_eq_some_iff.1 h1).1 hne).trans h1
  have far : ∀ {v : Value} {m : Nat} {xs : List Value}, W'.ownsRow (R + 1) 39 2 v m xs → (W'.setCell ⟨R, p, none⟩ (.slice A ((L.getD p []).length + 1) c)).ownsRow (R + 1) 39 2 v m xs := fun ho => owns_other ho (grown_set _ _ _ _) (fun g hg => by injection hg with hg; omega)
  refine ⟨fun _ => ⟨R, 0, rfl, Nat.lt_irrefl R, fun i hi => ?_⟩, by rw [List.length_set]; exact Nat.le_refl _⟩
  rw [List.length_set] at hi
  rw [Nat.zero_add, getD_set hp]
  by_cases e : p = i
  · subst e
    rw [if_pos rfl]
    have hl : (L.getD p [] ++ [s]).length = (L.getD p []).length + 1 := by rw [List.length_append]; rfl
    refine ⟨A, c, ?_, ?_, ?_⟩
    · rw [hl, Lib.cell_of_heap (heap_set h1' _), Array.getElem?_setIfInBounds_self_of_lt (by omega)]
    · rw [hl]; exact own_cap ho
    · have hf : (L.getD p [] ++ [s]).flatMap bgC = (L.getD p []).flatMap bgC ++ bgC s := by rw [List.flatMap_append]; simp
      refine bgs_own (base := R + 1) (n := (L.getD p []).length + 1) (c := c) (by rw [hf]; exact far ho) (fun b hb => Nat.lt_succ_of_lt hb)
  · rw [if_neg e]
    have hap : (lnV L rw i).ownBlock = none ∨ (lnV L rw i).ownBlock ≠ (lnV L rw p).ownBlock := by
      cases hb : (lnV L rw i).ownBlock with
      | none => exact .inl rfl
      | some b =>
        refine .inr fun he => ?_
        rcases Nat.lt_or_gt_of_ne e with hlt | hlt
        · exact h.apart p i hlt hi b he.symm hb
        · exact h.apart i p hlt hp b hb he.symm
    have hoi := (h.own i hi).kept hg hap
    refine ⟨(rw i).1, (rw i).2, ?_, own_cap hoi, bgs_own (far hoi) (fun b hb => Nat.lt_succ_of_lt hb)⟩
    rw [Lib.cell_of_heap (heap_set h1' _), Array.getElem?_setIfInBounds_ne e]
    exact h3 i hi
theorem StoI.fresh {S : Nat → Prop} {w W : World} {R n : Nat} {L : List (List Bg)} {A : Option Addr} (h : StoI (fun b => b < R) W A L n) (hs : Old S w) (hR : w.heap.size ≤ R) : StoI S W A L n := h.mono fun b _ hb => by have := hs b hb; omega
def PutTo (dp : Nat) (L : List (List Bg)) (s : Bg) (S : Nat → Prop) (w : World) (e : Ending) (w' : World) : Prop := Below w.heap.size w w' ∧
  (((putS dp L s).2.2 ≠ 0 ∧ e = .returned (.tuple #[lnsV 0 none 0 0, .int .i64 0, .int .i64 (putS dp L s).2.2])) ∨ ((putS dp L s).2.2 = 0 ∧ ∃ A' c', e = .returned (.tuple #[lnsV dp A' L.length c', .int .i64 ((putS dp L s).2.1 : Nat), .int .i64 0]) ∧ StoI S w' A' (putS dp L s).1 c'))
theorem putS_range {dp : Nat} {L : List (List Bg)} {s : Bg} (h : s.1 < 1 ∨ 40 < s.1 ∨ s.2 < 0 ∨ 1048576 < s.2) : putS dp L s = ([], 0, 1) := if_pos h
theorem putS_dup {dp : Nat} {L : List (List Bg)} {s : Bg} (h : ¬ (s.1 < 1 ∨ 40 < s.1 ∨ s.2 < 0 ∨ 1048576 < s.2)) (h2 : findS L s.1 < L.length) : putS dp L s = ([], 0, 5) := by unfold putS; rw [if_neg h, if_pos h2]
theorem putS_full {dp : Nat} {L : List (List Bg)} {s : Bg} (h : ¬ (s.1 < 1 ∨ 40 < s.1 ∨ s.2 < 0 ∨ 1048576 < s.2)) (h2 : ¬ findS L s.1 < L.length) (h3 : bestS dp L s.2 L.length = none) : putS dp L s = ([], 0, 8) := by unfold putS; rw [if_neg h, if_neg h2, h3]
theorem putS_ok {dp : Nat} {L : List (List Bg)} {s : Bg} {p : Nat} (h : ¬ (s.1 < 1 ∨ 40 < s.1 ∨ s.2 < 0 ∨ 1048576 < s.2)) (h2 : ¬ findS L s.1 < L.length) (h3 : bestS dp L s.2 L.length = some p) : putS dp L s = (L.set p (L.getD p [] ++ [s]), p, 0) := by unfold putS; rw [if_neg h, if_neg h2, h3]
theorem best_lt {dp : Nat} {L : List (List Bg)} {due : Int} {p : Nat} : ∀ {k : Nat}, bestS dp L due k = some p → p < k ∧ (L.getD p []).length < dp
  | 0, h => by cases h
  | k + 1, h => by
    unfold bestS at h
    cases hb : bestS dp L due k with
    | none =>
      rw [hb] at h
      simp only [] at h
      split at h
      · rename_i hl; injection h with h; subst h; exact ⟨Nat.lt_succ_self _, hl⟩
      · cases h
    | some b =>
      have ih := best_lt hb
      rw [hb] at h
      simp only [] at h
      split at h
      · rename_i hl; injection h with h; subst h; exact ⟨Nat.lt_succ_self _, hl.1⟩
      · injection h with h; subst h; exact ⟨by omega, ih.2⟩
set_option maxHeartbeats 4000000 in
set_option maxRecDepth 100000 in
theorem put_st (dp : Nat) (L : List (List Bg)) (s : Bg) (A : Option Addr) (c : Nat) (S : Nat → Prop) (w : World) (hv : ValL dp L) (h : StoI S w A L c) (hS : Old S w) :
    Calls Try.prog 30 #[lnsV dp A L.length c, .agg #[.int .i64 s.1, .int .i64 s.2]] w (PutTo dp L s S w) := by
  obtain ⟨W, hW⟩ : ∃ W : World, ((w.alloc (lnsO dp A L.length c)).alloc (.cells (bgA s) 39)).alloc (lnsO 0 none 0 0) = W := ⟨_, rfl⟩
  have b1 : Below w.heap.size w W := by rw [← hW]; exact below_new (below_new (below_new (Below.refl w.heap.size w) _) _) _
  have hz : W.heap.size = w.heap.size + 3 := by rw [← hW, World.size_alloc, World.size_alloc, World.size_alloc]
  have hx : W.heap[w.heap.size]? = some (lnsO dp A L.length c) := by rw [← hW]; exact heap_later (heap_later (heap_alloc_new w _) _) _
  have hs : W.heap[w.heap.size + 1]? = some (.cells (bgA s) 39 (0, 0)) := by
    have h := heap_alloc_new (w.alloc (lnsO dp A L.length c)) (.cells (bgA s) 39)
    rw [World.size_alloc] at h
    rw [← hW]; exact heap_later h _
  have hy : W.heap[w.heap.size + 2]? = some (lnsO 0 none 0 0) := by
    have h := heap_alloc_new ((w.alloc (lnsO dp A L.length c)).alloc (.cells (bgA s) 39)) (lnsO 0 none 0 0)
    rw [World.size_alloc, World.size_alloc, hW] at h; exact h
  have HX := hide hx
  have HBx := hide hs
  have HY := hide hy
  have HZ := hide hz
  have HS := hide (h.below b1)
  have HB := hide b1
  have HV := hide hv
  have HOl := hide hS
  obtain ⟨bag, due⟩ := s
  have s0 : W.cell? ⟨w.heap.size + 1, 0, none⟩ = some (.int .i64 bag) := by rw [Lib.cell_of_heap hs]; rfl
  have s1 : W.cell? ⟨w.heap.size + 1, 1, none⟩ = some (.int .i64 due) := by rw [Lib.cell_of_heap hs]; rfl
  have HT := hide (fun W' => isTime_any due W')
  have hL : L.length ≤ 20 := hv.n.2
  clear b1 h hv hx hs hy hz hS
  by_cases hr : bag < 1 ∨ 40 < bag ∨ due < 0 ∨ 1048576 < due
  · have HR := hide (putS_range (dp := dp) (L := L) (s := (bag, due)) hr)
    by_cases h1 : bag < 1
    · clear hr
      go_enter Try.func30, Try.ntmps30
      go_wp2_with (first
        | (refine wpList_storeLn (unhide HY) rfl _ _ rfl rfl rfl ?_))
      refine bodyPost_ret (v := .tuple #[lnsV 0 none 0 0, .int .i64 0, .int .i64 1]) (results_row3 rfl _ _ (w.heap.size + 2) _ _ _ _ _ _ rfl rfl rfl (setRow_heap _ _ _ _ _ _ (unhide HY)) Try.underlying42 rfl infoLn) rfl ?_
      exact ⟨below_row (onward (unhide HB) (Below.refl _ _)) (by omega) _, .inl ⟨by rw [unhide HR]; decide, by rw [unhide HR]⟩⟩
    · by_cases h2 : 40 < bag
      · clear hr
        go_enter Try.func30, Try.ntmps30
        go_wp2_with (first
          | (refine wpList_storeLn (unhide HY) rfl _ _ rfl rfl rfl ?_))
        refine bodyPost_ret (v := .tuple #[lnsV 0 none 0 0, .int .i64 0, .int .i64 1]) (results_row3 rfl _ _ (w.heap.size + 2) _ _ _ _ _ _ rfl rfl rfl (setRow_heap _ _ _ _ _ _ (unhide HY)) Try.underlying42 rfl infoLn) rfl ?_
        exact ⟨below_row (onward (unhide HB) (Below.refl _ _)) (by omega) _, .inl ⟨by rw [unhide HR]; decide, by rw [unhide HR]⟩⟩
      · have ht : timB due = false := by unfold timB; rw [decide_eq_false_iff_not]; omega
        rw [ht] at HT
        have HT := hide (unhide HT)
        clear hr ht
        go_enter Try.func30, Try.ntmps30
        go_wp2_with (first
          | (go_at_call 48; refine (unhide HT _).mono ?_; rintro e wz ⟨rfl, rfl⟩)
          | (refine wpList_storeLn (unhide HY) rfl _ _ rfl rfl rfl ?_))
        refine bodyPost_ret (v := .tuple #[lnsV 0 none 0 0, .int .i64 0, .int .i64 1]) (results_row3 rfl _ _ (w.heap.size + 2) _ _ _ _ _ _ rfl rfl rfl (setRow_heap _ _ _ _ _ _ (unhide HY)) Try.underlying42 rfl infoLn) rfl ?_
        exact ⟨below_row (onward (unhide HB) (Below.refl _ _)) (by omega) _, .inl ⟨by rw [unhide HR]; decide, by rw [unhide HR]⟩⟩
  · have ht : timB due = true := by unfold timB; rw [decide_eq_true_eq]; omega
    rw [ht] at HT
    have HT := hide (unhide HT)
    have h1 : ¬ bag < 1 := by omega
    have h2 : ¬ 40 < bag := by omega
    have hd0 : 0 ≤ due := by omega
    have HRn := hide hr
    clear hr ht
    by_cases h3 : findS L bag < L.length
    · have HR := hide (putS_dup (dp := dp) (s := (bag, due)) (unhide HRn) h3)
      have HF := hide (find_any S dp bag L A c W (unhide HV) (unhide HS))
      have hf : fndI L bag ≠ -1 := by unfold fndI; rw [if_pos h3]; omega
      have q : (fndI L bag != -1) = true := by rw [bne_iff_ne]; exact hf
      generalize fndI L bag = fi at HF q
      have HF := hide (unhide HF)
      clear h3 hf hd0
      go_enter Try.func30, Try.ntmps30
      go_wp2_with (first
        | (go_at_call 48; refine (unhide HT _).mono ?_; rintro e wz ⟨rfl, rfl⟩)
        | (refine wpList_loadLn (unhide HX) rfl _ rfl rfl ?_)
        | (go_at_call 43; refine (unhide HF).mono ?_; rintro e w2 ⟨rfl, hb2⟩; have HB2 := hide hb2; have HX2 := hide (heap_below (unhide HX) hb2); have HY2 := hide (heap_below (unhide HY) hb2); have s12 := kept hb2 s1; clear hb2)
        | (refine wpList_storeLn (unhide HY2) rfl _ _ rfl rfl rfl ?_))
      refine bodyPost_ret (v := .tuple #[lnsV 0 none 0 0, .int .i64 0, .int .i64 5]) (results_row3 rfl _ _ (w.heap.size + 2) _ _ _ _ _ _ rfl rfl rfl (setRow_heap _ _ _ _ _ _ (unhide HY2)) Try.underlying42 rfl infoLn) rfl ?_
      exact ⟨below_row (onward (unhide HB) (unhide HB2)) (by omega) _, .inl ⟨by rw [unhide HR]; decide, by rw [unhide HR]⟩⟩
    · have hf : fndI L bag = -1 := by unfold fndI; rw [if_neg h3]
      have HF := hide (find_any S dp bag L A c W (unhide HV) (unhide HS))
      rw [hf] at HF
      have HF := hide (unhide HF)
      have HCh := hide (fun W' (hb : Below W.heap.size W W') => choose_any S dp due L A c W' (unhide HV) hd0 ((unhide HS).below hb))
      cases hb : bestS dp L due L.length with
      | none =>
        have HR := hide (putS_full (s := (bag, due)) (unhide HRn) h3 hb)
        have hch : chO dp L due = -1 := by unfold chO; rw [hb]
        rw [hch] at HCh
        have HCh := hide (unhide HCh)
        clear h3 hf hb hch hd0
        go_enter Try.func30, Try.ntmps30
        go_wp2_with (first
          | (go_at_call 48; refine (unhide HT _).mono ?_; rintro e wz ⟨rfl, rfl⟩)
          | (refine wpList_loadLn (unhide HX) rfl _ rfl rfl ?_)
          | (go_at_call 43; refine (unhide HF).mono ?_; rintro e w2 ⟨rfl, hb2⟩; have HB2 := hide hb2; have HX2 := hide (heap_below (unhide HX) hb2); have HY2 := hide (heap_below (unhide HY) hb2); have s12 := kept hb2 s1; clear hb2)
          | (refine wpList_loadLn (unhide HX2) rfl _ rfl rfl ?_)
          | (go_at_call 49; refine (unhide HCh _ (unhide HB2)).mono ?_; rintro e w3 ⟨rfl, hb3⟩; have HB3 := hide (onward (unhide HB2) hb3); have HX3 := hide (heap_below (unhide HX2) hb3); have HY3 := hide (heap_below (unhide HY2) hb3); clear hb3)
          | (refine wpList_storeLn (unhide HY3) rfl _ _ rfl rfl rfl ?_))
        refine bodyPost_ret (v := .tuple #[lnsV 0 none 0 0, .int .i64 0, .int .i64 8]) (results_row3 rfl _ _ (w.heap.size + 2) _ _ _ _ _ _ rfl rfl rfl (setRow_heap _ _ _ _ _ _ (unhide HY3)) Try.underlying42 rfl infoLn) rfl ?_
        exact ⟨below_row (onward (unhide HB) (unhide HB3)) (by omega) _, .inl ⟨by rw [unhide HR]; decide, by rw [unhide HR]⟩⟩
      | some p =>
        have HR := hide (putS_ok (s := (bag, due)) (unhide HRn) h3 hb)
        have hch : chO dp L due = (p : Nat) := by unfold chO; rw [hb]
        rw [hch] at HCh
        have HCh := hide (unhide HCh)
        have HPl := hide (best_lt hb).1
        clear h3 hf hb hch hd0
        have HCl := hide (fun W' (hb : Below W.heap.size W W') => clone_any S dp L A c W' (unhide HV) ((unhide HS).below hb))
        go_enter Try.func30, Try.ntmps30
        go_wp2_with (first
          | (go_at_call 48; refine (unhide HT _).mono ?_; rintro e wz ⟨rfl, rfl⟩)
          | (refine wpList_loadLn (unhide HX) rfl _ rfl rfl ?_)
          | (go_at_call 43; refine (unhide HF).mono ?_; rintro e w2 ⟨rfl, hb2⟩; have HB2 := hide hb2; have HX2 := hide (heap_below (unhide HX) hb2); have HY2 := hide (heap_below (unhide HY) hb2); have s12 := kept hb2 s1; clear hb2)
          | (refine wpList_loadLn (unhide HX2) rfl _ rfl rfl ?_)
          | (go_at_call 49; refine (unhide HCh _ (unhide HB2)).mono ?_; rintro e w3 ⟨rfl, hb3⟩; have HB3 := hide (onward (unhide HB2) hb3); have HX3 := hide (heap_below (unhide HX2) hb3); have HY3 := hide (heap_below (unhide HY2) hb3); clear hb3)
          | (refine wpList_loadLn (unhide HX3) rfl _ rfl rfl ?_)
          | (go_at_call 44; refine (unhide HCl _ (unhide HB3)).mono ?_; rintro e w4 ⟨R, rw, hR, rfl, hcl4, hb4⟩; have HCL4 := hide hcl4; have HR4 := hide hR; have HB4 := hide (onward (unhide HB3) hb4); have HX4 := hide (heap_below (unhide HX3) hb4); have HY4 := hide (heap_below (unhide HY3) hb4); have HBx4 := hide (heap_below (heap_below (unhide HBx) (unhide HB3)) hb4); clear hcl4 hR hb4)
          | (refine wpList_storeLn (unhide HX4) rfl _ _ rfl rfl rfl ?_))
        obtain ⟨i0, z0, hi0, hia, hib, hic, hid⟩ := info_size info_st
        have KI := hide hi0
        have KA := hide hia
        have KB := hide hib
        have KC := hide hic
        have KD := hide hid
        clear hi0 hia hib hic hid
        generalize hW5 : w4.setRow w.heap.size #[Value.int IntKind.i64 dp, Value.slice (some ⟨R, 0, none⟩) L.length L.length] = W5
        have hRR : w.heap.size + 3 ≤ R := by have := unhide HR4; have := (unhide HB3).size; have := unhide HZ; omega
        have c5 : ClI R L.length L.length L rw W5 := by
          rw [← hW5]
          obtain ⟨cur, r1, r2, r3⟩ := (unhide HCL4).row
          exact ⟨⟨cur, by rw [setRow_other _ _ _ _ (by omega)]; exact r1, r2, r3⟩, fun j hj => owns_other ((unhide HCL4).own j hj) (grown_row _ _ _) (fun g hg => by injection hg with hg; omega), (unhide HCL4).apart⟩
        have hx5 : W5.heap[w.heap.size]? = some (lnsO dp (some ⟨R, 0, none⟩) L.length L.length) := by rw [← hW5]; exact setRow_heap _ _ _ _ _ _ (unhide HX4)
        have hs5 : W5.heap[w.heap.size + 1]? = some (.cells (bgA (bag, due)) 39 (0, 0)) := by rw [← hW5, setRow_other _ _ _ _ (by omega)]; exact unhide HBx4
        have hy5 : W5.heap[w.heap.size + 2]? = some (lnsO 0 none 0 0) := by rw [← hW5, setRow_other _ _ _ _ (by omega)]; exact unhide HY4
        have b5 : Below w.heap.size w W5 := by rw [← hW5]; exact below_row (onward (unhide HB) (unhide HB4)) (Nat.le_refl _) _
        have x5 : W5.cell? ⟨w.heap.size, 1, none⟩ = some (.slice (some ⟨R, 0, none⟩) L.length L.length) := by rw [Lib.cell_of_heap hx5]; rfl
        have r5 : W5.cell? ⟨R, p, none⟩ = some (lnV L rw p) := c5.at (unhide HPl)
        have p0 : (p : Int) < (L.length : Int) := by have := unhide HPl; omega
        have p1 : (0 : Int) ≤ (p : Int) := by omega
        obtain ⟨m, hm⟩ : ∃ m, (L.getD p []).length = m := ⟨_, rfl⟩
        have HM := hide hm
        obtain ⟨W6, hW6⟩ : ∃ W6 : World, W5.drew.alloc (.cells (bgA (bag, due)) 39) = W6 := ⟨_, rfl⟩
        have bA : Below W5.heap.size W5 W6 := by rw [← hW6]; exact below_new (Below.refl W5.heap.size W5).drew _
        have n6 : W6.heap[W5.heap.size]? = some (.cells (bgA (bag, due)) 39 (0, 0)) := by rw [← hW6]; exact heap_alloc_new W5.drew _
        have c6 : ClI R L.length L.length L rw W6 := c5.keep bA
        have HO6 := hide (show W6.ownsRow (R + 1) 39 2 (.slice (rw p).1 m (rw p).2) m ((L.getD p []).flatMap bgC) from by rw [← hm]; exact c6.own p (unhide HPl))
        have hll : m ≤ 20 := by rw [← hm]; exact Nat.le_trans ((unhide HV).len _ (mem_at (unhide HPl))) (unhide HV).d.2
        have hsz6 : R + 1 ≤ W6.heap.size := by have := c6.lt; omega
        have HPut := hide (fun W' (hg : W6.grownBy W' (Value.slice (rw p).1 m (rw p).2).ownBlock) A' c' (ho : W'.ownsRow (R + 1) 39 2 (.slice A' (m + 1) c') (m + 1) ((L.getD p []).flatMap bgC ++ bgC (bag, due))) => show StoI (fun b => b < R) (W'.setCell ⟨R, p, none⟩ (.slice A' (m + 1) c')) (some ⟨R, 0, none⟩) (L.set p (L.getD p [] ++ [(bag, due)])) L.length from by subst hm; exact c6.put (W' := W') (A := A') (c := c') (s := (bag, due)) (unhide HPl) hg ho)
        have HTh := hide (fun W' (hg : W6.grownBy W' (Value.slice (rw p).1 m (rw p).2).ownBlock) => show W'.cell? ⟨R, p, none⟩ = some (.slice (rw p).1 m (rw p).2) ∧ W'.frozen? ⟨R, p, none⟩ = false ∧ W'.heap[w.heap.size]? = some (lnsO dp (some ⟨R, 0, none⟩) L.length L.length) ∧ W'.heap[w.heap.size + 1]? = some (.cells (bgA (bag, due)) 39 (0, 0)) ∧ W'.heap[w.heap.size + 2]? = some (lnsO 0 none 0 0) ∧ Below w.heap.size w W' from by
          subst hm
          have low : ∀ k, k ≤ R → some k ≠ (lnV L rw p).ownBlock := fun k hk e => by have := (c6.own p (unhide HPl)).lt k e.symm; omega
          have old : ∀ {k : Nat} {o : Obj}, k ≤ R → W6.heap[k]? = some o → W'.heap[k]? = some o := fun hk ho => (hg.block _ (Array.getElem?_eq_some_iff.1 ho).1 (low _ hk)).trans ho
          obtain ⟨cur, r1, r2, r3⟩ := c6.row
          have r1' := old (Nat.le_refl R) r1
          refine ⟨by rw [Lib.cell_of_heap r1', r3 p (unhide HPl)], frozen_of_row _ _ _ _ _ r1', old (by omega) (heap_below hx5 bA), old (by omega) (heap_below hs5 bA), old (by omega) (heap_below hy5 bA), (onward b5 bA).grown hg (Nat.le_trans b5.size bA.size) (fun k e => ?_)⟩
          have := (c6.own p (unhide HPl)).lt k e
          omega)
        have cells : ∀ {Z : World}, Z.heap[w.heap.size]? = some (lnsO dp (some ⟨R, 0, none⟩) L.length L.length) → Z.heap[w.heap.size + 1]? = some (.cells (bgA (bag, due)) 39 (0, 0)) → Z.cell? ⟨w.heap.size, 1, none⟩ = some (.slice (some ⟨R, 0, none⟩) L.length L.length) ∧ Z.cell? ⟨w.heap.size + 1, 0, none⟩ = some (.int .i64 bag) ∧ Z.cell? ⟨w.heap.size + 1, 1, none⟩ = some (.int .i64 due) := fun a b => ⟨by rw [Lib.cell_of_heap a]; rfl, by rw [Lib.cell_of_heap b]; rfl, by rw [Lib.cell_of_heap b]; rfl⟩
        have HCe := hide (fun (Z : World) => cells (Z := Z))
        obtain ⟨k1, k2, k3⟩ := cells (Z := W5.drew) hx5 hs5
        obtain ⟨l1, l2, l3⟩ := cells (Z := W6) (heap_below hx5 bA) (heap_below hs5 bA)
        have hh : W5.drew.cell? ⟨w.heap.size, 1, none⟩ = some (.slice (some ⟨R, 0, none⟩) L.length L.length) ∧ W5.drew.cell? ⟨R, p, none⟩ = some (.slice (rw p).1 m (rw p).2) ∧ W5.drew.cell? ⟨w.heap.size + 1, 0, none⟩ = some (.int .i64 bag) ∧ W5.drew.cell? ⟨w.heap.size + 1, 1, none⟩ = some (.int .i64 due) := ⟨k1, by rw [← hm]; exact r5, k2, k3⟩
        have HH6 := hide (show W6.cell? ⟨w.heap.size, 1, none⟩ = some (.slice (some ⟨R, 0, none⟩) L.length L.length) ∧ W6.cell? ⟨R, p, none⟩ = some (.slice (rw p).1 m (rw p).2) ∧ W6.cell? ⟨w.heap.size + 1, 0, none⟩ = some (.int .i64 bag) ∧ W6.cell? ⟨w.heap.size + 1, 1, none⟩ = some (.int .i64 due) from ⟨l1, by rw [← hm]; exact c6.at (unhide HPl), l2, l3⟩)
        have HN6 := hide n6
        have HW6 := hide hW6
        have HRL := hide hRR
        have HZ5 := hide (show W5.drew.heap.size = W5.heap.size from rfl)
        clear hm bA c5 c6 n6 hx5 hs5 hy5 b5 hRR hW5 hW6 x5 r5 k1 k2 k3 l1 l2 l3 cells s0 s1 s12
        refine wp_region_anyZ 12 (fun Z => Z.cell? ⟨w.heap.size, 1, none⟩ = some (.slice (some ⟨R, 0, none⟩) L.length L.length) ∧ Z.cell? ⟨R, p, none⟩ = some (.slice (rw p).1 m (rw p).2) ∧ Z.cell? ⟨w.heap.size + 1, 0, none⟩ = some (.int .i64 bag) ∧ Z.cell? ⟨w.heap.size + 1, 1, none⟩ = some (.int .i64 due)) (by kernel_rfl) ?_
        refine anyZ_take (i := 0) (v := .pointer (some ⟨w.heap.size, 1, none⟩)) rfl (by kernel_rfl) (by kernel_rfl) (by kernel_rfl) (by kernel_rfl) (fun _ _ _ h => h) (Or.inl ⟨by rfl, by intro Z hs; go_simp⟩) hh ?_
        refine anyZ_take (i := 1) (v := .slice (some ⟨R, 0, none⟩) L.length L.length) rfl (by kernel_rfl) (by kernel_rfl) (by kernel_rfl) (by kernel_rfl) (fun _ _ _ h => h) (Or.inl ⟨by rfl, by intro Z hs; have h9 := hs.1; go_simp⟩) hh ?_
        refine anyZ_take (i := 2) (v := .int .i64 p) rfl (by kernel_rfl) (by kernel_rfl) (by kernel_rfl) (by kernel_rfl) (fun _ _ _ h => h) (Or.inl ⟨by rfl, by intro Z hs; go_simp⟩) hh ?_
        refine anyZ_take (i := 3) (v := .pointer (some ⟨w.heap.size, 1, none⟩)) rfl (by kernel_rfl) (by kernel_rfl) (by kernel_rfl) (by kernel_rfl) (fun _ _ _ h => h) (Or.inl ⟨by rfl, by intro Z hs; go_simp⟩) hh ?_
        refine anyZ_take (i := 4) (v := .slice (some ⟨R, 0, none⟩) L.length L.length) rfl (by kernel_rfl) (by kernel_rfl) (by kernel_rfl) (by kernel_rfl) (fun _ _ _ h => h) (Or.inl ⟨by rfl, by intro Z hs; have h9 := hs.1; go_simp⟩) hh ?_
        go_simp
        refine anyZ_take (i := 5) (v := .int .i64 p) rfl (by kernel_rfl) (by kernel_rfl) (by kernel_rfl) (by kernel_rfl) (fun _ _ _ h => h) (Or.inl ⟨by rfl, by intro Z hs; go_simp⟩) hh ?_
        refine anyZ_take (i := 6) (v := .pointer (some ⟨R, p, none⟩)) rfl (by kernel_rfl) (by kernel_rfl) (by kernel_rfl) (by kernel_rfl) (fun _ _ _ h => h) (Or.inl ⟨by rfl, by intro Z hs; go_simp⟩) hh ?_
        refine anyZ_take (i := 7) (v := .slice (rw p).1 m (rw p).2) rfl (by kernel_rfl) (by kernel_rfl) (by kernel_rfl) (by kernel_rfl) (fun _ _ _ h => h) (Or.inl ⟨by rfl, by intro Z hs; have h9 := hs.2.1; go_simp⟩) hh ?_
        go_simp
        refine anyZ_take (i := 8) (v := .agg (bgA (bag, due))) rfl (by kernel_rfl) (by kernel_rfl) (by kernel_rfl) (by kernel_rfl) (fun _ _ _ h => h) (Or.inl ⟨by rfl, by intro Z hs; have h9 := hs.2.2.1; have h8 := hs.2.2.2; go_simp⟩) hh ?_
        go_simp
        refine anyZ_one (i := 9) (by kernel_rfl) rfl (fun K hK => ?_)
        rw [if_pos (by rfl)]
        refine wp_build1 68 39 _ rfl (bgA (bag, due)) i0 z0 2 Try.underlying68 (unhide KI) (unhide KA) (unhide KB) (by decide) (by decide) (unhide KD) rfl rfl ?_
        refine hK _ _ ⟨fun _ => by rw [unhide HW6]; exact unhide HH6, ?_⟩
        clear hK K
        refine anyZ_one (i := 10) (by kernel_rfl) rfl (fun K hK => ?_)
        rw [if_pos (by rfl), unhide HW6]
        refine wp_append_lies _ _ _ 68 rfl (R + 1) 39 i0 z0 2 16 Try.underlying68 (unhide KI) (unhide KA) (unhide KB) (unhide KC) (unhide KD) (by decide) _ _ _ rfl (unhide HO6) ⟨W5.heap.size, 0, none⟩ 1 1 (bgC (bag, due)) rfl rfl (World.news_of_block (unhide HN6)) (fun u hu => by simp only [bgC, List.mem_cons, List.not_mem_nil, or_false] at hu; rcases hu with rfl | rfl <;> rfl) (by decide) (by unfold maxLen; omega) (by omega) hsz6 _ rfl ?_
        intro q cap w9 hown9 hgrow9 hat9 hlt9
        obtain ⟨d0, d1, d2, d3, d4, d5⟩ := unhide HTh w9 hgrow9
        obtain ⟨e0, e1, e2⟩ := unhide HCe w9 d2 d3
        have HX9 := hide (heap_setOther (i := p) d2 (show w.heap.size ≠ R from by have := unhide HRL; omega) (.slice (some ⟨q, 0, none⟩) (m + 1) cap))
        have HY9 := hide (heap_setOther (i := p) d4 (show w.heap.size + 2 ≠ R from by have := unhide HRL; omega) (.slice (some ⟨q, 0, none⟩) (m + 1) cap))
        have HB9 := hide (below_put d5 (show w.heap.size ≤ R from by have := unhide HRL; omega) p (.slice (some ⟨q, 0, none⟩) (m + 1) cap))
        have HSt := hide (unhide HPut w9 hgrow9 _ _ hown9)
        refine hK _ _ ⟨fun _ => ⟨e0, d0, e1, e2⟩, ?_⟩
        clear hK K hown9 hgrow9 hat9 hlt9 d2 d3 d4 d5
        refine anyZ_one (i := 11) (by kernel_rfl) rfl (fun K hK => ?_)
        go_simp
        refine hK _ _ ⟨fun _ => ⟨e0, d0, e1, e2⟩, ?_⟩
        clear hK K e0 e1 e2
        refine anyZ_one (i := 12) (by kernel_rfl) rfl (fun K hK => ?_)
        go_simp
        refine hK _ _ ⟨fun h => absurd rfl h, ?_⟩
        clear hK K
        refine anyZ_done (by kernel_rfl) ?_ _
        go_simp
        go_wp2_with (first
          | (refine wpList_loadLn (unhide HX9) rfl _ rfl rfl ?_)
          | (refine wpList_storeLn (unhide HY9) rfl _ _ rfl rfl rfl ?_))
        refine bodyPost_ret (v := .tuple #[lnsV dp (some ⟨R, 0, none⟩) L.length L.length, .int .i64 p, .int .i64 0]) (results_row3 rfl _ _ (w.heap.size + 2) _ _ _ _ _ _ rfl rfl rfl (setRow_heap _ _ _ _ _ _ (unhide HY9)) Try.underlying42 rfl infoLn) rfl ?_
        have hRL := unhide HRL
        exact ⟨below_row (unhide HB9) (by omega) _, .inr ⟨by rw [unhide HR], _, _, by rw [unhide HR], by rw [unhide HR]; exact ((unhide HSt).keep (KepS.setRow _ _ (show w.heap.size + 2 < R by omega))).fresh (unhide HOl) (by omega)⟩⟩
end Go.Proofs.Ytmmhchhekmcihaa
