/-
  Lanes (layer 17): the program's Take; what the laws want of the program's stores holds.
-/
import Derived.Test.YtmmhchhekmcihaaLanBF
namespace Go.Proofs.Ytmmhchhekmcihaa
open Go.RowKit

/-- Another lane in a copy. -/
theorem ClI.set {R : Nat} {L : List (List Bg)} {rw : Nat → Option Addr × Nat} {W W' : World} {p c N : Nat} {A : Option Addr} {l' : List Bg} (h : ClI R L.length L.length L rw W) (hp : p < L.length) (hb : Below W.heap.size W W') (hN : l'.length = N)
    (ho : W'.ownsRow (R + 1) 39 2 (.slice A N c) N (l'.flatMap bgC)) :
    StoI (fun b => b < R) (W'.setCell ⟨R, p, none⟩ (.slice A N c)) (some ⟨R, 0, none⟩) (L.set p l') L.length := by
  have h' := h.keep hb
  obtain ⟨cur, h1, h2, h3⟩ := h'.row
  have far : ∀ {v : Value} {m : Nat} {xs : List Value}, W'.ownsRow (R + 1) 39 2 v m xs → (W'.setCell ⟨R, p, none⟩ (.slice A N c)).ownsRow (R + 1) 39 2 v m xs := fun ho => owns_other ho (grown_set _ _ _ _) (fun g hg => by injection hg with hg; omega)
  refine ⟨fun _ => ⟨R, 0, rfl, Nat.lt_irrefl R, fun i hi => ?_⟩, by rw [List.length_set]; exact Nat.le_refl _⟩
  rw [List.length_set] at hi
  rw [Nat.zero_add, getD_set hp]
  by_cases e : p = i
  · subst e
    rw [if_pos rfl, hN]
    exact ⟨A, c, by rw [Lib.cell_of_heap (heap_set h1 _), Array.getElem?_setIfInBounds_self_of_lt (by omega)], own_cap ho, bgs_own (far ho) (fun b hb => Nat.lt_succ_of_lt hb)⟩
  · rw [if_neg e]
    refine ⟨(rw i).1, (rw i).2, ?_, own_cap (h'.own i hi), bgs_own (far (h'.own i hi)) (fun b hb => Nat.lt_succ_of_lt hb)⟩
    rw [Lib.cell_of_heap (heap_set h1 _), Array.getElem?_setIfInBounds_ne e]
    exact h3 i hi
def TakeTo (dp : Nat) (L : List (List Bg)) (bag : Int) (S : Nat → Prop) (w : World) (e : Ending) (w' : World) : Prop := Below w.heap.size w w' ∧
  (((takeS L bag).2.2 ≠ 0 ∧ e = .returned (.tuple #[lnsV 0 none 0 0, .slice none 0 0, .int .i64 (takeS L bag).2.2])) ∨ ((takeS L bag).2.2 = 0 ∧ ∃ A' c' B d, e = .returned (.tuple #[lnsV dp A' L.length c', .slice B (takeS L bag).2.1.length d, .int .i64 0]) ∧ (takeS L bag).2.1.length ≤ d ∧ StoI S w' A' (takeS L bag).1 c' ∧ ∀ b, S b → NumsIn b w' B (takeS L bag).2.1))
theorem takeS_no {L : List (List Bg)} {bag : Int} (h : ¬ findS L bag < L.length) : takeS L bag = ([], [], 6) := if_neg h
theorem takeS_yes {L : List (List Bg)} {bag : Int} {f p : Nat} {l : List Bg} (h : findS L bag < L.length) (hf : findS L bag = f) (hl : L.getD f [] = l) (hp : posB l bag = p) : takeS L bag = (L.set f (l.drop (p + 1) ++ l.take p), (l.take p).map (·.1), 0) := by
  subst hf hl hp; exact if_pos h
theorem bgs_pre {S : Nat → Prop} {w : World} {A : Option Addr} {l : List Bg} {k : Nat} (h : BgsIn S w A l) (hk : k ≤ l.length) : BgsIn S w A (l.take k) := fun hn => by
  rw [List.length_take] at hn
  obtain ⟨g, off, e, hg, hc⟩ := h (by omega)
  refine ⟨g, off, e, hg, fun i hi => ?_⟩
  rw [List.length_take] at hi
  have e2 : (l.take k).getD i (0, 0) = l.getD i (0, 0) := by rw [List.getD_eq_getElem?_getD, List.getD_eq_getElem?_getD, List.getElem?_take, if_pos (by omega)]
  rw [e2]; exact hc i (by omega)
theorem bgs_post {S : Nat → Prop} {w : World} {g off : Nat} {l : List Bg} {k : Nat} (h : BgsIn S w (some ⟨g, off, none⟩) l) : BgsIn S w (some ⟨g, off + k * 2, none⟩) (l.drop k) := fun hn => by
  rw [List.length_drop] at hn
  obtain ⟨g', off', e, hg, hc⟩ := h (by omega)
  injection e with e; injection e with e1 e2 _; subst e1; subst e2
  refine ⟨g, off + k * 2, rfl, hg, fun i hi => ?_⟩
  rw [List.length_drop] at hi
  have e2 : (l.drop k).getD i (0, 0) = l.getD (k + i) (0, 0) := by rw [List.getD_eq_getElem?_getD, List.getD_eq_getElem?_getD, List.getElem?_drop]
  have h2 := hc (k + i) (by omega)
  rw [e2, show off + k * 2 + 2 * i = off + 2 * (k + i) by omega, show off + k * 2 + (2 * i + 1) = off + (2 * (k + i) + 1) by omega]
  exact h2
theorem fst_take {l : List Bg} {k : Nat} (h : k < l.length) : ((l.take (k + 1)).map (·.1)).map (Value.int .i64) = ((l.take k).map (·.1)).map (Value.int .i64) ++ [.int .i64 (l.getD k (0, 0)).1] := by
  rw [List.take_succ_eq_append_getElem h, ← getElem_getD h, List.map_append, List.map_append]; rfl
set_option maxHeartbeats 4000000 in
set_option maxRecDepth 100000 in
theorem take_st (dp : Nat) (L : List (List Bg)) (bag : Int) (A : Option Addr) (c : Nat) (S : Nat → Prop) (w : World) (hv : ValL dp L) (h : StoI S w A L c) (hS : Old S w) :
    Calls Try.prog 28 #[lnsV dp A L.length c, .int .i64 bag] w (TakeTo dp L bag S w) := by
  obtain ⟨W, hW⟩ : ∃ W : World, (w.alloc (lnsO dp A L.length c)).alloc (lnsO 0 none 0 0) = W := ⟨_, rfl⟩
  have b1 : Below w.heap.size w W := by rw [← hW]; exact below_new (below_new (Below.refl w.heap.size w) _) _
  have hz : W.heap.size = w.heap.size + 2 := by rw [← hW, World.size_alloc, World.size_alloc]
  have hx : W.heap[w.heap.size]? = some (lnsO dp A L.length c) := by rw [← hW]; exact heap_later (heap_alloc_new w _) _
  have hy : W.heap[w.heap.size + 1]? = some (lnsO 0 none 0 0) := by
    have h := heap_alloc_new (w.alloc (lnsO dp A L.length c)) (lnsO 0 none 0 0)
    rw [World.size_alloc, hW] at h; exact h
  have HX := hide hx
  have HY := hide hy
  have HZ := hide hz
  have HS := hide (h.below b1)
  have HB := hide b1
  have HV := hide hv
  have HOl := hide hS
  have hL : L.length ≤ 20 := hv.n.2
  clear b1 h hv hx hy hz hS
  have HF := hide (find_any S dp bag L A c W (unhide HV) (unhide HS))
  by_cases h3 : findS L bag < L.length
  · have hhas := find_spec.2 h3
    obtain ⟨f, hf⟩ : ∃ f, findS L bag = f := ⟨_, rfl⟩
    rw [hf] at hhas
    obtain ⟨l, hl⟩ : ∃ l, L.getD f [] = l := ⟨_, rfl⟩
    rw [hl] at hhas
    obtain ⟨pos, hp⟩ : ∃ pos, posB l bag = pos := ⟨_, rfl⟩
    have HR := hide (takeS_yes h3 hf hl hp)
    have hfl : f < L.length := hf ▸ h3
    have hpl : pos < l.length := by
      have := (posI_has (l := l) (v := bag)).1 hhas
      unfold posI at this
      rw [hp] at this
      by_cases h9 : pos < l.length
      · exact h9
      · rw [if_neg h9] at this; omega
    have hfi : fndI L bag = f := by unfold fndI; rw [if_pos h3, hf]
    have hfk : fndK L bag = pos := by unfold fndK; rw [if_pos h3, hf, hl, hp]
    rw [hfi, hfk] at HF
    have HF := hide (unhide HF)
    have hll : l.length ≤ 20 := by rw [← hl]; exact Nat.le_trans ((unhide HV).len _ (mem_at hfl)) (unhide HV).d.2
    have HLl := hide hl
    have q : ((f : Int) == -1) = false := by rw [beq_eq_false_iff_ne]; omega
    have HCl := hide (fun W' (hb : Below W.heap.size W W') => clone_any S dp L A c W' (unhide HV) ((unhide HS).below hb))
    clear h3 hhas hf hl hp hfi hfk
    go_enter Try.func28, Try.ntmps28
    go_wp2_with (first
      | (refine wpList_loadLn (unhide HX) rfl _ rfl rfl ?_)
      | (go_at_call 43; refine (unhide HF).mono ?_; rintro e w2 ⟨rfl, hb2⟩; have HB2 := hide hb2; have HX2 := hide (heap_below (unhide HX) hb2); have HY2 := hide (heap_below (unhide HY) hb2); clear hb2)
      | (refine wpList_loadLn (unhide HX2) rfl _ rfl rfl ?_)
      | (go_at_call 44; refine (unhide HCl _ (unhide HB2)).mono ?_; rintro e w4 ⟨R, rw, hR, rfl, hcl4, hb4⟩; have HCL4 := hide hcl4; have HR4 := hide hR; have HB4 := hide (onward (unhide HB2) hb4); have HX4 := hide (heap_below (unhide HX2) hb4); have HY4 := hide (heap_below (unhide HY2) hb4); clear hcl4 hR hb4)
      | (refine wpList_storeLn (unhide HX4) rfl _ _ rfl rfl rfl ?_))
    generalize hW5 : w4.setRow w.heap.size #[Value.int IntKind.i64 dp, Value.slice (some ⟨R, 0, none⟩) L.length L.length] = W5
    have hRR : w.heap.size + 2 ≤ R := by have := unhide HR4; have := (unhide HB2).size; have := unhide HZ; omega
    have c5 : ClI R L.length L.length L rw W5 := by
      rw [← hW5]
      obtain ⟨cur, r1, r2, r3⟩ := (unhide HCL4).row
      exact ⟨⟨cur, by rw [setRow_other _ _ _ _ (by omega)]; exact r1, r2, r3⟩, fun j hj => owns_other ((unhide HCL4).own j hj) (grown_row _ _ _) (fun g hg => by injection hg with hg; omega), (unhide HCL4).apart⟩
    have hx5 : W5.heap[w.heap.size]? = some (lnsO dp (some ⟨R, 0, none⟩) L.length L.length) := by rw [← hW5]; exact setRow_heap _ _ _ _ _ _ (unhide HX4)
    have hy5 : W5.heap[w.heap.size + 1]? = some (lnsO 0 none 0 0) := by rw [← hW5, setRow_other _ _ _ _ (by omega)]; exact unhide HY4
    have b5 : Below w.heap.size w W5 := by rw [← hW5]; exact below_row (onward (unhide HB) (unhide HB4)) (Nat.le_refl _) _
    have x5 : W5.cell? ⟨w.heap.size, 1, none⟩ = some (.slice (some ⟨R, 0, none⟩) L.length L.length) := by rw [Lib.cell_of_heap hx5]; rfl
    have o5 := c5.own f hfl
    have r5 := c5.at hfl
    unfold lnV at o5 r5
    rw [unhide HLl] at o5 r5
    generalize (rw f).1 = A5 at o5 r5
    generalize (rw f).2 = cc at o5 r5
    obtain ⟨g, rfl⟩ : ∃ g, A5 = some ⟨g, 0, none⟩ := by
      rcases o5.2 with ⟨_, h0⟩ | ⟨g, cap', cur, hv, _⟩
      · omega
      · injection hv with hA; exact ⟨g, hA⟩
    have hcc := own_cap o5
    have hcm : cc ≤ 9223372036854775807 := by
      rcases o5.2 with ⟨h1, _⟩ | ⟨g', cap', cur, hv, _, _, _, h4, _⟩
      · cases h1
      · injection hv with _ _ h9; rw [h9]; unfold maxLen at h4; exact h4
    have HI5 := hide (bgs_own (S := fun b => b < R + 1) o5 (fun b hb => hb))
    have HC5 := hide c5
    have HX5 := hide hx5
    have HY5 := hide hy5
    have HB5 := hide b5
    have HRL := hide hRR
    have f0 : (f : Int) < (L.length : Int) := by omega
    have f1 : (0 : Int) ≤ (f : Int) := by omega
    have p0 : (pos : Int) ≤ (cc : Int) := by omega
    have p1 : (0 : Int) ≤ (pos : Int) := by omega
    have p2 : IntKind.i64.wrap ((pos : Int) + 1) = (pos : Int) + 1 := by rw [IntKind.wrap_i64]; omega
    have p3 : (0 : Int) ≤ (pos : Int) + 1 := by omega
    have p4 : ((pos : Int) + 1).toNat = pos + 1 := by omega
    have p5 : (pos : Int) + 1 ≤ (l.length : Int) := by omega
    have p6 : pos + 1 ≤ l.length := by omega
    have p7 : pos ≤ cc := by omega
    clear c5 hx5 hy5 b5 o5 hRR hW5
    go_quiet (fail)
    clear p0 p2 p3 p4 p5 x5 r5
    obtain ⟨A2, hA2⟩ : ∃ A2, (if cc = pos + 1 then some (⟨g, 0, none⟩ : Addr) else some ⟨g, (pos + 1) * 2, none⟩) = A2 := ⟨_, rfl⟩
    obtain ⟨n2, hn2⟩ : ∃ n2, l.length - (pos + 1) = n2 := ⟨_, rfl⟩
    rw [hA2, hn2]
    have HBh := hide (show BgsIn (fun b => b < R + 1) W5 A2 (l.drop (pos + 1)) ∧ (l.drop (pos + 1)).length = n2 from by
      refine ⟨?_, by rw [List.length_drop, hn2]⟩
      by_cases hc : cc = pos + 1
      · rw [List.drop_eq_nil_of_le (by omega)]; exact fun h => absurd h (Nat.lt_irrefl _)
      · rw [if_neg hc] at hA2
        subst hA2
        have := bgs_post (k := pos + 1) (unhide HI5)
        rwa [Nat.zero_add] at this)
    have HBf := hide (show BgsIn (fun b => b < R + 1) W5 (some ⟨g, 0, none⟩) (l.take pos) ∧ (l.take pos).length = pos from ⟨bgs_pre (unhide HI5) (by omega), by rw [List.length_take]; omega⟩)
    have h2c : n2 ≤ cc - (pos + 1) := by omega
    clear hA2
    generalize cc - (pos + 1) = c2 at h2c ⊢
    generalize hW6 : W5.drewN nq = W6
    have b6 : Below W5.heap.size W5 W6 := by rw [← hW6]; exact draws (Below.refl _ _) _
    have HX6 := hide (heap_below (unhide HX5) b6)
    have HY6 := hide (heap_below (unhide HY5) b6)
    have HB6 := hide (onward (unhide HB5) b6)
    have HC6 := hide ((unhide HC5).keep b6)
    have HBh6 := hide ((unhide HBh).1.keep (KepS.below b6))
    have HBf6 := hide ((unhide HBf).1.keep (KepS.below b6))
    clear b6 hW6 HX5 HY5 HB5 HC5 HI5
    obtain ⟨W7, hW7⟩ : ∃ W7 : World, (W6.alloc (.cells #[.slice A2 n2 c2, .slice (some ⟨g, 0, none⟩) pos cc] 68)).drew = W7 := ⟨_, rfl⟩
    have b7 : Below W6.heap.size W6 W7 := by rw [← hW7]; exact (below_new (Below.refl W6.heap.size W6) _).drew
    have n7 : W7.heap[W6.heap.size]? = some (.cells #[.slice A2 n2 c2, .slice (some ⟨g, 0, none⟩) pos cc] 68 (0, 0)) := by rw [← hW7]; exact heap_alloc_new W6 _
    have hl2 : (l.drop (pos + 1)).length = n2 := (unhide HBh).2
    have hl1 : (l.take pos).length = pos := (unhide HBf).2
    have HCo := hide (concat_any (fun b => b < R + 1) [l.drop (pos + 1), l.take pos] (some ⟨W6.heap.size, 0, none⟩) 2 W7 (by show 2 ≤ 10; omega) (fun y hy => by
        simp only [List.mem_cons, List.not_mem_nil, or_false] at hy
        rcases hy with rfl | rfl <;> omega) (fun _ => ⟨W6.heap.size, 0, rfl, fun h => by have := (unhide HC6).lt; omega, fun i hi => by
        match i, hi with
        | 0, _ => exact ⟨A2, c2, by rw [Lib.cell_of_heap n7]; show _ = some (Value.slice A2 (l.drop (pos + 1)).length c2); rw [hl2]; rfl, by show (l.drop (pos + 1)).length ≤ c2; omega, (unhide HBh6).keep (KepS.below b7)⟩
        | 1, _ => exact ⟨some ⟨g, 0, none⟩, cc, by rw [Lib.cell_of_heap n7]; show _ = some (Value.slice _ (l.take pos).length cc); rw [hl1]; rfl, by show (l.take pos).length ≤ cc; omega, (unhide HBf6).keep (KepS.below b7)⟩⟩))
    have hfl2 : [l.drop (pos + 1), l.take pos].flatten = l.drop (pos + 1) ++ l.take pos := by simp
    unfold ConTo at HCo
    rw [hfl2] at HCo
    obtain ⟨N9, hN9⟩ : ∃ N9, (l.drop (pos + 1) ++ l.take pos).length = N9 := ⟨_, rfl⟩
    rw [hN9] at HCo
    have HCo := hide (unhide HCo)
    have HW7 := hide hW7
    have HN9 := hide hN9
    have HB7 := hide b7
    have xc : ∀ {Z : World}, Below W6.heap.size W6 Z → Z.cell? ⟨w.heap.size, 1, none⟩ = some (.slice (some ⟨R, 0, none⟩) L.length L.length) := fun hb => by rw [Lib.cell_of_heap (heap_below (unhide HX6) hb)]; rfl
    have HXc := hide (fun (Z : World) => xc (Z := Z))
    have hh : W6.drew.cell? ⟨w.heap.size, 1, none⟩ = some (.slice (some ⟨R, 0, none⟩) L.length L.length) := xc (Below.refl _ _).drew
    have HNx := hide (show W6.drew.heap.size = W6.heap.size from rfl)
    have HTh := hide (fun (W' : World) (hb : Below W6.heap.size W6 W') => ((unhide HC6).keep hb).there hfl)
    have HSet := hide (fun (W' : World) (hb : Below W6.heap.size W6 W') A' c' ho => (unhide HC6).set (A := A') (c := c') hfl hb (unhide HN9) ho)
    clear hl1 hl2 hfl2 hN9 n7 b7 hW7 xc hn2
    go_wp2_with fail
    refine wp_region_anyZ 8 (fun Z => Z.cell? ⟨w.heap.size, 1, none⟩ = some (.slice (some ⟨R, 0, none⟩) L.length L.length)) (by kernel_rfl) ?_
    refine anyZ_take (i := 0) (v := .pointer (some ⟨w.heap.size, 1, none⟩)) rfl (by kernel_rfl) (by kernel_rfl) (by kernel_rfl) (by kernel_rfl) (fun _ _ _ h => h) (Or.inl ⟨by rfl, by intro Z hs; go_simp⟩) hh ?_
    refine anyZ_take (i := 1) (v := .slice (some ⟨R, 0, none⟩) L.length L.length) rfl (by kernel_rfl) (by kernel_rfl) (by kernel_rfl) (by kernel_rfl) (fun _ _ _ h => h) (Or.inl ⟨by rfl, by intro Z hs; have h9 := hs; go_simp⟩) hh ?_
    refine anyZ_take (i := 2) (v := .int .i64 f) rfl (by kernel_rfl) (by kernel_rfl) (by kernel_rfl) (by kernel_rfl) (fun _ _ _ h => h) (Or.inl ⟨by rfl, by intro Z hs; go_simp⟩) hh ?_
    refine anyZ_take (i := 3) (v := .slice A2 n2 c2) rfl (by kernel_rfl) (by kernel_rfl) (by kernel_rfl) (by kernel_rfl) (fun _ _ _ h => h) (Or.inl ⟨by rfl, by intro Z hs; go_simp⟩) hh ?_
    refine anyZ_take (i := 4) (v := .slice (some ⟨g, 0, none⟩) pos cc) rfl (by kernel_rfl) (by kernel_rfl) (by kernel_rfl) (by kernel_rfl) (fun _ _ _ h => h) (Or.inl ⟨by rfl, by intro Z hs; go_simp⟩) hh ?_
    go_simp
    refine anyZ_one (i := 5) (by kernel_rfl) rfl (fun K hK => ?_)
    go_simp
    rw [unhide HW7]
    refine hK _ _ ⟨fun _ => unhide HXc W7 (unhide HB7), ?_⟩
    clear hK K
    refine anyZ_one (i := 6) (by kernel_rfl) rfl (fun K hK => ?_)
    go_simp
    go_at_call 45
    refine (unhide HCo).mono ?_
    rintro e w8 ⟨A9, c9, rfl, ho9, hb9⟩
    try go_simp
    have HB8 := hide (onward (unhide HB7) hb9)
    have HO9 := hide (own_base ho9 (show R + 1 ≤ W7.heap.size from by have := ((unhide HC6).keep (unhide HB7)).lt; omega))
    have HSt := hide (unhide HSet w8 (unhide HB8) A9 c9 (unhide HO9))
    obtain ⟨⟨u8, d0⟩, d1⟩ := unhide HTh w8 (unhide HB8)
    have x8 := unhide HXc w8 (unhide HB8)
    clear ho9 hb9
    refine hK _ _ ⟨fun _ => x8, ?_⟩
    clear hK K
    refine anyZ_one (i := 7) (by kernel_rfl) rfl (fun K hK => ?_)
    go_simp
    refine hK _ _ ⟨fun _ => x8, ?_⟩
    clear hK K
    refine anyZ_one (i := 8) (by kernel_rfl) rfl (fun K hK => ?_)
    go_simp
    refine hK _ _ ⟨fun h => absurd rfl h, ?_⟩
    clear hK K d0 d1 x8
    refine anyZ_done (by kernel_rfl) ?_ _
    go_simp
    generalize hW9 : w8.setCell ⟨R, f, none⟩ (Value.slice A9 N9 c9) = W9
    have hRL := unhide HRL
    have HX9 := hide (show W9.heap[w.heap.size]? = some (lnsO dp (some ⟨R, 0, none⟩) L.length L.length) from by rw [← hW9]; exact heap_setOther (heap_below (unhide HX6) (unhide HB8)) (by omega) _)
    have HY9 := hide (show W9.heap[w.heap.size + 1]? = some (lnsO 0 none 0 0) from by rw [← hW9]; exact heap_setOther (heap_below (unhide HY6) (unhide HB8)) (by omega) _)
    have HB9 := hide (show Below w.heap.size w W9 from by rw [← hW9]; exact below_put (onward (unhide HB6) (unhide HB8)) (by omega) _ _)
    have HSt9 := hide (show StoI (fun b => b < R) W9 (some ⟨R, 0, none⟩) (L.set f (l.drop (pos + 1) ++ l.take pos)) L.length from by rw [← hW9]; exact unhide HSt)
    have HBf9 := hide (show BgsIn (fun b => b < R + 1) W9 (some ⟨g, 0, none⟩) (l.take pos) from by rw [← hW9]; exact ((unhide HBf6).keep (KepS.below (unhide HB8))).keep (KepS.grown (grown_set _ _ _ _) (Nat.lt_succ_self R)))
    clear hW9 hRL HSt HO9 HB8 HCo HSet HTh HXc HC6 HBf6 HBh6 HX6 HY6 HB6 HB7 HW7 HNx hh
    obtain ⟨i0, hi, hz0, hz1, hz2⟩ := info_parts linfo_int
    have HI0 := hide hi
    have HZ0 := hide hz0
    have HZ1 := hide hz1
    have HZ2 := hide hz2
    clear hi hz0 hz1 hz2
    have H0 := hide (show W9.ownsRow W9.heap.size 3 1 (.slice none 0 0) 0 (((l.take 0).map (·.1)).map (Value.int .i64)) ∧ Below W9.heap.size W9 W9 from ⟨World.ownsRow_nil _ _ _ _, Below.refl _ _⟩)
    have HTl := hide (unhide HBf).2
    go_wp2_with fail
    go_loopw [11, 50] (fun s11 s50 wr => ∃ (k : Nat) (B : Option Addr) (cB : Nat), k ≤ pos ∧ s50 = .int .i64 k ∧ s11 = .slice B k cB ∧ Hid (wr.ownsRow W9.heap.size 3 1 (.slice B k cB) k (((l.take k).map (·.1)).map (Value.int .i64)) ∧ Below W9.heap.size W9 wr)) (fun _ s _ => pos - (intOf s).toNat)
    case atStart => exact ⟨0, none, 0, Nat.zero_le _, rfl, rfl, H0⟩
    case round =>
      obtain ⟨k, B, cB, hk, rfl, rfl, HI⟩ := hrel
      obtain ⟨wo, rfl⟩ : ∃ wo : World, wo = wr := ⟨_, rfl⟩
      clear H0
      by_cases hkp : k < pos
      · have kl : (k : Int) < (pos : Int) := by omega
        have k0 : (0 : Int) ≤ (k : Int) := by omega
        obtain ⟨g', off, hA, _, hc⟩ := bgs_at ((unhide HBf9).keep (KepS.below (unhide HI).2)) (i := k) (by rw [unhide HTl]; exact hkp)
        injection hA with hA
        injection hA with hA1 hA2 _
        subst hA1; subst hA2
        have e2 : (l.take pos).getD k (0, 0) = l.getD k (0, 0) := by rw [List.getD_eq_getElem?_getD, List.getD_eq_getElem?_getD, List.getElem?_take, if_pos hkp]
        rw [e2, Nat.zero_add] at hc
        have HC := hide hc
        have HStp := hide (fst_take (l := l) (k := k) (by omega))
        clear hc e2
        generalize l.getD k (0, 0) = s at HC HStp
        obtain ⟨ys, hys⟩ : ∃ ys, ((l.take k).map (·.1)).map (Value.int .i64) = ys := ⟨_, rfl⟩
        rw [hys] at HI HStp
        clear hys
        obtain ⟨V1, hV1⟩ : ∃ V1 : World, wo.alloc (.cells (bgA s) 39) = V1 := ⟨_, rfl⟩
        have v1 : Below wo.heap.size wo V1 := by rw [← hV1]; exact below_new (Below.refl _ _) _
        have z0 : V1.cell? ⟨wo.heap.size, 0, none⟩ = some (.int .i64 s.1) := by rw [← hV1, Lib.cell_of_heap (heap_alloc_new wo _)]; rfl
        have v2 := below_new (Below.refl V1.heap.size V1) (.cells #[.int .i64 s.1] 3)
        have HNw := hide (World.news_of_block (heap_alloc_new V1 (.cells #[.int .i64 s.1] 3)))
        have HO3 := hide (owns_later (owns_later (unhide HI).1 v1) v2)
        have HB3 := hide (show Below W9.heap.size W9 (V1.alloc (.cells #[.int .i64 s.1] 3)) from onward (onward (unhide HI).2 v1) v2)
        have hz3 := (unhide HB3).size
        have hk200 : k ≤ 200 := by omega
        clear v1 v2
        go_wp2_with (first
          | (refine wpList_load_at rfl _ _ rfl g (k * 2) rfl (bgA s) _ (unhide HC) Try.underlying39 rfl infoSt ?_)
          | (at_builtin; refine wpList_append_lies _ rfl _ _ 22 rfl W9.heap.size 3 i0 (.int .i64 0) 1 8 Try.underlying22 (unhide HI0) (unhide HZ0) (unhide HZ1) (unhide HZ2) rfl (by decide) _ _ _ rfl (unhide HO3) ⟨V1.heap.size, 0, none⟩ 1 1 [.int .i64 s.1] rfl rfl (unhide HNw) (fun u hu => by rw [List.mem_singleton.1 hu]; rfl) (by decide) (by unfold maxLen; omega) (by omega) hz3 _ rfl ?_))
        intro q2 cq w6 hown hgrow hat hlt6
        have H6 := hide (show w6.ownsRow W9.heap.size 3 1 (.slice (some ⟨q2, 0, none⟩) (k + 1) cq) (k + 1) (((l.take (k + 1)).map (·.1)).map (Value.int .i64)) ∧ Below W9.heap.size W9 w6 from by
          rw [unhide HStp]
          exact ⟨hown, (unhide HB3).grown hgrow (unhide HB3).size (fun j e => ((unhide HO3).lt j e).1)⟩)
        clear hown hgrow hat hlt6 hz3
        go_wp2
        go_roundw
        case rel => exact ⟨k + 1, _, cq, by omega, by go_num, rfl, H6⟩
        case measure => simp [intOf]; omega
      · have kl : ¬ (k : Int) < (pos : Int) := by omega
        obtain rfl : k = pos := by omega
        have HX10 := hide (heap_below (unhide HX9) (unhide HI).2)
        have HY10 := hide (heap_below (unhide HY9) (unhide HI).2)
        go_wp2_with (first
          | (refine wpList_loadLn (unhide HX10) rfl _ rfl rfl ?_)
          | (refine wpList_storeLn (unhide HY10) rfl _ _ rfl rfl rfl ?_))
        refine bodyPost_ret (v := .tuple #[lnsV dp (some ⟨R, 0, none⟩) L.length L.length, .slice B k cB, .int .i64 0]) (results_row3 rfl _ _ (w.heap.size + 1) _ _ _ _ _ _ rfl rfl rfl (setRow_heap _ _ _ _ _ _ (unhide HY10)) Try.underlying42 rfl infoLn) rfl ?_
        have hRL := unhide HRL
        have hB9 := (unhide HB9).size
        have hlt9 : w.heap.size + 1 < W9.heap.size := (Array.getElem?_eq_some_iff.1 (unhide HY9)).1
        have hln : ((l.take k).map (·.1)).length = k := by rw [List.length_map]; exact unhide HTl
        have ho := (unhide HI).1
        have ho' : (wo.setRow (w.heap.size + 1) #[.int .i64 dp, .slice (some ⟨R, 0, none⟩) L.length L.length]).ownsRow W9.heap.size 3 1 (.slice B k cB) k (((l.take k).map (·.1)).map (Value.int .i64)) := owns_other ho (grown_row _ _ _) (fun g hg => by injection hg with hg; omega)
        refine ⟨below_row (onward (unhide HB9) (unhide HI).2) (by omega) _, .inr ⟨by rw [unhide HR], _, _, B, cB, by rw [unhide HR, hln], ?_, ?_, ?_⟩⟩
        · rw [unhide HR, hln]; exact own_cap ho
        · rw [unhide HR]; exact (((unhide HSt9).keep (KepS.below (unhide HI).2)).keep (KepS.setRow _ _ (show w.heap.size + 1 < R by omega))).fresh (unhide HOl) (by omega)
        · rw [unhide HR]
          intro b hb
          have := unhide HOl b hb
          exact nums_own (base := W9.heap.size) (n := k) (cap := cB) ho' (.inl (by omega))
  · have HR := hide (takeS_no h3)
    have hf : fndI L bag = -1 := by unfold fndI; rw [if_neg h3]
    rw [hf] at HF
    have HF := hide (unhide HF)
    clear h3 hf
    go_enter Try.func28, Try.ntmps28
    go_wp2_with (first
      | (refine wpList_loadLn (unhide HX) rfl _ rfl rfl ?_)
      | (go_at_call 43; refine (unhide HF).mono ?_; rintro e w2 ⟨rfl, hb2⟩; have HB2 := hide hb2; have HX2 := hide (heap_below (unhide HX) hb2); have HY2 := hide (heap_below (unhide HY) hb2); clear hb2)
      | (refine wpList_storeLn (unhide HY2) rfl _ _ rfl rfl rfl ?_))
    refine bodyPost_ret (v := .tuple #[lnsV 0 none 0 0, .slice none 0 0, .int .i64 6]) (results_row3 rfl _ _ (w.heap.size + 1) _ _ _ _ _ _ rfl rfl rfl (setRow_heap _ _ _ _ _ _ (unhide HY2)) Try.underlying42 rfl infoLn) rfl ?_
    exact ⟨below_row (onward (unhide HB) (unhide HB2)) (by omega) _, .inl ⟨by rw [unhide HR]; decide, by rw [unhide HR]⟩⟩
theorem sto_ok : StoOk where
  new n d w := new_st n d w
  put dp L s A c S w hv h hS _ _ := put_st dp L s A c S w hv h hS
  take dp L bag A c S w hv h hS _ := take_st dp L bag A c S w hv h hS
end Go.Proofs.Ytmmhchhekmcihaa
