/-
  Custody (layer 16): CustodyOpens: its walk.
-/
import Derived.Test.YtbjpcajhceapkaaCusI
import Derived.Test.YtbjpcajhceapkaaRowX
import Derived.Test.YtbjpcajhceapkaaAnyW
import Derived.Deep.CutRange
namespace Go.Proofs.Ytbjpcajhceapkaa
open Go.RowKit

theorem ints_below {B B' n : Nat} {w w1 : World} {A : Option Addr} (hA : IntsIn B w A n) (hb : Below w.heap.size w w1) (hB : B ≤ B') : IntsIn B' w1 A n := fun h => by
  obtain ⟨g, off, h1, h2, h3⟩ := hA h
  refine ⟨g, off, h1, by omega, fun i hi => ?_⟩
  obtain ⟨x, hx⟩ := h3 i hi
  exact ⟨x, kept hb hx⟩
abbrev vot8 (t s : Int) (A : Option Addr) (n c : Nat) (A' : Option Addr) (n' c' : Nat) (u v : Int) (B : Option Addr) (m d : Nat) (B' : Option Addr) (m' d' : Nat) : Array Value := #[.int .i64 t, .int .i64 s, .slice A n c, .slice A' n' c', .int .i64 u, .int .i64 v, .slice B m d, .slice B' m' d']
theorem infoVt : (Try.prog.info? 40).map (·.size) = some 4 := by kernel_rfl
section
variable {ops : Array Oper} {rest : List Oper} {o : Oper} {a : Act} {W : World} {Q : Exit → Act → World → Prop}
theorem wpList_loadVt {t s : Int} {A A' : Option Addr} {n c n' c' g : Nat} (hg : W.heap[g]? = some (votO t s A n c A' n' c')) (hgd : o.guard = none) (x : Operand) (ho : o.op = .load 40 x) (hx : a.eval x = .pointer (some ⟨g, 0, none⟩))
    (h : wpList Try.prog ops Q rest (a.put o.dst (.agg (votA t s A n c A' n' c'))) W) : wpList Try.prog ops Q (o :: rest) a W :=
  wpList_load_row hgd _ x ho g hx 40 _ (0, 0) _ hg Try.underlying40 rfl infoVt h
theorem vt_all (t s : Int) (A : Option Addr) (n c : Nat) (A' : Option Addr) (n' c' : Nat) : (votA t s A n c A' n' c').all (·.oneCell') = true := by simp [Value.oneCell']
theorem wpList_storeVt_new {old : Array Value} {t s : Int} {A A' : Option Addr} {n c n' c' g : Nat} (hz : W.heap.size = g) (hgd : o.guard = none) (x y : Operand) (ho : o.op = .store 40 x y)
    (hx : a.eval x = .pointer (some ⟨g, 0, none⟩)) (hy : a.eval y = .agg (votA t s A n c A' n' c')) (hold : old.size = 4)
    (h : wpList Try.prog ops Q rest (a.put o.dst undef) (W.alloc (votO t s A n c A' n' c'))) : wpList Try.prog ops Q (o :: rest) a (W.alloc (.cells old 40)) := by
  subst hz
  exact wpList_store_row hgd _ x y ho W.heap.size _ hx hy 40 old (heap_alloc_new W _) infoVt hold (vt_all _ _ _ _ _ _ _ _) (by rw [World.setRow_alloc_new]; exact h)
end
/-- The reader R, the votes that came in, the votes under way in box G. -/
structure VoB (w0 : World) (R G : Nat) (ob bx : Obj) (W : World) : Prop where
  src : Src R R W
  bel : Below w0.heap.size w0 W
  old : W.heap[w0.heap.size]? = some ob
  box : W.heap[G]? = some bx
  r0 : w0.heap.size < R
  rg : R < G
section
variable {w0 W W' : World} {R G : Nat} {ob bx : Obj}
theorem VoB.szG (h : VoB w0 R G ob bx W) : G < W.heap.size := (Array.getElem?_eq_some_iff.1 h.box).1
theorem VoB.below (h : VoB w0 R G ob bx W) (hb : Below W.heap.size W W') : VoB w0 R G ob bx W' := ⟨h.src.keep hb, onward h.bel hb, heap_below h.old hb, heap_below h.box hb, h.r0, h.rg⟩
theorem VoB.reads (h : VoB w0 R G ob bx W) (hs : Src R R W') (hg : W.grownBy W' (some R)) : VoB w0 R G ob bx W' := by
  have h1 := h.r0
  have h2 := h.rg
  exact ⟨hs, below_reads h.bel hg (by omega) h.bel.size, heap_reads h.old hg (by omega), heap_reads h.box hg (by omega), h1, h2⟩
theorem VoB.grown (h : VoB w0 R G ob bx W) {row : Option Nat} (hg : W.grownBy W' row) (hr : ∀ k, row = some k → G + 1 ≤ k) : VoB w0 R G ob bx W' := by
  have h1 := h.r0
  have h2 := h.rg
  exact ⟨h.src.grown hg (fun k hk => by have := hr k hk; omega), h.bel.grown hg h.bel.size (fun k hk => by have := hr k hk; omega),
    (hg.block _ (Array.getElem?_eq_some_iff.1 h.old).1 (fun e => by have := hr _ e.symm; omega)).trans h.old, (hg.block _ h.szG (fun e => by have := hr _ e.symm; omega)).trans h.box, h1, h2⟩
theorem VoB.cell {cs : Array Value} {t : TypeId} {fz : Nat × Nat} (h : VoB w0 R G ob (.cells cs t fz) W) (i : Nat) (v : Value) : VoB w0 R G ob (.cells (cs.setIfInBounds i v) t fz) (W.setCell ⟨G, i, none⟩ v) := by
  have h1 := h.r0
  have h2 := h.rg
  exact ⟨h.src.grown (row := some G) (grown_set W G i v) (fun k hk => by injection hk with hk; omega), h.bel.setCell (p := ⟨G, i, none⟩) (by simp only []; omega) v, heap_setOther h.old (by omega) v, heap_set h.box v, h1, h2⟩
end
/-- Two rows of numbers of the call's own, in different blocks. -/
structure TwoR (B : Nat) (v1 : Value) (l1 : List Int) (v2 : Value) (l2 : List Int) (W : World) : Prop where
  o1 : W.ownsRow B 3 1 v1 l1.length (l1.map (Value.int .i64))
  o2 : W.ownsRow B 3 1 v2 l2.length (l2.map (Value.int .i64))
  ap : ∀ k, v1.ownBlock = some k → v2.ownBlock ≠ some k
section
variable {W W' : World} {B : Nat} {v1 v2 : Value} {l1 l2 : List Int}
theorem TwoR.swap (h : TwoR B v1 l1 v2 l2 W) : TwoR B v2 l2 v1 l1 W := ⟨h.o2, h.o1, fun k h1 h2 => h.ap k h2 h1⟩
theorem TwoR.below (h : TwoR B v1 l1 v2 l2 W) (hb : Below W.heap.size W W') : TwoR B v1 l1 v2 l2 W' := ⟨owns_later h.o1 hb, owns_later h.o2 hb, h.ap⟩
theorem TwoR.other {q : Nat} (h : TwoR B v1 l1 v2 l2 W) (hg : W.grownBy W' (some q)) (hq : q < B) : TwoR B v1 l1 v2 l2 W' :=
  ⟨h.o1.kept hg (.inr (fun e => by have := (h.o1.lt _ e).1; omega)), h.o2.kept hg (.inr (fun e => by have := (h.o2.lt _ e).1; omega)), h.ap⟩
theorem TwoR.push {g cap : Nat} {x : Int} (h : TwoR B v1 l1 v2 l2 W) (own : W'.ownsRow B 3 1 (.slice (some ⟨g, 0, none⟩) (l1.length + 1) cap) (l1.length + 1) (l1.map (Value.int .i64) ++ [.int .i64 x]))
    (hg : W.grownBy W' v1.ownBlock) (hat : v1.ownBlock = some g ∨ g = W.heap.size) : TwoR B (.slice (some ⟨g, 0, none⟩) (l1.length + 1) cap) (l1 ++ [x]) v2 l2 W' := by
  refine ⟨by simpa using own, h.o2.kept hg ?_, fun k hk h2 => ?_⟩
  · by_cases hn : v2.ownBlock = none
    · exact .inl hn
    · obtain ⟨k, hk⟩ := Option.ne_none_iff_exists'.1 hn
      exact .inr fun e => h.ap k (by rw [← e]; exact hk) hk
  · have hk' : g = k := by injection hk
    subst hk'
    rcases hat with h3 | h3
    · exact h.ap g h3 h2
    · have := (h.o2.lt _ h2).2
      omega
end

abbrev smallN (L : List Int) : Prop := ∀ x ∈ L, 0 ≤ x ∧ x ≤ 3
theorem small_wf {L : List Int} (h : smallN L) : ∀ x ∈ L, (Lit.int .i64 x).wf = true := fun x hx => WalkArith.wf_i64 (by have := h x hx; omega)
theorem small_push {L : List Int} {x : Int} (h : smallN L) (h0 : 0 ≤ x) (h1 : x ≤ 3) : smallN (L ++ [x]) := fun y hy => by
  rcases List.mem_append.1 hy with hy | hy
  · exact h y hy
  · rw [List.mem_singleton.1 hy]; exact ⟨h0, h1⟩
set_option maxRecDepth 100000 in
set_option maxHeartbeats 1000000 in
theorem opens_any (P : CusOk) (t s : Int) (X Y : List Int) (A A' : Option Addr) (c c' : Nat) (A0 : Option Addr) (n0 c0 : Nat) (w : World) (hc : n0 ≤ c0) (hA : IntsIn w.heap.size w A0 n0)
    (hX : NumsIn w.heap.size w A X) (hY : NumsIn w.heap.size w A' Y) (wX : ∀ x ∈ X, (Lit.int .i64 x).wf = true) (wY : ∀ x ∈ Y, (Lit.int .i64 x).wf = true) :
    Calls Try.prog 4 #[.agg #[.int .i64 t, .int .i64 s, .slice A X.length c, .slice A' Y.length c'], .slice A0 n0 c0] w fun e w' => e = .returned (.bool true) ∧ Below w.heap.size w w' := by
  have HP := hide P
  obtain ⟨W1, hW⟩ : ∃ W1 : World, w.alloc (votO t s A X.length c A' Y.length c') = W1 := ⟨_, rfl⟩
  have b1 : Below w.heap.size w W1 := by rw [← hW]; exact below_new (Below.refl _ _) _
  have hx : W1.heap[w.heap.size]? = some (votO t s A X.length c A' Y.length c') := by rw [← hW]; exact heap_alloc_new w _
  have z2 : W1.cell? ⟨w.heap.size, 2, none⟩ = some (.slice A X.length c) := by rw [Lib.cell_of_heap hx]; rfl
  have z3 := vot_3 hx
  have hz1 : W1.heap.size = w.heap.size + 1 := by rw [← hW, World.size_alloc]
  have HB1 := hide b1
  have HX1 := hide hx
  have HRX := hide (fun W (hb : Below w.heap.size w W) => hX.keep hb)
  have HRY := hide (fun W (hb : Below w.heap.size w W) => hY.keep hb)
  have HNew := hide (new_any A0 n0 c0 W1 hc (ints_below hA b1 (by omega)))
  have HWX := hide wX
  have HWY := hide wY
  have HZ1 := hide hz1
  clear P hA b1 hx hX hY wX wY hz1
  by_cases k1 : (60 : Int) < (X.length : Int)
  · go_enter Try.func4, Try.ntmps4
    go_wp2_with (go_at_call 19; refine (awake_cus (unhide HP) _).mono ?_; rintro e w2 ⟨rfl, hb2⟩; have HB2 := hide (onward (unhide HB1) hb2); clear hb2)
    go_ret
    exact ⟨rfl, unhide HB2⟩
  by_cases k4 : (60 : Int) < (Y.length : Int)
  · go_enter Try.func4, Try.ntmps4
    go_wp2_with (go_at_call 19; refine (awake_cus (unhide HP) _).mono ?_; rintro e w2 ⟨rfl, hb2⟩; have HB2 := hide (onward (unhide HB1) hb2); clear hb2)
    go_ret
    exact ⟨rfl, unhide HB2⟩
  have HSX := hide (show SmX X from ⟨by omega, unhide HWX⟩)
  have HSY := hide (show SmX Y from ⟨by omega, unhide HWY⟩)
  obtain ⟨i0, hi, hz0, hz1, hz2⟩ := info_parts linfo_int
  have HI0 := hide hi
  have HZ0 := hide hz0
  have HZE := hide hz1
  have HZ2 := hide hz2
  clear hi hz0 hz1 hz2
  go_enter Try.func4, Try.ntmps4
  go_wp2_with fail
  refine (unhide HNew).mono ?_
  rintro e w2 ⟨rfl, hs2, hb2⟩
  obtain ⟨R, hR⟩ : ∃ R, W1.heap.size = R := ⟨_, rfl⟩
  rw [hR] at hs2 HZ1 ⊢
  have HB2 := hide (onward (unhide HB1) hb2)
  have HX2 := hide (heap_below (unhide HX1) hb2)
  have HS2 := hide hs2
  clear hR hb2 HB1 HX1 z2 z3 k1 k4 hs2
  go_wp2_with fail
  refine (n_any R R 4 _ (unhide HS2) (by omega) (by omega)).mono ?_
  rintro e w3 ⟨v0, rfl, a0, a1, hs3, hg3⟩
  have HB3 := hide (below_reads (unhide HB2) hg3 (by have := unhide HZ1; omega) (unhide HB2).size)
  have HX3 := hide (heap_reads (unhide HX2) hg3 (by have := unhide HZ1; omega))
  have HS3 := hide hs3
  clear hs3 hg3 HB2 HX2 HS2
  go_wp2_with fail
  refine (n_any R R 4 _ (unhide HS3) (by omega) (by omega)).mono ?_
  rintro e w4 ⟨v1, rfl, d0, d1, hs4, hg4⟩
  have HB4 := hide (below_reads (unhide HB3) hg4 (by have := unhide HZ1; omega) (unhide HB3).size)
  have HX4 := hide (heap_reads (unhide HX3) hg4 (by have := unhide HZ1; omega))
  have b5 := (Below.refl w4.heap.size w4).alloc (Nat.le_refl _) (votO v0 v1 none 0 0 none 0 0)
  have HV5 := hide (show VoB w R w4.heap.size (votO t s A X.length c A' Y.length c') (votO v0 v1 none 0 0 none 0 0) (w4.alloc (votO v0 v1 none 0 0 none 0 0)) from
    ⟨hs4.keep b5, onward (unhide HB4) b5, heap_below (unhide HX4) b5, heap_alloc_new w4 _, by have := unhide HZ1; omega, hs4.lt⟩)
  clear hs4 hg4 HB3 HX3 HS3 HB4 HX4 b5
  go_wp2_with fail
  refine (n_any R R 4 _ (unhide HV5).src (by omega) (by omega)).mono ?_
  rintro e w6 ⟨v2, rfl, e0, e1, hs6, hg6⟩
  have HV6 := hide ((unhide HV5).reads hs6 hg6)
  clear hs6 hg6 HV5
  obtain ⟨m0, rfl⟩ := Int.eq_ofNat_of_zero_le e0
  obtain ⟨G, hG⟩ : ∃ G, w4.heap.size = G := ⟨_, rfl⟩
  rw [hG] at HV6 ⊢
  clear hG
  have hm3 : m0 ≤ 3 := by omega
  have HS6 := hide (show VoB w R G (votO t s A X.length c A' Y.length c') (votO v0 v1 none ([] : List Int).length 0 none ([] : List Int).length 0) w6 ∧ TwoR (G + 1) (.slice none ([] : List Int).length 0) [] (.slice none ([] : List Int).length 0) [] w6 ∧ smallN [] ∧ smallN [] from
    ⟨unhide HV6, ⟨World.ownsRow_nil _ _ _ _, World.ownsRow_nil _ _ _ _, fun k hk => by cases hk⟩, (fun x hx => by cases hx), (fun x hx => by cases hx)⟩)
  clear HV6 e0 e1
  go_wp2_with fail
  go_loopw [7] (fun iv wr => ∃ (i : Nat) (L M : List Int) (B B' : Option Addr) (d d' : Nat), L.length + i ≤ 3 ∧ M.length + i ≤ 3 ∧ iv = .int .i64 i ∧ Hid (VoB w R G (votO t s A X.length c A' Y.length c') (votO v0 v1 B L.length d B' M.length d') wr ∧ TwoR (G + 1) (.slice B L.length d) L (.slice B' M.length d') M wr ∧ smallN L ∧ smallN M)) (fun iv _ => (intOf iv).toNat)
  case atStart => exact ⟨m0, [], [], none, none, 0, 0, by simpa using hm3, by simpa using hm3, rfl, HS6⟩
  case round =>
    obtain ⟨i, L, M, B, B', d, d', hL, hM, rfl, HO⟩ := hrel
    obtain ⟨wo, rfl⟩ : ∃ wo : World, wo = wr := ⟨_, rfl⟩
    clear HS6 hm3
    by_cases hlt : 0 < i
    · have il : (0 : Int) < (i : Int) := by omega
      go_upto_region 8 with fail
      refine wp_region_anyW [13, 14, 15] (fun Z => Z.heap[G]? = some (votO v0 v1 B L.length d B' M.length d')) (by kernel_rfl) ?_
      have HV := hide ((unhide HO).1.below (Below.refl wo.heap.size wo).drew)
      have HT := hide ((unhide HO).2.1.below (Below.refl wo.heap.size wo).drew)
      have HSm := hide (unhide HO).2.2
      clear HO
      refine anyW_take (i := 0) (v := .pointer (some ⟨G, 2, none⟩)) rfl (by kernel_rfl) (by kernel_rfl) (by kernel_rfl) (by kernel_rfl) (fun _ _ _ h => h) (Or.inl ⟨by rfl, by intro w _; go_simp⟩) (unhide HV).box ?_
      refine anyW_take (i := 1) (v := .slice B L.length d) rfl (by kernel_rfl) (by kernel_rfl) (by kernel_rfl) (by kernel_rfl) (fun _ _ _ h => h) (Or.inl ⟨by rfl, by intro Z hs; have h9 : Z.cell? ⟨G, 2, none⟩ = some (.slice B L.length d) := (by rw [Lib.cell_of_heap hs]; rfl); go_simp⟩) (unhide HV).box ?_
      refine anyW_take (i := 2) (v := .pointer (some ⟨R, 0, none⟩)) rfl (by kernel_rfl) (by kernel_rfl) (by kernel_rfl) (by kernel_rfl) (fun _ _ _ h => h) (Or.inl ⟨by rfl, by intro w _; go_simp⟩) (unhide HV).box ?_
      refine anyW_take (i := 6) (v := .pointer (some ⟨G, 3, none⟩)) rfl (by kernel_rfl) (by kernel_rfl) (by kernel_rfl) (by kernel_rfl) (fun _ _ _ h => h) (Or.inl ⟨by rfl, by intro w _; go_simp⟩) (unhide HV).box ?_
      go_simp
      refine anyW_take (i := 7) (v := .slice B' M.length d') rfl (by kernel_rfl) (by kernel_rfl) (by kernel_rfl) (by kernel_rfl) (fun _ _ _ h => h) (Or.inl ⟨by rfl, by intro Z hs; have h9 : Z.cell? ⟨G, 3, none⟩ = some (.slice B' M.length d') := (by rw [Lib.cell_of_heap hs]; rfl); go_simp⟩) (unhide HV).box ?_
      refine anyW_free (i := 8) (v := .pointer (some ⟨R, 0, none⟩)) rfl (by kernel_rfl) (by kernel_rfl) (by kernel_rfl) (fun _ _ _ h => h) (Or.inl ⟨by rfl, by intro w _; go_simp⟩) ?_
      go_simp
      refine anyW_one (i := 3) (by kernel_rfl) rfl (fun K hK => ?_)
      go_simp
      go_at_call 10
      refine (n_any R R 4 _ (unhide HV).src (by omega) (by omega)).mono ?_
      rintro e wa ⟨x, rfl, lx, ux, hs, hg⟩
      try go_simp
      have HVa := hide ((unhide HV).reads hs hg)
      have HTa := hide ((unhide HT).other hg (by have := (unhide HV).rg; omega))
      refine hK _ _ ⟨fun _ => (unhide HVa).box, ?_⟩
      clear hK K hs hg
      refine anyW_one (i := 4) (by kernel_rfl) rfl (fun K hK => ?_)
      go_simp
      have bx := (Below.refl wa.heap.size wa).alloc (Nat.le_refl _) (.cells #[.int .i64 x] 3)
      have HVb := hide ((unhide HVa).below bx)
      have HTb := hide ((unhide HTa).below bx)
      have HN5 := hide (World.news_of_block (heap_alloc_new wa (.cells #[.int .i64 x] 3)))
      refine hK _ _ ⟨fun _ => (unhide HVb).box, ?_⟩
      clear hK K bx
      refine anyW_one (i := 5) (by kernel_rfl) rfl (fun K hK => ?_)
      rw [if_pos (by rfl)]
      refine wp_append_lies _ _ _ 22 rfl (G + 1) 3 i0 (.int .i64 0) 1 8 Try.underlying22 (unhide HI0) (unhide HZ0) (unhide HZE) (unhide HZ2) rfl (by decide) _ _ _ rfl (unhide HTb).o1 ⟨wa.heap.size, 0, none⟩ 1 1 [.int .i64 x] rfl rfl (unhide HN5) (fun u hu => by rw [List.mem_singleton.1 hu]; rfl) (by decide) (by unfold maxLen; omega) (by omega) (by have := (unhide HVb).szG; omega) _ rfl ?_
      intro g5 q5 wp5 hown hgrow hat hlt6
      have HVc := hide ((unhide HVb).grown hgrow (fun k hk => ((unhide HTb).o1.lt k hk).1))
      have HTc := hide ((unhide HTb).push hown hgrow hat)
      refine hK _ _ ⟨fun _ => (unhide HVc).box, ?_⟩
      clear hK K hown hgrow hat hlt6
      go_simp
      refine anyW_free (i := 12) (v := .pointer (some ⟨G, 2, none⟩)) rfl (by kernel_rfl) (by kernel_rfl) (by kernel_rfl) (fun _ _ _ h => h) (Or.inl ⟨by rfl, by intro w _; go_simp⟩) ?_
      go_simp
      refine anyW_one (i := 9) (by kernel_rfl) rfl (fun K hK => ?_)
      go_simp
      go_at_call 10
      refine (n_any R R 4 _ (unhide HVc).src (by omega) (by omega)).mono ?_
      rintro e wd ⟨y, rfl, ly, uy, hs, hg⟩
      try go_simp
      have HVca := hide ((unhide HVc).reads hs hg)
      have HTca := hide ((unhide HTc).other hg (by have := (unhide HVc).rg; omega))
      refine hK _ _ ⟨fun _ => (unhide HVca).box, ?_⟩
      clear hK K hs hg
      refine anyW_one (i := 10) (by kernel_rfl) rfl (fun K hK => ?_)
      go_simp
      have bx := (Below.refl wd.heap.size wd).alloc (Nat.le_refl _) (.cells #[.int .i64 y] 3)
      have HVcb := hide ((unhide HVca).below bx)
      have HTcb := hide ((unhide HTca).below bx)
      have HN11 := hide (World.news_of_block (heap_alloc_new wd (.cells #[.int .i64 y] 3)))
      refine hK _ _ ⟨fun _ => (unhide HVcb).box, ?_⟩
      clear hK K bx
      refine anyW_one (i := 11) (by kernel_rfl) rfl (fun K hK => ?_)
      rw [if_pos (by rfl)]
      refine wp_append_lies _ _ _ 22 rfl (G + 1) 3 i0 (.int .i64 0) 1 8 Try.underlying22 (unhide HI0) (unhide HZ0) (unhide HZE) (unhide HZ2) rfl (by decide) _ _ _ rfl (unhide HTcb).o2 ⟨wd.heap.size, 0, none⟩ 1 1 [.int .i64 y] rfl rfl (unhide HN11) (fun u hu => by rw [List.mem_singleton.1 hu]; rfl) (by decide) (by unfold maxLen; omega) (by omega) (by have := (unhide HVcb).szG; omega) _ rfl ?_
      intro g11 q11 wp11 hown hgrow hat hlt6
      have HVd := hide ((unhide HVcb).grown hgrow (fun k hk => ((unhide HTcb).o2.lt k hk).1))
      have HTd := hide ((unhide HTcb).swap.push hown hgrow hat).swap
      refine hK _ _ ⟨fun _ => (unhide HVd).box, ?_⟩
      clear hK K hown hgrow hat hlt6
      go_simp
      refine anyW_one (i := 13) (by kernel_rfl) rfl (fun K hK => ?_)
      have cz2 : wp11.cell? ⟨G, 2, none⟩ = some (.slice B L.length d) := by rw [Lib.cell_of_heap (unhide HVd).box]; rfl
      have fz2 : wp11.frozen? ⟨G, 2, none⟩ = false := frozen_of_row wp11 G 2 _ _ (unhide HVd).box
      go_simp
      have HVe := hide ((unhide HVd).cell 2 (.slice (some ⟨g5, 0, none⟩) (L.length + 1) q5))
      have HTe := hide ((unhide HTd).other (grown_set wp11 G 2 (.slice (some ⟨g5, 0, none⟩) (L.length + 1) q5)) (Nat.lt_succ_self G))
      refine hK _ _ ⟨fun h => absurd (by decide) h, ?_⟩
      clear hK K cz2 fz2
      obtain ⟨we, hwe⟩ : ∃ we : World, wp11.setCell ⟨G, 2, none⟩ (.slice (some ⟨g5, 0, none⟩) (L.length + 1) q5) = we := ⟨_, rfl⟩
      rw [hwe] at HVe HTe ⊢
      clear hwe
      refine anyW_free (i := 14) (v := .pointer (some ⟨G, 3, none⟩)) rfl (by kernel_rfl) (by kernel_rfl) (by kernel_rfl) (fun _ _ _ h => h) (Or.inl ⟨by rfl, by intro w _; go_simp⟩) ?_
      go_simp
      refine anyW_one (i := 15) (by kernel_rfl) rfl (fun K hK => ?_)
      have cz3 : we.cell? ⟨G, 3, none⟩ = some (.slice B' M.length d') := by rw [Lib.cell_of_heap (unhide HVe).box]; rfl
      have fz3 : we.frozen? ⟨G, 3, none⟩ = false := frozen_of_row we G 3 _ _ (unhide HVe).box
      go_simp
      have HVf := hide ((unhide HVe).cell 3 (.slice (some ⟨g11, 0, none⟩) (M.length + 1) q11))
      have HTf := hide ((unhide HTe).other (grown_set we G 3 (.slice (some ⟨g11, 0, none⟩) (M.length + 1) q11)) (Nat.lt_succ_self G))
      refine hK _ _ ⟨fun h => absurd (by decide) h, ?_⟩
      clear hK K cz3 fz3
      refine anyW_done (by kernel_rfl) ?_ _
      go_simp
      go_wp2
      go_roundw
      case rel => exact ⟨i - 1, L ++ [x], M ++ [y], some ⟨g5, 0, none⟩, some ⟨g11, 0, none⟩, q5, q11, by rw [List.length_append]; simp; omega, by rw [List.length_append]; simp; omega, by rw [show ((i - 1 : Nat) : Int) = (i : Int) - 1 by omega], hide ⟨by rw [List.length_append, List.length_append]; exact unhide HVf, by rw [List.length_append, List.length_append]; exact unhide HTf, small_push (unhide HSm).1 lx (by omega), small_push (unhide HSm).2 ly (by omega)⟩⟩
      case measure => simp [intOf]; omega
    · have il : ¬ (0 : Int) < (i : Int) := by omega
      have HV := hide (unhide HO).1
      have HT := hide (unhide HO).2.1
      have HSm := hide (unhide HO).2.2
      clear HO
      go_wp2_with (first
        | (refine wpList_loadVt (unhide HV).old rfl _ rfl rfl ?_)
        | (refine wpList_loadVt (unhide HV).box rfl _ rfl rfl ?_))
      obtain ⟨W9, hW9⟩ : ∃ W9 : World, wo.alloc (.cells (vot8 t s A X.length c A' Y.length c' v0 v1 B L.length d B' M.length d') 40) = W9 := ⟨_, rfl⟩
      have b9 := (Below.refl wo.heap.size wo).alloc (Nat.le_refl _) (.cells (vot8 t s A X.length c A' Y.length c' v0 v1 B L.length d B' M.length d') 40)
      have hx9 := heap_alloc_new wo (.cells (vot8 t s A X.length c A' Y.length c' v0 v1 B L.length d B' M.length d') 40)
      rw [hW9] at b9 hx9 ⊢
      obtain ⟨H, hH⟩ : ∃ H, wo.heap.size = H := ⟨_, rfl⟩
      have HNL := hide ((nums_own (unhide HT).o1 (b := w.heap.size) (.inl (by have h1 := (unhide HV).r0; have h2 := (unhide HV).rg; omega))).keep b9)
      have HNM := hide ((nums_own (unhide HT).o2 (b := w.heap.size) (.inl (by have h1 := (unhide HV).r0; have h2 := (unhide HV).rg; omega))).keep b9)
      have HB9 := hide (onward (unhide HV).bel b9)
      rw [hH] at hx9 ⊢
      have HX9 := hide hx9
      have HSL := hide (show SmX L from ⟨by omega, small_wf (unhide HSm).1⟩)
      have HSM := hide (show SmX M from ⟨by omega, small_wf (unhide HSm).2⟩)
      clear hW9 b9 hx9 hH HT HV HSm hL hM
      go_loopw [56] (fun kv wr => ∃ k : Nat, k ≤ 2 ∧ kv = .int .i64 k ∧ Hid (Below W9.heap.size W9 wr)) (fun kv _ => 2 - (intOf kv).toNat)
      case atStart => exact ⟨0, by omega, rfl, hide (Below.refl _ _)⟩
      case round =>
        obtain ⟨k, hk, rfl, HBk⟩ := hrel
        obtain ⟨wk, rfl⟩ : ∃ wk : World, wk = wr := ⟨_, rfl⟩
        by_cases hlt2 : k < 2
        · have kl : (k : Int) < 2 := by omega
          have k0 : (0 : Int) ≤ (k : Int) := by omega
          have hxk := heap_below (unhide HX9) (unhide HBk)
          have HBw := hide (onward (unhide HB9) (unhide HBk))
          have HG : ∃ (t1 s1 : Int) (X1 Y1 : List Int) (A1 A1' : Option Addr) (c1 c1' : Nat), Hid (∀ j u, (votA t1 s1 A1 X1.length c1 A1' Y1.length c1')[j]? = some u → wk.cell? ⟨H, k * 4 + j, none⟩ = some u) ∧ Hid (SmX X1 ∧ SmX Y1 ∧ NumsIn w.heap.size wk A1 X1 ∧ NumsIn w.heap.size wk A1' Y1) := by
            have hk2 : k = 0 ∨ k = 1 := by omega
            rcases hk2 with rfl | rfl
            · refine ⟨t, s, X, Y, A, A', c, c', hide (fun j u hu => ?_), hide ⟨unhide HSX, unhide HSY, unhide HRX _ (unhide HBw), unhide HRY _ (unhide HBw)⟩⟩
              rw [Lib.cell_of_heap hxk]
              have hj : j < 4 := (Array.getElem?_eq_some_iff.1 hu).1
              have : j = 0 ∨ j = 1 ∨ j = 2 ∨ j = 3 := by omega
              rcases this with rfl | rfl | rfl | rfl <;> exact hu
            · refine ⟨v0, v1, L, M, B, B', d, d', hide (fun j u hu => ?_), hide ⟨unhide HSL, unhide HSM, (unhide HNL).keep (unhide HBk), (unhide HNM).keep (unhide HBk)⟩⟩
              rw [Lib.cell_of_heap hxk]
              have hj : j < 4 := (Array.getElem?_eq_some_iff.1 hu).1
              have : j = 0 ∨ j = 1 ∨ j = 2 ∨ j = 3 := by omega
              rcases this with rfl | rfl | rfl | rfl <;> exact hu
          obtain ⟨t1, s1, X1, Y1, A1, A1', c1, c1', HC1, HK1⟩ := HG
          obtain ⟨W2, hW2⟩ : ∃ W2 : World, wk.alloc (votO t1 s1 A1 X1.length c1 A1' Y1.length c1') = W2 := ⟨_, rfl⟩
          have b2 := (Below.refl wk.heap.size wk).alloc (Nat.le_refl _) (votO t1 s1 A1 X1.length c1 A1' Y1.length c1')
          have hx2 := heap_alloc_new wk (votO t1 s1 A1 X1.length c1 A1' Y1.length c1')
          rw [hW2] at b2 hx2
          have HX2 := hide hx2
          have HB2 := hide b2
          have HO1 := hide ((unhide HP).openv w.heap.size t1 s1 X1 Y1 A1 A1' c1 c1' W2 (unhide HK1).1 (unhide HK1).2.1 ((unhide HK1).2.2.1.keep b2) ((unhide HK1).2.2.2.keep b2))
          have HO2 := hide (fun W (hb : Below W2.heap.size W2 W) => ropen_any w.heap.size t1 s1 X1 Y1 A1 A1' c1 c1' W (unhide HK1).1 (unhide HK1).2.1 (((unhide HK1).2.2.1.keep b2).keep hb) (((unhide HK1).2.2.2.keep b2).keep hb))
          obtain ⟨r1, hr1⟩ : ∃ r1, openB t1 s1 X1 Y1 = r1 := ⟨_, rfl⟩
          obtain ⟨r2, hr2⟩ : ∃ r2, openF t1 s1 X1 Y1 = r2 := ⟨_, rfl⟩
          rw [hr1, hr2] at HO1 HO2
          have HO1 := hide (unhide HO1)
          have HO2 := hide (unhide HO2)
          clear b2 hx2 hr1 hr2 hxk
          go_wp2_with (first
            | (refine wpList_load_at rfl _ _ rfl H (k * 4) rfl (votA t1 s1 A1 X1.length c1 A1' Y1.length c1') _ (unhide HC1) Try.underlying40 rfl infoVt ?_)
            | (refine wpList_storeVt_new rfl rfl _ _ rfl rfl rfl rfl ?_; rw [hW2])
            | (with_reducible show wpList _ _ _ _ _ W2; refine wpList_loadVt (unhide HX2) rfl _ rfl rfl ?_)
            | (go_at_call 20; refine (unhide HO1).mono ?_; rintro e w3 ⟨rfl, hb3⟩; have HB3 := hide hb3; have HX3 := hide (heap_below (unhide HX2) hb3); clear hb3)
            | (with_reducible show wpList _ _ _ _ _ w3; refine wpList_loadVt (unhide HX3) rfl _ rfl rfl ?_)
            | (go_at_call 21; refine (unhide HO2 _ (unhide HB3)).mono ?_; rintro e w4 ⟨rfl, hb4⟩; have HB4 := hide (onward (onward (onward (unhide HBk) (unhide HB2)) (unhide HB3)) hb4); clear hb4))
          go_roundw
          case rel => exact ⟨k + 1, by omega, by go_num, HB4⟩
          case measure => simp [intOf]; omega
        · have kl : ¬ (k : Int) < 2 := by omega
          go_wp2_with (go_at_call 19; refine (awake_cus (unhide HP) _).mono ?_; rintro e wz ⟨rfl, hbz⟩; have HBZ := hide (onward (onward (unhide HB9) (unhide HBk)) hbz); clear hbz)
          go_ret
          exact ⟨rfl, unhide HBZ⟩
end Go.Proofs.Ytbjpcajhceapkaa
