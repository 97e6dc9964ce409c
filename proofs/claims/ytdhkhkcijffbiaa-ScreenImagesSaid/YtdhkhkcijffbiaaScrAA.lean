/-
  Screening (layer 15): the program's Alarms: its walk.
-/
import Derived.Test.YtdhkhkcijffbiaaScrZ
namespace Go.Proofs.Ytdhkhkcijffbiaa
open Go.RowKit

/-- Alarms under way: the screening's box, the alarms in a row of the call's own. -/
structure AlS (w : World) (s : Scr) (A : Option Addr) (c : Nat) (l : List Al) (A' : Option Addr) (c' : Nat) (W : World) : Prop where
  bel : Below w.heap.size w W
  box : W.heap[w.heap.size]? = some (scrO s A c)
  own : W.ownsRow (w.heap.size + 1) 72 4 (.slice A' l.length c') l.length (l.flatMap Al.cs)
section
variable {w W W' : World} {s : Scr} {A A' : Option Addr} {c c' : Nat} {l : List Al}
theorem AlS.below (h : AlS w s A c l A' c' W) (hb : Below W.heap.size W W') : AlS w s A c l A' c' W' := ⟨onward h.bel hb, heap_below h.box hb, owns_later h.own hb⟩
theorem AlS.lt (h : AlS w s A c l A' c' W) : w.heap.size + 1 ≤ W.heap.size := (Array.getElem?_eq_some_iff.1 h.box).1
theorem AlS.push {q cap : Nat} {x : Al} (h : AlS w s A c l A' c' W) (hown : W'.ownsRow (w.heap.size + 1) 72 4 (.slice (some ⟨q, 0, none⟩) (l.length + 1) cap) (l.length + 1) (l.flatMap Al.cs ++ x.cs)) (hg : W.grownBy W' (Value.slice A' l.length c').ownBlock) :
    AlS w s A c (l ++ [x]) (some ⟨q, 0, none⟩) cap W' := by
  have hlt := h.lt
  refine ⟨h.bel.grown hg h.bel.size (fun k e => by have := (h.own.lt k e).1; omega), (hg.block _ (by omega) (fun e => by have := (h.own.lt _ e.symm).1; omega)).trans h.box, ?_⟩
  rw [List.length_append, List.length_singleton, List.flatMap_append]
  simpa using hown
end

theorem _root_.Go.RowKit.Below.trans2 {n : Nat} {a w w' : World} (h : Below n a w) (h' : Below (n + 1) w w') : Below n a w' :=
  ⟨h'.os.trans h.os, h'.tape.trans h.tape, h'.output.trans h.output, Nat.le_trans h.size h'.size, fun k hk => (h'.block k (by omega)).trans (h.block k hk)⟩
set_option maxHeartbeats 4000000 in
set_option maxRecDepth 100000 in
theorem palarms_any (b : Nat) (s : Scr) (A : Option Addr) (c : Nat) (w : World) (hv : ValS s) (hd : ImD s) (h : CksIn b w A s.l) :
    Calls Try.prog 27 #[scrV s A c] w fun e w' => ∃ A c, e = .returned (.slice A (alL s).length c) ∧ (∀ b, b < w.heap.size → AlsIn b w' A (alL s)) ∧ Below w.heap.size w w' := by
  have z5 : (w.alloc (scrO s A c)).cell? ⟨w.heap.size, 5, none⟩ = some (.slice A s.l.length c) := by rw [Lib.cell_of_heap (heap_alloc_new w _)]; rfl
  have HB := hide (show AlS w s A c (pend s 0) none 0 (w.alloc (scrO s A c)) from ⟨(Below.refl w.heap.size w).alloc (Nat.le_refl _) (scrO s A c), heap_alloc_new w _, World.ownsRow_nil _ _ _ _⟩)
  have HV := hide hv
  have HD := hide hd
  have HL := hide h
  obtain ⟨i0, hi, hz0, hz1, hz2⟩ := info_parts linfo_al
  have HI0 := hide hi
  have HZ0 := hide hz0
  have HZ1 := hide hz1
  have HZ2 := hide hz2
  clear hv h hd hi hz0 hz1 hz2
  go_enter Try.func27, Try.ntmps27
  go_wp2
  go_loopw [3, 9] (fun s3 s9 wr => ∃ (k : Nat) (A' : Option Addr) (c' : Nat), k ≤ s.l.length ∧ s3 = .slice A' (pend s k).length c' ∧ s9 = .int .i64 k ∧ Hid (AlS w s A c (pend s k) A' c' wr)) (fun _ s9 _ => s.l.length - (intOf s9).toNat)
  case atStart => exact ⟨0, none, 0, Nat.zero_le _, rfl, rfl, HB⟩
  case round =>
    obtain ⟨k, A', c', hk, rfl, rfl, HP⟩ := hrel
    obtain ⟨wo, rfl⟩ : ∃ wo : World, wo = wr := ⟨_, rfl⟩
    clear HB z5
    have hz40 := (unhide HV).len
    have hlk := pend_len s k
    by_cases hlt : k < s.l.length
    · have kl : (k : Int) < (s.l.length : Int) := by omega
      have k0 : (0 : Int) ≤ (k : Int) := by omega
      obtain ⟨g, off, rfl, _, hc⟩ := ck_at ((unhide HL).keep (unhide HP).bel) hlt
      obtain ⟨x, hx⟩ : ∃ x, s.l.getD k ck0 = x := ⟨_, rfl⟩
      rw [hx] at hc
      have HOK := hide (show okC s.next x from hx ▸ (unhide HV).ok _ (getD_mem hlt))
      have HST := hide (pend_step hlt hx)
      have HC := hide hc
      have HLT := hide hlt
      clear hc hx hlt
      obtain ⟨w1, hw1⟩ : ∃ w1 : World, wo.alloc (.cells x.arr 42) = w1 := ⟨_, rfl⟩
      have HXB := hide (show w1.heap[wo.heap.size]? = some (.cells x.arr 42) by rw [← hw1]; exact heap_alloc_new wo _)
      have HP1 := hide (show AlS w s (some ⟨g, off, none⟩) c (pend s k) A' c' w1 by rw [← hw1]; exact (unhide HP).below ((Below.refl wo.heap.size wo).alloc (Nat.le_refl _) _))
      have HOL := hide (show ∀ q, (Value.slice A' (pend s k).length c').ownBlock = some q → q < wo.heap.size from fun q e => ((unhide HP).own.lt q e).2)
      have p4 : w1.cell? ⟨wo.heap.size, 4, none⟩ = some (.int .i64 x.st) := by rw [Lib.cell_of_heap (unhide HXB)]; rfl
      by_cases hp : x.st = 1
      · have tp : (x.st == 1) = true := by rw [beq_iff_eq]; exact hp
        have HE := hide (show pend s (k + 1) = pend s k ++ [alOf s x] by rw [unhide HST, if_pos hp])
        clear hp
        go_upto_region 6 with (first
          | (refine wpList_load_at rfl _ _ rfl g (off + k * 5) rfl x.arr _ (unhide HC) Try.underlying42 rfl infoC ?_)
          | (refine wpList_storeC_new rfl x rfl _ _ rfl rfl rfl rfl ?_))
        try rw [hw1]
        have HS := hide (show w1.drew.heap[w.heap.size]? = some (scrO s (some ⟨g, off, none⟩) c) ∧ w1.drew.heap[wo.heap.size]? = some (.cells x.arr 42) from ⟨(unhide HP1).box, unhide HXB⟩)
        clear p4
        refine wp_region_held (S := fun Z => Z.heap[w.heap.size]? = some (scrO s (some ⟨g, off, none⟩) c) ∧ Z.heap[wo.heap.size]? = some (.cells x.arr 42 (0, 0))) (by kernel_rfl) ?_
        refine wpAnyH_take (i := 0) (v := .slice A' (pend s k).length c') rfl (by kernel_rfl) (by kernel_rfl) (by kernel_rfl) (fun _ _ _ h => h) (Or.inl ⟨by rfl, by intro Z _; go_simp⟩) (unhide HS) ?_
        refine wpAnyH_take (i := 1) (v := .pointer (some ⟨wo.heap.size, 3, none⟩)) rfl (by kernel_rfl) (by kernel_rfl) (by kernel_rfl) (fun _ _ _ h => h) (Or.inl ⟨by rfl, by intro Z _; go_simp⟩) (unhide HS) ?_
        refine wpAnyH_take (i := 2) (v := .int .i64 x.im) rfl (by kernel_rfl) (by kernel_rfl) (by kernel_rfl) (fun _ _ _ h => h) (Or.inl ⟨by rfl, by intro Z hs; have h9 : Z.cell? ⟨wo.heap.size, 3, none⟩ = some (.int .i64 x.im) := (by rw [Lib.cell_of_heap hs.2]; rfl); go_simp⟩) (unhide HS) ?_
        go_simp
        refine wpAnyH_take (i := 3) (v := .pointer (some ⟨wo.heap.size, 0, none⟩)) rfl (by kernel_rfl) (by kernel_rfl) (by kernel_rfl) (fun _ _ _ h => h) (Or.inl ⟨by rfl, by intro Z _; go_simp⟩) (unhide HS) ?_
        refine wpAnyH_take (i := 4) (v := .int .i64 x.bag) rfl (by kernel_rfl) (by kernel_rfl) (by kernel_rfl) (fun _ _ _ h => h) (Or.inl ⟨by rfl, by intro Z hs; have h9 : Z.cell? ⟨wo.heap.size, 0, none⟩ = some (.int .i64 x.bag) := (by rw [Lib.cell_of_heap hs.2]; rfl); go_simp⟩) (unhide HS) ?_
        refine wpAnyH_take (i := 5) (v := .pointer (some ⟨wo.heap.size, 1, none⟩)) rfl (by kernel_rfl) (by kernel_rfl) (by kernel_rfl) (fun _ _ _ h => h) (Or.inl ⟨by rfl, by intro Z _; go_simp⟩) (unhide HS) ?_
        go_simp
        refine wpAnyH_take (i := 6) (v := .int .i64 x.lv) rfl (by kernel_rfl) (by kernel_rfl) (by kernel_rfl) (fun _ _ _ h => h) (Or.inl ⟨by rfl, by intro Z hs; have h9 : Z.cell? ⟨wo.heap.size, 1, none⟩ = some (.int .i64 x.lv) := (by rw [Lib.cell_of_heap hs.2]; rfl); go_simp⟩) (unhide HS) ?_
        refine wpAnyH_take (i := 7) (v := scrV s (some ⟨g, off, none⟩) c) rfl (by kernel_rfl) (by kernel_rfl) (by kernel_rfl) (fun _ _ _ h => h) (yields_loadSc _ rfl rfl rfl (fun _ h => h.1)) (unhide HS) ?_
        refine wpAnyH_take (i := 8) (v := x.v) rfl (by kernel_rfl) (by kernel_rfl) (by kernel_rfl) (fun _ _ _ h => h) (yields_loadC _ rfl rfl rfl (fun _ h => h.2)) (unhide HS) ?_
        go_simp
        refine wpAnyH_one (i := 9) (by kernel_rfl) rfl (fun K hK => ?_)
        go_simp
        go_at_call 37
        refine (pdeadline_any s x (some ⟨g, off, none⟩) c _ (unhide HV).lim (unhide HOK).2.1 (unhide HOK).2.2.1).mono ?_
        rintro e w2 ⟨rfl, hb2⟩
        try go_simp
        have hb12 := onward (Below.refl _ w1).drew hb2
        have HP2 := hide ((unhide HP1).below hb12)
        have HXB2 := hide (heap_below (unhide HXB) hb12)
        clear hb2 hb12 HS
        refine hK _ _ ⟨⟨(unhide HP2).box, unhide HXB2⟩, ?_⟩
        clear hK K
        refine wpAnyH_take (i := 10) (v := .agg #[.int .i64 x.im, .int .i64 x.bag, .int .i64 x.lv, .int .i64 (dlF s x)]) rfl (by kernel_rfl) (by kernel_rfl) (by kernel_rfl) (fun _ _ _ h => h) (Or.inl ⟨by rfl, by intro Z _; go_simp⟩) ⟨(unhide HP2).box, unhide HXB2⟩ ?_
        go_simp
        refine wpAnyH_one (i := 11) (by kernel_rfl) rfl (fun K hK => ?_)
        rw [if_pos (by rfl)]
        refine wp_build1 48 72 _ rfl (alOf s x).arr i0 (.agg #[.int .i64 0, .int .i64 0, .int .i64 0, .int .i64 0]) 4 Try.underlying48 (unhide HI0) (unhide HZ0) (unhide HZ1) (by decide) (by decide) rfl rfl rfl ?_
        have b3 := (Below.refl w2.heap.size w2).alloc (Nat.le_refl _) (.cells (alOf s x).arr 72)
        have HP3 := hide ((unhide HP2).below b3)
        have HXB3 := hide (heap_below (unhide HXB2) b3)
        have HN := hide (World.news_of_block (heap_alloc_new w2 (.cells (alOf s x).arr 72)))
        have hz3 := Nat.le_trans (unhide HP2).lt b3.size
        clear b3
        refine hK _ _ ⟨⟨(unhide HP3).box, unhide HXB3⟩, ?_⟩
        clear hK K
        go_simp
        refine wpAnyH_one (i := 12) (by kernel_rfl) rfl (fun K hK => ?_)
        rw [if_pos (by rfl)]
        refine wp_append_lies _ _ _ 48 rfl (w.heap.size + 1) 72 i0 (.agg #[.int .i64 0, .int .i64 0, .int .i64 0, .int .i64 0]) 4 32 Try.underlying48 (unhide HI0) (unhide HZ0) (unhide HZ1) (unhide HZ2) rfl (by decide) _ _ _ rfl (unhide HP3).own ⟨w2.heap.size, 0, none⟩ 1 1 (alOf s x).cs rfl rfl (unhide HN) (fun u hu => al_one (l := [alOf s x]) u (by simpa using hu)) (by decide) (by unfold maxLen; omega) (by omega) hz3 _ rfl ?_
        intro q cap' w4 hown hgrow hat hlt4
        have HP4 := hide ((unhide HP3).push hown hgrow)
        have hx4 : w4.heap[wo.heap.size]? = some (.cells x.arr 42) := (hgrow.block _ (Array.getElem?_eq_some_iff.1 (unhide HXB3)).1 (fun e => by have := unhide HOL _ e.symm; omega)).trans (unhide HXB3)
        refine hK _ _ ⟨⟨(unhide HP4).box, hx4⟩, ?_⟩
        clear hK K hown hgrow hat hlt4
        refine wpAnyH_take (i := 13) (v := .slice (some ⟨q, 0, none⟩) ((pend s k).length + 1) cap') rfl (by kernel_rfl) (by kernel_rfl) (by kernel_rfl) (fun _ _ _ h => h) (Or.inl ⟨by rfl, by intro Z _; go_simp⟩) ⟨(unhide HP4).box, hx4⟩ ?_
        refine wpAnyH_done (by kernel_rfl) ?_ _
        clear hx4
        go_simp
        go_wp2
        go_roundw
        case rel => exact ⟨k + 1, some ⟨q, 0, none⟩, cap', by have := unhide HLT; omega, by rw [unhide HE, List.length_append]; rfl, by go_num, by rw [unhide HE]; exact HP4⟩
        case measure => simp [intOf]; have := unhide HLT; omega
      · have tp : (x.st == 1) = false := by rw [beq_eq_false_iff_ne]; exact hp
        have HE := hide (show pend s (k + 1) = pend s k by rw [unhide HST, if_neg hp])
        clear hp
        go_wp2_with (first
          | (refine wpList_load_at rfl _ _ rfl g (off + k * 5) rfl x.arr _ (unhide HC) Try.underlying42 rfl infoC ?_)
          | (refine wpList_storeC_new rfl x rfl _ _ rfl rfl rfl rfl ?_))
        go_roundw
        case rel => exact ⟨k + 1, A', c', by have := unhide HLT; omega, by rw [unhide HE], by go_num, by rw [unhide HE]; exact HP1⟩
        case measure => simp [intOf]; have := unhide HLT; omega
    · have kl : ¬ (k : Int) < (s.l.length : Int) := by omega
      obtain rfl : k = s.l.length := by omega
      have HSO := hide (sort_any (unhide HD) (unhide HV).len (unhide HP).own)
      have HLE := hide (unhide HP).bel
      have HLL := hide (unhide HP).lt
      go_wp2_with (go_at_call 43; refine (unhide HSO).mono ?_; rintro e w5 ⟨rfl, hl5, hin5, hb5⟩; have HL5 := hide hl5; have HIN5 := hide hin5; have HB5 := hide hb5; clear hl5 hin5 hb5)
      go_ret
      rw [unhide HL5]
      exact ⟨A', c', rfl, fun b' hb' => unhide HIN5 b' (by omega), (unhide HLE).trans2 (unhide HB5)⟩
end Go.Proofs.Ytdhkhkcijffbiaa
