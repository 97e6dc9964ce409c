/-
  Contracts of the document's own SameList and Same of inboxes, at equal ones.
-/
import Derived.Test.YtcjdjdganaokfaaDoorInbF
import Derived.Test.YtcjdjdganaokfaaDoorMsgD
import Derived.Test.YtcjdjdganaokfaaDoorInbR
namespace Go.Proofs.YtcjdjdganaokfaaDoor
open Go.RowKit

theorem sameM_refl (m : Msg) : sameM m m = true := by unfold sameM; exact decide_eq_true rfl

set_option maxHeartbeats 4000000 in
set_option maxRecDepth 100000 in
theorem rlist_any (b : Nat) (A A' : Option Addr) (c c' : Nat) (xs ys : List MsS) (w : World) (h : MsgsIn b w A xs) (h' : MsgsIn b w A' ys) (he : xs.map (·.m) = ys.map (·.m)) (hz : xs.length ≤ 1000) (hx : ∀ x ∈ xs, x.m.onw.length ≤ 1000 ∧ x.m.lst.length ≤ 1000) :
    Calls Tryd.prog 24 #[.slice A xs.length c, .slice A' ys.length c'] w fun e w' => e = .returned (.bool true) ∧ Below w.heap.size w w' := by
  have hlen : ys.length = xs.length := by have := congrArg List.length he; simpa using this.symm
  have HI := hide h
  have HI' := hide h'
  have HX := hide hx
  have HE := hide he
  rw [hlen]
  have HL := hide hlen
  clear h h' hx he hlen
  go_enter Tryd.func24, Tryd.ntmps24
  go_wp2
  go_loopw [5] (fun i wr => ∃ k : Nat, k ≤ xs.length ∧ i = .int .i64 k ∧ Hid (Below w.heap.size w wr)) (fun i _ => xs.length - (intOf i).toNat)
  case atStart => exact ⟨0, Nat.zero_le _, rfl, Lib.hid (Below.refl _ _)⟩
  case round =>
    obtain ⟨k, hk, rfl, HP⟩ := hrel
    obtain ⟨wo, rfl⟩ : ∃ wo : World, wo = wr := ⟨_, rfl⟩
    by_cases hlt : k < xs.length
    · have hlt' : k < ys.length := by rw [unhide HL]; exact hlt
      obtain ⟨g, off, rfl, -, hc, hl⟩ := ((unhide HI).keep HP.out).at hlt
      obtain ⟨g', off', rfl, -, hc', hl'⟩ := ((unhide HI').keep HP.out).at hlt'
      have hxz := unhide HX (xs.getD k ms0) (by rw [at_k hlt]; exact List.getElem_mem _)
      have hm : (xs.getD k ms0).m = (ys.getD k ms0).m := by
        rw [← getD_map' (fun x : MsS => x.m), ← getD_map' (fun x : MsS => x.m), unhide HE]
      generalize xs.getD k ms0 = x at *
      generalize ys.getD k ms0 = y at *
      have HD := hide (fun t : After wo => show Calls Tryd.prog 20 #[x.v, y.v] t.to fun e w' => e = .returned (.bool true) ∧ Below t.to.heap.size t.to w' by
        have e := rsame4_any b x.m y.m x.P y.P x.Q y.Q x.c y.c x.d y.d t.to (by omega) (by omega) (hl.1.keep t.is) (hl'.1.keep t.is) (hl.2.keep t.is) (hl'.2.keep t.is)
        rw [show sameM x.m y.m = true by rw [hm]; exact sameM_refl _] at e
        exact e)
      have HC := hide (fun (w' : World) (hw' : ∃ t : After wo, w' = t.to) => show ∀ j u, x.arr[j]? = some u → w'.cell? ⟨g, off + k * 30 + j, none⟩ = some u by
        obtain ⟨t, rfl⟩ := hw'
        exact fun j u hu => After.cell (hc j u hu) t)
      have HC' := hide (fun (w' : World) (hw' : ∃ t : After wo, w' = t.to) => show ∀ j u, y.arr[j]? = some u → w'.cell? ⟨g', off' + k * 30 + j, none⟩ = some u by
        obtain ⟨t, rfl⟩ := hw'
        exact fun j u hu => After.cell (hc' j u hu) t)
      have kl : (k : Int) < (xs.length : Int) := by omega
      clear hc hc' hl hl' hm hxz hlt'
      go_wp2_with fail
      refine wp_region_after (by kernel_rfl) (by kernel_rfl) ?_
      repeat (go_big_quiet_step (fail))
      refine BigFrame.wpQuiet_want rfl (fun K hK => ?_)
      refine quiet_loadA _ rfl rfl (unhide HC) (hK _ ?_)
      clear hK K
      simp only [Act.put, List.setIfInBounds_toArray, List.set_cons_succ, List.set_cons_zero]
      repeat (go_big_quiet_step (fail))
      refine BigFrame.wpQuiet_want rfl (fun K hK => ?_)
      refine quiet_loadA _ rfl rfl (unhide HC') (hK _ ?_)
      clear hK K
      simp only [Act.put, List.setIfInBounds_toArray, List.set_cons_succ, List.set_cons_zero]
      repeat (go_big_quiet_step (first | (go_at_call 20; exact After.call (unhide HD _))))
      refine wpQuiet_nil ?_
      rintro _ ⟨t, rfl⟩
      have HT := hide t.is
      generalize t.to = W3 at *
      go_wp2
      go_roundw
      case rel => exact ⟨k + 1, by omega, by go_num, Lib.hid (onward HP.out (unhide HT))⟩
      case measure => simp [intOf]; omega
    · have kl : ¬ (k : Int) < (xs.length : Int) := by omega
      go_wp2
      go_ret
      exact ⟨rfl, HP.out⟩

set_option maxHeartbeats 8000000 in
set_option maxRecDepth 100000 in
theorem rsame5_any (b : Nat) (win : Int) (A A' : Option Addr) (c c' : Nat) (xs ys : List SnS) (w : World) (h : SndsIn b w A xs) (h' : SndsIn b w A' ys) (he : xs.map SnS.mod = ys.map SnS.mod) (hz : xs.length ≤ 1000) (hx : ∀ s ∈ xs, FewM s.held) :
    Calls Tryd.prog 26 #[ibV win A xs.length c, ibV win A' ys.length c'] w fun e w' => e = .returned (.bool true) ∧ Below w.heap.size w w' := by
  have hlen : ys.length = xs.length := by have := congrArg List.length he; simpa using this.symm
  rw [hlen]
  obtain ⟨W1, hW⟩ : ∃ W1 : World, (w.alloc (ibO win A xs.length c)).alloc (ibO win A' xs.length c') = W1 := ⟨_, rfl⟩
  have b1 : Below w.heap.size w W1 := by rw [← hW]; exact below_new ((Below.refl _ _).alloc (Nat.le_refl _) _) _
  have hX1 : W1.heap[w.heap.size]? = some (ibO win A xs.length c) := by rw [← hW, Below.heap_alloc _ _ _ (by rw [World.size_alloc]; omega)]; exact heap_alloc_new w _
  have hY1 : W1.heap[w.heap.size + 1]? = some (ibO win A' xs.length c') := by
    rw [← hW]
    have := heap_alloc_new (w.alloc (ibO win A xs.length c)) (ibO win A' xs.length c')
    rwa [World.size_alloc] at this
  have x0 : W1.cell? ⟨w.heap.size, 0, none⟩ = some (.int .i64 win) := by rw [Lib.cell_of_heap hX1]; rfl
  have x1 : W1.cell? ⟨w.heap.size, 1, none⟩ = some (.slice A xs.length c) := by rw [Lib.cell_of_heap hX1]; rfl
  have y0 : W1.cell? ⟨w.heap.size + 1, 0, none⟩ = some (.int .i64 win) := by rw [Lib.cell_of_heap hY1]; rfl
  have y1 : W1.cell? ⟨w.heap.size + 1, 1, none⟩ = some (.slice A' xs.length c') := by rw [Lib.cell_of_heap hY1]; rfl
  have HX1 := hide x1
  have HY1 := hide y1
  have HI := hide (h.keep b1)
  have HI' := hide (h'.keep b1)
  have HX := hide hx
  have HE := hide he
  have HL := hide hlen
  have HB := hide b1
  clear h h' hx he hlen b1 hX1 hY1
  go_enter Tryd.func26, Tryd.ntmps26
  go_wp2
  clear x0 x1 y0 y1 hW
  go_loopw [5] (fun i wr => ∃ k : Nat, k ≤ xs.length ∧ i = .int .i64 k ∧ Hid (Below W1.heap.size W1 wr)) (fun i _ => xs.length - (intOf i).toNat)
  case atStart => exact ⟨0, Nat.zero_le _, rfl, Lib.hid (Below.refl _ _)⟩
  case round =>
    obtain ⟨k, hk, rfl, HP⟩ := hrel
    obtain ⟨wo, rfl⟩ : ∃ wo : World, wo = wr := ⟨_, rfl⟩
    have x1 := kept HP.out (unhide HX1)
    have y1 := kept HP.out (unhide HY1)
    by_cases hlt : k < xs.length
    · have hlt' : k < ys.length := by rw [unhide HL]; exact hlt
      obtain ⟨g, off, rfl, -, hc, hl⟩ := ((unhide HI).keep HP.out).at hlt
      obtain ⟨g', off', rfl, -, hc', hl'⟩ := ((unhide HI').keep HP.out).at hlt'
      have hxz := unhide HX (xs.getD k sn0) (by rw [at_k hlt]; exact List.getElem_mem _)
      have hm : (xs.getD k sn0).mod = (ys.getD k sn0).mod := by
        rw [← getD_map' SnS.mod, ← getD_map' SnS.mod, unhide HE]
      generalize xs.getD k sn0 = s at *
      generalize ys.getD k sn0 = t at *
      have hp : t.port = s.port := (congrArg Snd.port hm).symm
      have hn : t.next = s.next := (congrArg Snd.next hm).symm
      have hh : s.held.map (·.m) = t.held.map (·.m) := congrArg Snd.held hm
      have HD := hide (fun u : After wo => rlist_any b s.A t.A s.c t.c s.held t.held u.to (hl.keep u.is) (hl'.keep u.is) hh hxz.1 hxz.2)
      have q1 : ∀ u : After wo, u.to.cell? ⟨w.heap.size, 1, none⟩ = some (.slice (some ⟨g, off, none⟩) xs.length c) := fun u => After.cell x1 u
      have q2 : ∀ u : After wo, u.to.cell? ⟨w.heap.size + 1, 1, none⟩ = some (.slice (some ⟨g', off', none⟩) xs.length c') := fun u => After.cell y1 u
      have p0 : ∀ u : After wo, u.to.cell? ⟨g, off + k * 3, none⟩ = some (.string s.port) := fun u => After.cell (hc 0 _ rfl) u
      have p1 : ∀ u : After wo, u.to.cell? ⟨g, off + k * 3 + 1, none⟩ = some (.int .i64 s.next) := fun u => After.cell (hc 1 _ rfl) u
      have p2 : ∀ u : After wo, u.to.cell? ⟨g, off + k * 3 + 2, none⟩ = some (.slice s.A s.held.length s.c) := fun u => After.cell (hc 2 _ rfl) u
      have r0 : ∀ u : After wo, u.to.cell? ⟨g', off' + k * 3, none⟩ = some (.string s.port) := fun u => After.cell (by rw [← hp]; exact hc' 0 _ rfl) u
      have r1 : ∀ u : After wo, u.to.cell? ⟨g', off' + k * 3 + 1, none⟩ = some (.int .i64 s.next) := fun u => After.cell (by rw [← hn]; exact hc' 1 _ rfl) u
      have r2 : ∀ u : After wo, u.to.cell? ⟨g', off' + k * 3 + 2, none⟩ = some (.slice t.A t.held.length t.c) := fun u => After.cell (hc' 2 _ rfl) u
      have kl : (k : Int) < (xs.length : Int) := by omega
      generalize s.port = p at *
      generalize s.next = nx at *
      clear hc hc' hl hl' hm hxz hlt' hp hn hh
      go_wp2_with fail
      refine wp_region_after (by kernel_rfl) (by kernel_rfl) ?_
      repeat (go_big_quiet_step (first | (go_at_call 24; exact After.call (unhide HD _))))
      refine wpQuiet_nil ?_
      rintro _ ⟨t, rfl⟩
      have HT := hide t.is
      generalize t.to = W3 at *
      clear q1 q2 p0 p1 p2 r0 r1 r2
      go_wp2
      go_roundw
      case rel => exact ⟨k + 1, by omega, by go_num, Lib.hid (onward HP.out (unhide HT))⟩
      case measure => simp [intOf]; omega
    · have kl : ¬ (k : Int) < (xs.length : Int) := by omega
      go_wp2
      go_ret
      exact ⟨rfl, onward (unhide HB) HP.out⟩
end Go.Proofs.YtcjdjdganaokfaaDoor
