/-
  slices.Insert of one message into a row of messages, and of one sender into a row of senders.
-/
import Derived.Test.YtcjdjdganaokfaaDoorInbC
import Derived.Lib.AppendZerosOnto
import Derived.Lib.Overlaps
import Derived.Laws.CopyRow
import Derived.Laws.Externs
import Derived.Laws.NewBlocks
import Derived.Shelf.RegionOpenPlain
namespace Go.Proofs.YtcjdjdganaokfaaDoor
open Go.RowKit

section
variable {P : Program}
/-- copy of whole structs into a row that is known. -/
theorem run_copy_rows (w : World) (dT sT ty elem : TypeId) (size g o dLen dCap : Nat) (a : Addr) (sLen sCap : Nat) (cur : Array Value) (t : TypeId) (cs : List Value) (k : Nat)
    (hu : P.underlying dT = some (.slice elem)) (hs : (P.info? elem).map (·.size) = some size) (hg : w.heap[g]? = some (.cells cur t (0, 0))) (hk : Nat.min sLen dLen = k) (hn : cs.length = k * size)
    (hsrc : ∀ j v, cs[j]? = some v → w.cell? (a.add j) = some v) (hfit : o + cs.length ≤ cur.size) (h1 : ∀ v ∈ cs, v.oneCell' = true) :
    (Builtin.copy_ #[dT, sT] ty #[.slice (some ⟨g, o, none⟩) dLen dCap, .slice (some a) sLen sCap]).run P w =
      .ok (goInt k) (w.setRow g (cur.toList.take o ++ cs ++ cur.toList.drop (o + cs.length)).toArray) := by
  have hl := run_loadCells_list (P := P) w a cs hsrc
  have hst := run_storeCells_at P g o t cs 0 cur w hg (by simpa using hfit) h1
  cases hq : P.info? elem with
  | none => simp [hq] at hs
  | some i =>
    have hi : i.size = size := by simpa [hq] using hs
    rw [hn] at hl
    simp [Builtin.copy_, run_underlying hu, Builtin.lenOf, Builtin.firstCells, sizeOf, typeInfo, hq, hi, hk, hl, hst]
theorem wp_copy_is (w : World) {o : Oper} {a : Act} {K : Act → World → Prop} {Q : Exit → Act → World → Prop} (d s : Operand) (t t' : TypeId)
    (ho : o.op = .call { callee := .builtin .copy, args := #[d, s], argTypes := #[t, t'] }) (v u : Value) (hd : a.eval d = v) (hs : a.eval s = u) {v' : Value} {w' : World}
    (hr : (Builtin.copy_ #[t, t'] o.type #[v, u]).run P w = .ok v' w') (h : K (a.put o.dst v') w') : o.wp P a w K Q := by
  unfold Oper.wp execOp
  simp only [ho, resolve, invoke, builtin, Sem.run_bind, Sem.run_pure, Result.andThen_ok, List.map_toArray, List.map_cons, List.map_nil, hd, hs, hr]
  exact h
theorem wpList_copy_is (w : World) {ops : Array Oper} {rest : List Oper} {o : Oper} {a : Act} {Q : Exit → Act → World → Prop} (hgd : o.guard = none) (d s : Operand) (t t' : TypeId)
    (ho : o.op = .call { callee := .builtin .copy, args := #[d, s], argTypes := #[t, t'] }) (v u : Value) (hd : a.eval d = v) (hs : a.eval s = u) {v' : Value} {w' : World}
    (hr : (Builtin.copy_ #[t, t'] o.type #[v, u]).run P w = .ok v' w') (h : wpList P ops Q rest (a.put o.dst v') w') : wpList P ops Q (o :: rest) a w :=
  wpList_plain hgd fun _ hK => wp_copy_is w d s t t' ho v u hd hs hr (hK _ _ h)
theorem step_copy_is {ops : Array Oper} {o : Oper} {a : Act} {w : World} {K : Act → World → Prop} {Q : Exit → Act → World → Prop} {E : Prop}
    (hg : o.guard = none) (d x : Operand) (dT sT : TypeId) (hop : o.op = Op.call { callee := Callee.builtin Builtin.copy, args := #[d, x], argTypes := #[dT, sT] })
    (v u : Value) (hd : a.eval d = v) (hx : a.eval x = u) {v' : Value} {w' : World} (hr : (Builtin.copy_ #[dT, sT] o.type #[v, u]).run P w = .ok v' w') (hK : K (a.put o.dst v') w') :
    if Region.wanted o (yielded ops a.tmps) = true then Oper.wp P o a w K Q else E := by
  have hw : Region.wanted o (yielded ops a.tmps) = true := by simp [Region.wanted, hg]
  rw [if_pos hw]
  unfold Oper.wp
  simp [execOp, hop, resolve, invoke, builtin, hd, hx, hr, Result.andThen]
  exact hK
end

theorem take_three {α : Type} {a b c : List α} {p q : Nat} (ha : a.length = q) (hp : p ≤ q) : (a ++ b ++ c).take p = a.take p := by
  rw [List.append_assoc, List.take_append_of_le_length (by omega)]
theorem drop_three {α : Type} {a b c : List α} {q : Nat} (ha : a.length = q) : (a ++ b ++ c).drop q = b ++ c := by
  rw [List.append_assoc, List.drop_append, List.drop_eq_nil_of_le (by omega), ha, Nat.sub_self]; rfl
/-- What stands in a row behind the two copies of an insertion in place. -/
theorem ins_row {α : Type} {L xs vs : List α} {p s N : Nat} (hL : L.take N = xs) (hx : xs.length = N) (hp : p ≤ N) (hfit : N + s ≤ L.length) :
    (L.take (p + s) ++ xs.drop p ++ L.drop (p + s + (xs.drop p).length)).take p ++ vs ++ (L.take (p + s) ++ xs.drop p ++ L.drop (p + s + (xs.drop p).length)).drop (p + s) = xs.take p ++ vs ++ xs.drop p ++ L.drop (N + s) := by
  have e1 : (L.take (p + s)).length = p + s := by rw [List.length_take]; omega
  have e2 : p + s + (xs.drop p).length = N + s := by rw [List.length_drop, hx]; omega
  rw [take_three e1 (by omega), drop_three e1, e2, List.take_take, Nat.min_eq_left (by omega)]
  have e4 : L.take p = xs.take p := by rw [← hL, List.take_take, Nat.min_eq_left hp]
  rw [e4]
  simp only [List.append_assoc]
/-- What stands in a new row behind the two copies. -/
theorem grow_row {α : Type} {Z xs vs : List α} {p s N : Nat} (hx : xs.length = N) (hp : p ≤ N) (hv : vs.length = s) :
    ((xs.take p ++ Z).take p ++ vs ++ (xs.take p ++ Z).drop (p + vs.length)).take (p + s) ++ xs.drop p ++ ((xs.take p ++ Z).take p ++ vs ++ (xs.take p ++ Z).drop (p + vs.length)).drop (p + s + (xs.drop p).length) = xs.take p ++ vs ++ xs.drop p ++ Z.drop (N + s - p) := by
  have e1 : (xs.take p).length = p := by rw [List.length_take]; omega
  have e2 : (xs.drop p).length = N - p := by rw [List.length_drop, hx]
  have e3 : (xs.take p ++ Z).take p = xs.take p := by rw [List.take_append_of_le_length (Nat.le_of_eq e1.symm)]; exact List.take_of_length_le (Nat.le_of_eq e1)
  have e4 : (xs.take p ++ Z).drop (p + s) = Z.drop s := by rw [List.drop_append, e1, List.drop_eq_nil_of_le (by omega), List.nil_append, Nat.add_sub_cancel_left]
  have e5 : (xs.take p ++ vs).length = p + s := by rw [List.length_append, e1, hv]
  rw [hv, e3, e4, e2]
  generalize hM : xs.take p ++ vs = M at *
  have h1 : (M ++ Z.drop s).take (p + s) = M := by rw [List.take_append_of_le_length (by omega), List.take_of_length_le (by omega)]
  have h2 : (M ++ Z.drop s).drop (p + s + (N - p)) = Z.drop (N + s - p) := by
    rw [List.drop_append, List.drop_eq_nil_of_le (by omega), List.nil_append, List.drop_drop, e5]
    congr 1; omega
  rw [h1, h2]
theorem ins_len {α : Type} {xs vs : List α} {p s N : Nat} (hx : xs.length = N) (hp : p ≤ N) (hv : vs.length = s) : (xs.take p ++ vs ++ xs.drop p).length = N + s := by
  rw [List.length_append, List.length_append, List.length_take, List.length_drop]; omega

set_option maxHeartbeats 4000000 in
set_option maxRecDepth 100000 in
theorem insM_end (base : Nat) (A : Option Addr) (n c vb : Nat) (xs vs : List Value) (w : World) (hown : w.ownsRow base 32 30 (.slice A n c) n xs) (hn : n ≤ 1000) (hvl : vs.length = 30) (hv : w.heap[vb]? = some (.cells vs.toArray 32 (0, 0)))
    (h1v : ∀ v ∈ vs, v.oneCell' = true) (hb : base ≤ w.heap.size) :
    Calls Tryd.prog 83 #[.slice A n c, .int .i64 n, .slice (some ⟨vb, 0, none⟩) 1 1] w
      fun e w' => ∃ A' c', e = .returned (.slice A' (n + 1) c') ∧ w'.ownsRow base 32 30 (.slice A' (n + 1) c') (n + 1) (xs ++ vs) ∧ w.grownBy w' (Value.slice A n c).ownBlock := by
  obtain ⟨i0, z0, hi0, hia, hib, hic, hid⟩ := info_size info_msg
  have H0 := hide hi0
  have HA := hide hia
  have HB := hide hib
  have HC := hide hic
  have HD := hide hid
  have HO := hide hown
  have HV := hide (World.news_of_block hv)
  have HW := hide h1v
  have HL := hide hvl
  clear hi0 hia hib hic hid hown hv h1v hvl
  rcases (unhide HO).2 with ⟨e, hn0⟩ | ⟨g, cap, cur, e, _, _, hnc, hcm, _⟩
  · obtain ⟨rfl, _, rfl⟩ : A = none ∧ n = 0 ∧ c = 0 := by injection e with e1 e2 e3; exact ⟨e1, e2, e3⟩
    subst hn0
    go_enter Tryd.func83, Tryd.ntmps83
    go_wp2_with (at_builtin; refine wpList_append_lies _ rfl _ _ 52 rfl base 32 i0 z0 30 368 Tryd.underlying52 (unhide H0) (unhide HA) (unhide HB) (unhide HC) (unhide HD) (by decide) _ _ _ rfl (unhide HO) ⟨vb, 0, none⟩ 1 1 vs rfl (unhide HL) (unhide HV) (unhide HW) (by decide) (by unfold maxLen; omega) (by omega) hb _ rfl ?_)
    intro q cap' w3 hown3 hgrow hat hlt3
    go_wp2
    go_ret
    exact ⟨_, _, rfl, hown3, hgrow⟩
  · obtain ⟨rfl, rfl⟩ : A = some ⟨g, 0, none⟩ ∧ c = cap := by injection e with e1 e2 e3; exact ⟨e1, e3⟩
    unfold maxLen at hcm
    by_cases hc : c = n
    · subst hc
      go_enter Tryd.func83, Tryd.ntmps83
      go_wp2_with (at_builtin; refine wpList_append_lies _ rfl _ _ 52 rfl base 32 i0 z0 30 368 Tryd.underlying52 (unhide H0) (unhide HA) (unhide HB) (unhide HC) (unhide HD) (by decide) _ _ _ rfl (unhide HO) ⟨vb, 0, none⟩ 1 1 vs rfl (unhide HL) (unhide HV) (unhide HW) (by decide) (by unfold maxLen; omega) (by omega) hb _ rfl ?_)
      intro q cap' w3 hown3 hgrow hat hlt3
      go_wp2
      go_ret
      exact ⟨_, _, rfl, hown3, hgrow⟩
    · go_enter Tryd.func83, Tryd.ntmps83
      go_wp2_with (at_builtin; refine wpList_append_lies _ rfl _ _ 52 rfl base 32 i0 z0 30 368 Tryd.underlying52 (unhide H0) (unhide HA) (unhide HB) (unhide HC) (unhide HD) (by decide) _ _ _ rfl (unhide HO) ⟨vb, 0, none⟩ 1 1 vs rfl (unhide HL) (unhide HV) (unhide HW) (by decide) (by unfold maxLen; omega) (by omega) hb _ rfl ?_)
      intro q cap' w3 hown3 hgrow hat hlt3
      go_wp2
      go_ret
      exact ⟨_, _, rfl, hown3, hgrow⟩

set_option maxHeartbeats 4000000 in
set_option maxRecDepth 100000 in
theorem insM_room (base : Nat) (g n c i vb : Nat) (xs vs : List Value) (w : World) (hown : w.ownsRow base 32 30 (.slice (some ⟨g, 0, none⟩) n c) n xs) (hi : i < n) (hn : n ≤ 1000) (hc : n + 1 ≤ c) (hvl : vs.length = 30) (hv : w.heap[vb]? = some (.cells vs.toArray 32 (0, 0))) (hvb : vb ≠ g)
    (h1x : ∀ v ∈ xs, v.oneCell' = true) (h1v : ∀ v ∈ vs, v.oneCell' = true) :
    Calls Tryd.prog 83 #[.slice (some ⟨g, 0, none⟩) n c, .int .i64 i, .slice (some ⟨vb, 0, none⟩) 1 1] w
      fun e w' => e = .returned (.slice (some ⟨g, 0, none⟩) (n + 1) c) ∧ w'.ownsRow base 32 30 (.slice (some ⟨g, 0, none⟩) (n + 1) c) (n + 1) (xs.take (i * 30) ++ vs ++ xs.drop (i * 30)) ∧ w.grownBy w' (some g) := by
  obtain ⟨i0, z0, hi0, hia, hib, hic, hid⟩ := info_size info_msg
  obtain ⟨cur, hbg, hg, hcm, hcs, ht⟩ : ∃ cur : Array Value, base ≤ g ∧ w.heap[g]? = some (.cells cur 32 (0, 0)) ∧ c ≤ maxLen ∧ cur.size = c * 30 ∧ cur.toList.take (n * 30) = xs := by
    rcases hown.2 with ⟨e, _⟩ | ⟨g', cap, cur, e, hb, hg, _, h3, h4, h5⟩
    · cases e
    · injection e with e1 e2 e3
      injection e1 with e1
      injection e1 with e1
      subst e1; subst e3
      exact ⟨cur, hb, hg, h3, h4, h5⟩
  have hxl := hown.1
  have hsz : (Tryd.prog.info? 32).map (·.size) = some 30 := by rw [hi0, Option.map_some, hib]
  have hov : ∀ lb cb, (callFunc 123 #[.slice (some ⟨vb, 0, none⟩) 1 1, .slice (some ⟨g, (i + 1) * 30, none⟩) lb cb]).run Tryd.prog w = .ok (.value (.bool false)) w := fun lb cb => by
    rw [run_callFunc_extern Tryd.func123 (by kernel_rfl) (by kernel_rfl) (by kernel_rfl) (e := Extern.SlicesOverlaps.overlaps #[52, 52] #[4]) (by kernel_rfl),
      Lib.run_overlaps_apart w 52 4 32 Tryd.underlying52 30 Tryd.sizeOf32 ⟨vb, 0, none⟩ ⟨g, (i + 1) * 30, none⟩ 1 1 lb cb hvb 32 32 30 (c * 30) (by simp [World.shape?, hv, hvl]) (by simp [World.shape?, hg, hcs]) (by omega) (by simp [World.frozen?, hv]) (by simp [World.frozen?, hv])]
    rfl
  obtain ⟨N, hN⟩ : ∃ N, N = n * 30 := ⟨_, rfl⟩
  obtain ⟨p, hp⟩ : ∃ p, p = i * 30 := ⟨_, rfl⟩
  have hps : (i + 1) * 30 = p + 30 := by omega
  have hpN : p + 30 ≤ N := by omega
  have hfit : N + 30 ≤ cur.toList.length := by rw [Array.length_toList, hcs]; omega
  obtain ⟨cur1, hc1⟩ : ∃ cur1, cur1 = (cur.toList.take (p + 30) ++ xs.drop p ++ cur.toList.drop (p + 30 + (xs.drop p).length)).toArray := ⟨_, rfl⟩
  have hdl : (xs.drop p).length = (n - i) * 30 := by rw [List.length_drop, hxl]; omega
  have hcp1 : ∀ ty dc sc, (Builtin.copy_ #[52, 52] ty #[.slice (some ⟨g, (i + 1) * 30, none⟩) (n - i) dc, .slice (some ⟨g, i * 30, none⟩) (n + 1 - i) sc]).run Tryd.prog w.drew = .ok (goInt (n - i : Nat)) (w.drew.setRow g cur1) := fun ty dc sc => by
    rw [hps, ← hp, hc1]
    refine run_copy_rows w.drew _ _ ty 32 30 g (p + 30) _ dc ⟨g, p, none⟩ _ sc cur 32 (xs.drop p) (n - i) Tryd.underlying52 hsz hg (by simp only [Nat.min_def]; split <;> omega) hdl (fun j v hj => ?_) ?_ (fun v hv => h1x v (List.mem_of_mem_drop hv))
    · rw [Addr.add_lit, show w.drew.cell? ⟨g, p + j, none⟩ = cur[p + j]? from Lib.cell_of_heap (w := w.drew) hg _, ← Array.getElem?_toList]
      rw [List.getElem?_drop, ← ht, List.getElem?_take] at hj
      split at hj
      · exact hj
      · cases hj
    · rw [hdl]; rw [Array.length_toList] at hfit; omega
  have hg1 : (w.drew.setRow g cur1).heap[g]? = some (.cells cur1 32 (0, 0)) := setRow_heap w.drew g _ _ _ _ hg
  obtain ⟨W1, hW1⟩ : ∃ W1, w.drew.setRow g cur1 = W1 := ⟨_, rfl⟩
  rw [hW1] at hg1
  have hv1 : W1.heap[vb]? = some (.cells vs.toArray 32 (0, 0)) := by rw [← hW1, setRow_other _ _ _ _ hvb]; exact hv
  have hl1 : cur1.toList.length = cur.toList.length := by
    rw [hc1]
    simp only [List.length_append, List.length_take, List.length_drop, hxl]
    omega
  have hcp2 : ∀ ty dc, (Builtin.copy_ #[52, 52] ty #[.slice (some ⟨g, i * 30, none⟩) (n + 1 - i) dc, .slice (some ⟨vb, 0, none⟩) 1 1]).run Tryd.prog W1 = .ok (goInt 1) (W1.setRow g (cur1.toList.take p ++ vs ++ cur1.toList.drop (p + vs.length)).toArray) := fun ty dc => by
    rw [← hp]
    refine run_copy_rows W1 _ _ ty 32 30 g p _ dc ⟨vb, 0, none⟩ 1 1 cur1 32 vs 1 Tryd.underlying52 hsz hg1 (by simp only [Nat.min_def]; split <;> omega) (by omega) (fun j v hj => ?_) (by rw [← Array.length_toList, hl1, hvl]; omega) h1v
    exact World.news_of_block hv1 j v hj
  have hrow : (cur1.toList.take p ++ vs ++ cur1.toList.drop (p + vs.length)) = xs.take p ++ vs ++ xs.drop p ++ cur.toList.drop (N + 30) := by
    rw [hc1, hvl]
    exact ins_row (by rw [hN]; exact ht) (by omega) (by omega) hfit
  obtain ⟨cur2, hc2⟩ : ∃ cur2 : Array Value, cur2 = (xs.take p ++ vs ++ xs.drop p ++ cur.toList.drop (N + 30)).toArray := ⟨_, rfl⟩
  rw [hrow, ← hc2] at hcp2
  have hlen := ins_len (s := 30) (N := N) (show xs.length = N by omega) (show p ≤ N by omega) hvl
  have hOut : (W1.setRow g cur2).ownsRow base 32 30 (.slice (some ⟨g, 0, none⟩) (n + 1) c) (n + 1) (xs.take p ++ vs ++ xs.drop p) := by
    refine ⟨by rw [hlen]; omega, .inr ⟨g, c, _, rfl, hbg, setRow_heap W1 g _ _ _ _ hg1, by omega, hcm, ?_, ?_⟩⟩
    · rw [hc2, List.size_toArray, List.length_append, hlen, List.length_drop, Array.length_toList, hcs]; omega
    · rw [hc2, show (n + 1) * 30 = N + 30 by omega, List.take_append_of_le_length (Nat.le_of_eq hlen.symm)]
      exact List.take_of_length_le (Nat.le_of_eq hlen)
  have hGr : w.grownBy (W1.setRow g cur2) (some g) := by
    rw [← hW1]
    refine ⟨rfl, rfl, rfl, by simp [World.setRow], fun k hk hne => ?_⟩
    have hne' : k ≠ g := by simpa using hne
    rw [setRow_other _ _ _ _ hne', setRow_other _ _ _ _ hne']
    rfl
  have HO := hide hOut
  have HG := hide hGr
  have HP := hide hp
  have hw1 : IntKind.i64.wrap ((i : Int) + 1) = (i : Int) + 1 := by rw [IntKind.wrap_i64]; omega
  have hb1 : (0 : Int) ≤ (i : Int) + 1 := by omega
  have hin : i ≤ n := by omega
  have htn : ((i : Int) + 1).toNat = i + 1 := by omega
  have hb2 : ¬ (c = i + 1) := by omega
  have hb3 : (i : Int) ≤ (n : Int) + 1 := by omega
  have hb4 : ¬ (c = i) := by omega
  have hz2 : ¬ ((i : Int) = (n : Int)) := by omega
  have hcl : c ≤ 9223372036854775807 := by unfold maxLen at hcm; exact hcm
  clear hown hg hcm hcs ht hxl hps hpN hfit hc1 hdl hg1 hv1 hl1 hrow hlen hOut hGr hc2 hp hN hsz hi0 hia hib hic hid
  go_enter Tryd.func83, Tryd.ntmps83
  have mixed : Tryd.prog.follows Departure.mixedOrders = true := by kernel_rfl
  go_wp2_with (simp only [hov])
  go_region_law_o (refine step_copy_is rfl _ _ 52 52 rfl _ _ (by simp [Act.eval, Act.put]) (by simp [Act.eval, Act.put]) (hcp1 _ _ _) ?_)
  go_wp2_with (at_builtin; refine wpList_copy_is _ rfl _ _ 52 52 rfl _ _ rfl rfl (hcp2 _ _) ?_)
  go_ret
  exact ⟨rfl, by rw [← unhide HP]; exact unhide HO, unhide HG⟩

set_option maxHeartbeats 4000000 in
set_option maxRecDepth 100000 in
theorem insM_grow (base : Nat) (g n i vb : Nat) (xs vs : List Value) (w : World) (hown : w.ownsRow base 32 30 (.slice (some ⟨g, 0, none⟩) n n) n xs) (hi : i < n) (hn : n ≤ 1000) (hvl : vs.length = 30) (hv : w.heap[vb]? = some (.cells vs.toArray 32 (0, 0)))
    (h1x : ∀ v ∈ xs, v.oneCell' = true) (h1v : ∀ v ∈ vs, v.oneCell' = true) (hb : base ≤ w.heap.size) :
    Calls Tryd.prog 83 #[.slice (some ⟨g, 0, none⟩) n n, .int .i64 i, .slice (some ⟨vb, 0, none⟩) 1 1] w
      fun e w' => ∃ c', e = .returned (.slice (some ⟨w.heap.size, 0, none⟩) (n + 1) c') ∧ w'.ownsRow base 32 30 (.slice (some ⟨w.heap.size, 0, none⟩) (n + 1) c') (n + 1) (xs.take (i * 30) ++ vs ++ xs.drop (i * 30)) ∧ w.grownBy w' (some g) := by
  obtain ⟨i0, z0, hi0, hia, hib, hic, hid⟩ := info_size info_msg
  obtain ⟨cur, hg, hcs, ht⟩ : ∃ cur : Array Value, w.heap[g]? = some (.cells cur 32 (0, 0)) ∧ cur.size = n * 30 ∧ cur.toList.take (n * 30) = xs := by
    rcases hown.2 with ⟨e, _⟩ | ⟨g', cap, cur, e, hb, hg, _, h3, h4, h5⟩
    · cases e
    · injection e with e1 e2 e3
      injection e1 with e1
      injection e1 with e1
      subst e1; subst e3
      exact ⟨cur, hg, h4, h5⟩
  have hxl := hown.1
  have hsz : (Tryd.prog.info? 32).map (·.size) = some 30 := by rw [hi0, Option.map_some, hib]
  have hgw : g < w.heap.size := (Array.getElem?_eq_some_iff.1 hg).1
  have hvw : vb < w.heap.size := (Array.getElem?_eq_some_iff.1 hv).1
  obtain ⟨N, hN⟩ : ∃ N, N = n * 30 := ⟨_, rfl⟩
  obtain ⟨p, hp⟩ : ∃ p, p = i * 30 := ⟨_, rfl⟩
  have hps : (i + 1) * 30 = p + 30 := by omega
  have hpN : p + 30 ≤ N := by omega
  have hdl : (xs.drop p).length = (n - i) * 30 := by rw [List.length_drop, hxl]; omega
  have hxc : ∀ j v, xs[j]? = some v → w.cell? ⟨g, j, none⟩ = some v := fun j v hj => by
    rw [Lib.cell_of_heap hg, ← Array.getElem?_toList]
    rw [← ht, List.getElem?_take] at hj
    split at hj
    · exact hj
    · cases hj
  have hold : (Builtin.firstCells i0.size i (.slice (some ⟨g, 0, none⟩) i n)).run Tryd.prog w.drew = .ok (xs.take p).toArray w.drew := by
    rw [hib]
    exact run_firstCells_some w.drew 30 i ⟨g, 0, none⟩ i n (xs.take p) (by rw [List.length_take]; omega) (fun j v hj => by
      rw [Addr.add_lit, Nat.zero_add]
      rw [List.getElem?_take] at hj
      split at hj
      · exact hxc j v hj
      · cases hj)
  obtain ⟨G, hG⟩ : ∃ G, G = grownCap w (n + 1) n 32 := ⟨_, rfl⟩
  obtain ⟨Zs, hZs⟩ : ∃ Zs : List Value, Zs = (Builtin.zeroCells z0.cells (n + 1 - i) ++ Builtin.zeroCells z0.cells (G - (n + 1))).toList := ⟨_, rfl⟩
  have hGn : n + 1 ≤ G := by rw [hG]; exact grownCap_ge w _ _ _
  have hGm : G ≤ maxLen := by rw [hG]; exact grownCap_le_maxLen w (n + 1) n 32 (by unfold maxLen; omega)
  have hZl : Zs.length = (G - i) * 30 := by
    rw [hZs, Array.length_toList, Array.size_append, size_zeroCells, size_zeroCells, hid, ← Nat.add_mul]
    congr 1; omega
  have hrow0 : (xs.take p).toArray ++ Builtin.zeroCells z0.cells (n + 1 - i) ++ Builtin.zeroCells z0.cells (G - (n + 1)) = (xs.take p ++ Zs).toArray := by
    rw [hZs, Array.append_assoc, Array.toArray_append, Array.toArray_toList]
  obtain ⟨W1, hW1⟩ : ∃ W1, w.drew.alloc (.cells (xs.take p ++ Zs).toArray 32) = W1 := ⟨_, rfl⟩
  have hrz : ∀ ty, (Builtin.append_ #[52, 3] ty #[.slice (some ⟨g, 0, none⟩) i n, .int .i64 ((n : Int) + 1 - (i : Int))]).run Tryd.prog w = .ok (.slice (some ⟨w.heap.size, 0, none⟩) (n + 1) G) W1 := fun ty => by
    have h := Lib.run_append_grow_zeros w 52 3 ty 32 i0 z0 .i64 .i64 Tryd.underlying52 Tryd.underlying3 hi0 hia (some ⟨g, 0, none⟩) i n (xs.take p) hold (n + 1 - i) (by omega) (by rw [hib]; omega) (by omega) (by omega) (by rw [hic]; omega) (by rw [hic, show i + (n + 1 - i) = n + 1 by omega]; exact growslice_fits (by omega) (by omega))
    rw [show i + (n + 1 - i) = n + 1 by omega, ← hG, hrow0, hW1] at h
    rw [show (n : Int) + 1 - (i : Int) = ((n + 1 - i : Nat) : Int) by omega]
    exact h
  have hB1 : W1.heap[w.heap.size]? = some (.cells (xs.take p ++ Zs).toArray 32 (0, 0)) := by rw [← hW1]; exact heap_alloc_new w.drew _
  have hv1 : W1.heap[vb]? = some (.cells vs.toArray 32 (0, 0)) := by rw [← hW1, Below.heap_alloc _ _ _ (show vb < w.drew.heap.size from hvw)]; exact hv
  have hg1 : W1.heap[g]? = some (.cells cur 32 (0, 0)) := by rw [← hW1, Below.heap_alloc _ _ _ (show g < w.drew.heap.size from hgw)]; exact hg
  have hcpA : ∀ ty dc, (Builtin.copy_ #[52, 52] ty #[.slice (some ⟨w.heap.size, i * 30, none⟩) (n + 1 - i) dc, .slice (some ⟨vb, 0, none⟩) 1 1]).run Tryd.prog W1 = .ok (goInt 1) (W1.setRow w.heap.size ((xs.take p ++ Zs).take p ++ vs ++ (xs.take p ++ Zs).drop (p + vs.length)).toArray) := fun ty dc => by
    rw [← hp]
    refine run_copy_rows W1 _ _ ty 32 30 w.heap.size p _ dc ⟨vb, 0, none⟩ 1 1 (xs.take p ++ Zs).toArray 32 vs 1 Tryd.underlying52 hsz hB1 (by simp only [Nat.min_def]; split <;> omega) (by omega) (fun j v hj => World.news_of_block hv1 j v hj) ?_ h1v
    rw [List.size_toArray, List.length_append, List.length_take, hZl]; omega
  obtain ⟨R1, hR1⟩ : ∃ R1 : List Value, R1 = (xs.take p ++ Zs).take p ++ vs ++ (xs.take p ++ Zs).drop (p + vs.length) := ⟨_, rfl⟩
  rw [← hR1] at hcpA
  have hl1 : R1.length = G * 30 := by
    rw [hR1]
    simp only [List.length_append, List.length_take, List.length_drop, hZl, hxl]
    omega
  obtain ⟨W2, hW2⟩ : ∃ W2, W1.setRow w.heap.size R1.toArray = W2 := ⟨_, rfl⟩
  have hB2 : W2.heap[w.heap.size]? = some (.cells R1.toArray 32 (0, 0)) := by rw [← hW2]; exact setRow_heap W1 _ _ _ _ _ hB1
  have hg2 : W2.heap[g]? = some (.cells cur 32 (0, 0)) := by rw [← hW2, setRow_other _ _ _ _ (by omega)]; exact hg1
  have hcpB : ∀ ty dc sc, (Builtin.copy_ #[52, 52] ty #[.slice (some ⟨w.heap.size, (i + 1) * 30, none⟩) (n - i) dc, .slice (some ⟨g, i * 30, none⟩) (n - i) sc]).run Tryd.prog W2.drew = .ok (goInt (n - i : Nat)) (W2.drew.setRow w.heap.size (R1.take (p + 30) ++ xs.drop p ++ R1.drop (p + 30 + (xs.drop p).length)).toArray) := fun ty dc sc => by
    rw [hps, ← hp]
    refine run_copy_rows W2.drew _ _ ty 32 30 w.heap.size (p + 30) _ dc ⟨g, p, none⟩ _ sc R1.toArray 32 (xs.drop p) (n - i) Tryd.underlying52 hsz hB2 (by simp only [Nat.min_def]; split <;> omega) hdl (fun j v hj => ?_) ?_ (fun v hv => h1x v (List.mem_of_mem_drop hv))
    · rw [Addr.add_lit, show W2.drew.cell? ⟨g, p + j, none⟩ = cur[p + j]? from Lib.cell_of_heap (w := W2.drew) hg2 _, ← Lib.cell_of_heap hg]
      rw [List.getElem?_drop] at hj
      exact hxc _ v hj
    · rw [hdl, List.size_toArray, hl1]; omega
  have hrow : R1.take (p + 30) ++ xs.drop p ++ R1.drop (p + 30 + (xs.drop p).length) = xs.take p ++ vs ++ xs.drop p ++ Zs.drop (N + 30 - p) := by
    rw [hR1]
    exact grow_row (s := 30) (N := N) (by omega) (by omega) hvl
  obtain ⟨R2, hR2⟩ : ∃ R2 : Array Value, R2 = (xs.take p ++ vs ++ xs.drop p ++ Zs.drop (N + 30 - p)).toArray := ⟨_, rfl⟩
  rw [hrow, ← hR2] at hcpB
  have hlen := ins_len (s := 30) (N := N) (show xs.length = N by omega) (show p ≤ N by omega) hvl
  have hOut : (W2.drew.setRow w.heap.size R2).ownsRow base 32 30 (.slice (some ⟨w.heap.size, 0, none⟩) (n + 1) G) (n + 1) (xs.take p ++ vs ++ xs.drop p) := by
    refine ⟨by rw [hlen]; omega, .inr ⟨w.heap.size, G, _, rfl, hb, setRow_heap W2.drew _ _ _ _ _ hB2, by omega, hGm, ?_, ?_⟩⟩
    · rw [hR2, List.size_toArray, List.length_append, hlen, List.length_drop, hZl]; omega
    · rw [hR2, show (n + 1) * 30 = N + 30 by omega, List.take_append_of_le_length (Nat.le_of_eq hlen.symm)]
      exact List.take_of_length_le (Nat.le_of_eq hlen)
  have hGr : w.grownBy (W2.drew.setRow w.heap.size R2) (some g) := by
    rw [← hW2, ← hW1]
    refine ⟨rfl, rfl, rfl, by simp [World.setRow], fun k hk hne => ?_⟩
    have hk' : k ≠ w.heap.size := by omega
    rw [setRow_other _ _ _ _ hk']
    show ((w.drew.alloc _).setRow w.heap.size R1.toArray).heap[k]? = _
    rw [setRow_other _ _ _ _ hk']
    exact Below.heap_alloc w.drew _ _ hk
  have HO := hide hOut
  have HG := hide hGr
  have HP := hide hp
  have hw1 : IntKind.i64.wrap ((i : Int) + 1) = (i : Int) + 1 := by rw [IntKind.wrap_i64]; omega
  have hb1 : (0 : Int) ≤ (i : Int) + 1 := by omega
  have hin : i ≤ n := by omega
  have htn : ((i : Int) + 1).toNat = i + 1 := by omega
  have hb2 : ¬ (G = i + 1) := by omega
  have hb3 : (i : Int) ≤ (n : Int) := by omega
  have hb4 : ¬ (G = i) := by omega
  have hb5 : ¬ (n = i) := by omega
  have hz2 : ¬ ((i : Int) = (n : Int)) := by omega
  have hcl : G ≤ 9223372036854775807 := by unfold maxLen at hGm; exact hGm
  have mixed : Tryd.prog.follows Departure.mixedOrders = true := by kernel_rfl
  clear hown hg hcs ht hxl hps hpN hdl hxc hold hG hZs hGm hZl hrow0 hB1 hv1 hg1 hl1 hR1 hB2 hg2 hrow hlen hR2 hOut hGr hp hN hsz hi0 hia hib hic hid hgw hvw
  go_enter Tryd.func83, Tryd.ntmps83
  go_wp2_with (first
    | (at_builtin; refine Lib.wpList_append_run _ rfl _ _ _ _ rfl _ _ rfl rfl _ _ (hrz _) ?_)
    | (at_builtin; refine wpList_copy_is _ rfl _ _ 52 52 rfl _ _ rfl rfl (hcpA _ _) ?_))
  go_region_law_o (refine step_copy_is rfl _ _ 52 52 rfl _ _ (by simp [Act.eval, Act.put]) (by simp [Act.eval, Act.put]) (hcpB _ _ _) ?_)
  go_wp2
  go_ret
  exact ⟨_, rfl, by rw [← unhide HP]; exact unhide HO, unhide HG⟩

/-- Insert of one thing, at any place. -/
theorem insM_any (base : Nat) (A : Option Addr) (n c i vb : Nat) (xs vs : List Value) (w : World) (hown : w.ownsRow base 32 30 (.slice A n c) n xs) (hi : i ≤ n) (hn : n ≤ 1000) (hvl : vs.length = 30) (hv : w.heap[vb]? = some (.cells vs.toArray 32 (0, 0)))
    (hvb : ∀ k, (Value.slice A n c).ownBlock = some k → vb ≠ k) (h1x : ∀ v ∈ xs, v.oneCell' = true) (h1v : ∀ v ∈ vs, v.oneCell' = true) (hb : base ≤ w.heap.size) :
    Calls Tryd.prog 83 #[.slice A n c, .int .i64 i, .slice (some ⟨vb, 0, none⟩) 1 1] w
      fun e w' => ∃ A' c', e = .returned (.slice A' (n + 1) c') ∧ w'.ownsRow base 32 30 (.slice A' (n + 1) c') (n + 1) (xs.take (i * 30) ++ vs ++ xs.drop (i * 30)) ∧ w.grownBy w' (Value.slice A n c).ownBlock := by
  by_cases hin : i = n
  · subst hin
    refine (insM_end base A i c vb xs vs w hown hn hvl hv h1v hb).mono ?_
    rintro e w' ⟨A', c', rfl, h2, h3⟩
    refine ⟨A', c', rfl, ?_, h3⟩
    rw [← hown.1, List.take_length, List.drop_length, List.append_nil]
    exact h2
  · rcases hown.2 with ⟨e, hn0⟩ | ⟨g, cap, cur, e, hbg, hg, hnc, _⟩
    · omega
    · obtain ⟨rfl, rfl⟩ : A = some ⟨g, 0, none⟩ ∧ c = cap := by injection e with e1 e2 e3; exact ⟨e1, e3⟩
      by_cases hc : n + 1 ≤ c
      · refine (insM_room base g n c i vb xs vs w hown (by omega) hn hc hvl hv (hvb g rfl) h1x h1v).mono ?_
        rintro e w' ⟨rfl, h2, h3⟩
        exact ⟨_, _, rfl, h2, h3⟩
      · obtain rfl : c = n := by omega
        refine (insM_grow base g c i vb xs vs w hown (by omega) hn hvl hv h1x h1v hb).mono ?_
        rintro e w' ⟨c', rfl, h2, h3⟩
        exact ⟨_, _, rfl, h2, h3⟩

set_option maxHeartbeats 4000000 in
set_option maxRecDepth 100000 in
theorem insS_end (base : Nat) (A : Option Addr) (n c vb : Nat) (xs vs : List Value) (w : World) (hown : w.ownsRow base 93 3 (.slice A n c) n xs) (hn : n ≤ 1000) (hvl : vs.length = 3) (hv : w.heap[vb]? = some (.cells vs.toArray 93 (0, 0)))
    (h1v : ∀ v ∈ vs, v.oneCell' = true) (hb : base ≤ w.heap.size) :
    Calls Tryd.prog 40 #[.slice A n c, .int .i64 n, .slice (some ⟨vb, 0, none⟩) 1 1] w
      fun e w' => ∃ A' c', e = .returned (.slice A' (n + 1) c') ∧ w'.ownsRow base 93 3 (.slice A' (n + 1) c') (n + 1) (xs ++ vs) ∧ w.grownBy w' (Value.slice A n c).ownBlock := by
  obtain ⟨i0, z0, hi0, hia, hib, hic, hid⟩ := info_size info_snd
  have H0 := hide hi0
  have HA := hide hia
  have HB := hide hib
  have HC := hide hic
  have HD := hide hid
  have HO := hide hown
  have HV := hide (World.news_of_block hv)
  have HW := hide h1v
  have HL := hide hvl
  clear hi0 hia hib hic hid hown hv h1v hvl
  rcases (unhide HO).2 with ⟨e, hn0⟩ | ⟨g, cap, cur, e, _, _, hnc, hcm, _⟩
  · obtain ⟨rfl, _, rfl⟩ : A = none ∧ n = 0 ∧ c = 0 := by injection e with e1 e2 e3; exact ⟨e1, e2, e3⟩
    subst hn0
    go_enter Tryd.func40, Tryd.ntmps40
    go_wp2_with (at_builtin; refine wpList_append_lies _ rfl _ _ 44 rfl base 93 i0 z0 3 48 Tryd.underlying44 (unhide H0) (unhide HA) (unhide HB) (unhide HC) (unhide HD) (by decide) _ _ _ rfl (unhide HO) ⟨vb, 0, none⟩ 1 1 vs rfl (unhide HL) (unhide HV) (unhide HW) (by decide) (by unfold maxLen; omega) (by omega) hb _ rfl ?_)
    intro q cap' w3 hown3 hgrow hat hlt3
    go_wp2
    go_ret
    exact ⟨_, _, rfl, hown3, hgrow⟩
  · obtain ⟨rfl, rfl⟩ : A = some ⟨g, 0, none⟩ ∧ c = cap := by injection e with e1 e2 e3; exact ⟨e1, e3⟩
    unfold maxLen at hcm
    by_cases hc : c = n
    · subst hc
      go_enter Tryd.func40, Tryd.ntmps40
      go_wp2_with (at_builtin; refine wpList_append_lies _ rfl _ _ 44 rfl base 93 i0 z0 3 48 Tryd.underlying44 (unhide H0) (unhide HA) (unhide HB) (unhide HC) (unhide HD) (by decide) _ _ _ rfl (unhide HO) ⟨vb, 0, none⟩ 1 1 vs rfl (unhide HL) (unhide HV) (unhide HW) (by decide) (by unfold maxLen; omega) (by omega) hb _ rfl ?_)
      intro q cap' w3 hown3 hgrow hat hlt3
      go_wp2
      go_ret
      exact ⟨_, _, rfl, hown3, hgrow⟩
    · go_enter Tryd.func40, Tryd.ntmps40
      go_wp2_with (at_builtin; refine wpList_append_lies _ rfl _ _ 44 rfl base 93 i0 z0 3 48 Tryd.underlying44 (unhide H0) (unhide HA) (unhide HB) (unhide HC) (unhide HD) (by decide) _ _ _ rfl (unhide HO) ⟨vb, 0, none⟩ 1 1 vs rfl (unhide HL) (unhide HV) (unhide HW) (by decide) (by unfold maxLen; omega) (by omega) hb _ rfl ?_)
      intro q cap' w3 hown3 hgrow hat hlt3
      go_wp2
      go_ret
      exact ⟨_, _, rfl, hown3, hgrow⟩

set_option maxHeartbeats 4000000 in
set_option maxRecDepth 100000 in
theorem insS_room (base : Nat) (g n c i vb : Nat) (xs vs : List Value) (w : World) (hown : w.ownsRow base 93 3 (.slice (some ⟨g, 0, none⟩) n c) n xs) (hi : i < n) (hn : n ≤ 1000) (hc : n + 1 ≤ c) (hvl : vs.length = 3) (hv : w.heap[vb]? = some (.cells vs.toArray 93 (0, 0))) (hvb : vb ≠ g)
    (h1x : ∀ v ∈ xs, v.oneCell' = true) (h1v : ∀ v ∈ vs, v.oneCell' = true) :
    Calls Tryd.prog 40 #[.slice (some ⟨g, 0, none⟩) n c, .int .i64 i, .slice (some ⟨vb, 0, none⟩) 1 1] w
      fun e w' => e = .returned (.slice (some ⟨g, 0, none⟩) (n + 1) c) ∧ w'.ownsRow base 93 3 (.slice (some ⟨g, 0, none⟩) (n + 1) c) (n + 1) (xs.take (i * 3) ++ vs ++ xs.drop (i * 3)) ∧ w.grownBy w' (some g) := by
  obtain ⟨i0, z0, hi0, hia, hib, hic, hid⟩ := info_size info_snd
  obtain ⟨cur, hbg, hg, hcm, hcs, ht⟩ : ∃ cur : Array Value, base ≤ g ∧ w.heap[g]? = some (.cells cur 93 (0, 0)) ∧ c ≤ maxLen ∧ cur.size = c * 3 ∧ cur.toList.take (n * 3) = xs := by
    rcases hown.2 with ⟨e, _⟩ | ⟨g', cap, cur, e, hb, hg, _, h3, h4, h5⟩
    · cases e
    · injection e with e1 e2 e3
      injection e1 with e1
      injection e1 with e1
      subst e1; subst e3
      exact ⟨cur, hb, hg, h3, h4, h5⟩
  have hxl := hown.1
  have hsz : (Tryd.prog.info? 93).map (·.size) = some 3 := by rw [hi0, Option.map_some, hib]
  have hov : ∀ lb cb, (callFunc 81 #[.slice (some ⟨vb, 0, none⟩) 1 1, .slice (some ⟨g, (i + 1) * 3, none⟩) lb cb]).run Tryd.prog w = .ok (.value (.bool false)) w := fun lb cb => by
    rw [run_callFunc_extern Tryd.func81 (by kernel_rfl) (by kernel_rfl) (by kernel_rfl) (e := Extern.SlicesOverlaps.overlaps #[44, 44] #[4]) (by kernel_rfl),
      Lib.run_overlaps_apart w 44 4 93 Tryd.underlying44 3 Tryd.sizeOf93 ⟨vb, 0, none⟩ ⟨g, (i + 1) * 3, none⟩ 1 1 lb cb hvb 93 93 3 (c * 3) (by simp [World.shape?, hv, hvl]) (by simp [World.shape?, hg, hcs]) (by omega) (by simp [World.frozen?, hv]) (by simp [World.frozen?, hv])]
    rfl
  obtain ⟨N, hN⟩ : ∃ N, N = n * 3 := ⟨_, rfl⟩
  obtain ⟨p, hp⟩ : ∃ p, p = i * 3 := ⟨_, rfl⟩
  have hps : (i + 1) * 3 = p + 3 := by omega
  have hpN : p + 3 ≤ N := by omega
  have hfit : N + 3 ≤ cur.toList.length := by rw [Array.length_toList, hcs]; omega
  obtain ⟨cur1, hc1⟩ : ∃ cur1, cur1 = (cur.toList.take (p + 3) ++ xs.drop p ++ cur.toList.drop (p + 3 + (xs.drop p).length)).toArray := ⟨_, rfl⟩
  have hdl : (xs.drop p).length = (n - i) * 3 := by rw [List.length_drop, hxl]; omega
  have hcp1 : ∀ ty dc sc, (Builtin.copy_ #[44, 44] ty #[.slice (some ⟨g, (i + 1) * 3, none⟩) (n - i) dc, .slice (some ⟨g, i * 3, none⟩) (n + 1 - i) sc]).run Tryd.prog w.drew = .ok (goInt (n - i : Nat)) (w.drew.setRow g cur1) := fun ty dc sc => by
    rw [hps, ← hp, hc1]
    refine run_copy_rows w.drew _ _ ty 93 3 g (p + 3) _ dc ⟨g, p, none⟩ _ sc cur 93 (xs.drop p) (n - i) Tryd.underlying44 hsz hg (by simp only [Nat.min_def]; split <;> omega) hdl (fun j v hj => ?_) ?_ (fun v hv => h1x v (List.mem_of_mem_drop hv))
    · rw [Addr.add_lit, show w.drew.cell? ⟨g, p + j, none⟩ = cur[p + j]? from Lib.cell_of_heap (w := w.drew) hg _, ← Array.getElem?_toList]
      rw [List.getElem?_drop, ← ht, List.getElem?_take] at hj
      split at hj
      · exact hj
      · cases hj
    · rw [hdl]; rw [Array.length_toList] at hfit; omega
  have hg1 : (w.drew.setRow g cur1).heap[g]? = some (.cells cur1 93 (0, 0)) := setRow_heap w.drew g _ _ _ _ hg
  obtain ⟨W1, hW1⟩ : ∃ W1, w.drew.setRow g cur1 = W1 := ⟨_, rfl⟩
  rw [hW1] at hg1
  have hv1 : W1.heap[vb]? = some (.cells vs.toArray 93 (0, 0)) := by rw [← hW1, setRow_other _ _ _ _ hvb]; exact hv
  have hl1 : cur1.toList.length = cur.toList.length := by
    rw [hc1]
    simp only [List.length_append, List.length_take, List.length_drop, hxl]
    omega
  have hcp2 : ∀ ty dc, (Builtin.copy_ #[44, 44] ty #[.slice (some ⟨g, i * 3, none⟩) (n + 1 - i) dc, .slice (some ⟨vb, 0, none⟩) 1 1]).run Tryd.prog W1 = .ok (goInt 1) (W1.setRow g (cur1.toList.take p ++ vs ++ cur1.toList.drop (p + vs.length)).toArray) := fun ty dc => by
    rw [← hp]
    refine run_copy_rows W1 _ _ ty 93 3 g p _ dc ⟨vb, 0, none⟩ 1 1 cur1 93 vs 1 Tryd.underlying44 hsz hg1 (by simp only [Nat.min_def]; split <;> omega) (by omega) (fun j v hj => ?_) (by rw [← Array.length_toList, hl1, hvl]; omega) h1v
    exact World.news_of_block hv1 j v hj
  have hrow : (cur1.toList.take p ++ vs ++ cur1.toList.drop (p + vs.length)) = xs.take p ++ vs ++ xs.drop p ++ cur.toList.drop (N + 3) := by
    rw [hc1, hvl]
    exact ins_row (by rw [hN]; exact ht) (by omega) (by omega) hfit
  obtain ⟨cur2, hc2⟩ : ∃ cur2 : Array Value, cur2 = (xs.take p ++ vs ++ xs.drop p ++ cur.toList.drop (N + 3)).toArray := ⟨_, rfl⟩
  rw [hrow, ← hc2] at hcp2
  have hlen := ins_len (s := 3) (N := N) (show xs.length = N by omega) (show p ≤ N by omega) hvl
  have hOut : (W1.setRow g cur2).ownsRow base 93 3 (.slice (some ⟨g, 0, none⟩) (n + 1) c) (n + 1) (xs.take p ++ vs ++ xs.drop p) := by
    refine ⟨by rw [hlen]; omega, .inr ⟨g, c, _, rfl, hbg, setRow_heap W1 g _ _ _ _ hg1, by omega, hcm, ?_, ?_⟩⟩
    · rw [hc2, List.size_toArray, List.length_append, hlen, List.length_drop, Array.length_toList, hcs]; omega
    · rw [hc2, show (n + 1) * 3 = N + 3 by omega, List.take_append_of_le_length (Nat.le_of_eq hlen.symm)]
      exact List.take_of_length_le (Nat.le_of_eq hlen)
  have hGr : w.grownBy (W1.setRow g cur2) (some g) := by
    rw [← hW1]
    refine ⟨rfl, rfl, rfl, by simp [World.setRow], fun k hk hne => ?_⟩
    have hne' : k ≠ g := by simpa using hne
    rw [setRow_other _ _ _ _ hne', setRow_other _ _ _ _ hne']
    rfl
  have HO := hide hOut
  have HG := hide hGr
  have HP := hide hp
  have hw1 : IntKind.i64.wrap ((i : Int) + 1) = (i : Int) + 1 := by rw [IntKind.wrap_i64]; omega
  have hb1 : (0 : Int) ≤ (i : Int) + 1 := by omega
  have hin : i ≤ n := by omega
  have htn : ((i : Int) + 1).toNat = i + 1 := by omega
  have hb2 : ¬ (c = i + 1) := by omega
  have hb3 : (i : Int) ≤ (n : Int) + 1 := by omega
  have hb4 : ¬ (c = i) := by omega
  have hz2 : ¬ ((i : Int) = (n : Int)) := by omega
  have hcl : c ≤ 9223372036854775807 := by unfold maxLen at hcm; exact hcm
  clear hown hg hcm hcs ht hxl hps hpN hfit hc1 hdl hg1 hv1 hl1 hrow hlen hOut hGr hc2 hp hN hsz hi0 hia hib hic hid
  go_enter Tryd.func40, Tryd.ntmps40
  have mixed : Tryd.prog.follows Departure.mixedOrders = true := by kernel_rfl
  go_wp2_with (simp only [hov])
  go_region_law_o (refine step_copy_is rfl _ _ 44 44 rfl _ _ (by simp [Act.eval, Act.put]) (by simp [Act.eval, Act.put]) (hcp1 _ _ _) ?_)
  go_wp2_with (at_builtin; refine wpList_copy_is _ rfl _ _ 44 44 rfl _ _ rfl rfl (hcp2 _ _) ?_)
  go_ret
  exact ⟨rfl, by rw [← unhide HP]; exact unhide HO, unhide HG⟩

set_option maxHeartbeats 4000000 in
set_option maxRecDepth 100000 in
theorem insS_grow (base : Nat) (g n i vb : Nat) (xs vs : List Value) (w : World) (hown : w.ownsRow base 93 3 (.slice (some ⟨g, 0, none⟩) n n) n xs) (hi : i < n) (hn : n ≤ 1000) (hvl : vs.length = 3) (hv : w.heap[vb]? = some (.cells vs.toArray 93 (0, 0)))
    (h1x : ∀ v ∈ xs, v.oneCell' = true) (h1v : ∀ v ∈ vs, v.oneCell' = true) (hb : base ≤ w.heap.size) :
    Calls Tryd.prog 40 #[.slice (some ⟨g, 0, none⟩) n n, .int .i64 i, .slice (some ⟨vb, 0, none⟩) 1 1] w
      fun e w' => ∃ c', e = .returned (.slice (some ⟨w.heap.size, 0, none⟩) (n + 1) c') ∧ w'.ownsRow base 93 3 (.slice (some ⟨w.heap.size, 0, none⟩) (n + 1) c') (n + 1) (xs.take (i * 3) ++ vs ++ xs.drop (i * 3)) ∧ w.grownBy w' (some g) := by
  obtain ⟨i0, z0, hi0, hia, hib, hic, hid⟩ := info_size info_snd
  obtain ⟨cur, hg, hcs, ht⟩ : ∃ cur : Array Value, w.heap[g]? = some (.cells cur 93 (0, 0)) ∧ cur.size = n * 3 ∧ cur.toList.take (n * 3) = xs := by
    rcases hown.2 with ⟨e, _⟩ | ⟨g', cap, cur, e, hb, hg, _, h3, h4, h5⟩
    · cases e
    · injection e with e1 e2 e3
      injection e1 with e1
      injection e1 with e1
      subst e1; subst e3
      exact ⟨cur, hg, h4, h5⟩
  have hxl := hown.1
  have hsz : (Tryd.prog.info? 93).map (·.size) = some 3 := by rw [hi0, Option.map_some, hib]
  have hgw : g < w.heap.size := (Array.getElem?_eq_some_iff.1 hg).1
  have hvw : vb < w.heap.size := (Array.getElem?_eq_some_iff.1 hv).1
  obtain ⟨N, hN⟩ : ∃ N, N = n * 3 := ⟨_, rfl⟩
  obtain ⟨p, hp⟩ : ∃ p, p = i * 3 := ⟨_, rfl⟩
  have hps : (i + 1) * 3 = p + 3 := by omega
  have hpN : p + 3 ≤ N := by omega
  have hdl : (xs.drop p).length = (n - i) * 3 := by rw [List.length_drop, hxl]; omega
  have hxc : ∀ j v, xs[j]? = some v → w.cell? ⟨g, j, none⟩ = some v := fun j v hj => by
    rw [Lib.cell_of_heap hg, ← Array.getElem?_toList]
    rw [← ht, List.getElem?_take] at hj
    split at hj
    · exact hj
    · cases hj
  have hold : (Builtin.firstCells i0.size i (.slice (some ⟨g, 0, none⟩) i n)).run Tryd.prog w.drew = .ok (xs.take p).toArray w.drew := by
    rw [hib]
    exact run_firstCells_some w.drew 3 i ⟨g, 0, none⟩ i n (xs.take p) (by rw [List.length_take]; omega) (fun j v hj => by
      rw [Addr.add_lit, Nat.zero_add]
      rw [List.getElem?_take] at hj
      split at hj
      · exact hxc j v hj
      · cases hj)
  obtain ⟨G, hG⟩ : ∃ G, G = grownCap w (n + 1) n 93 := ⟨_, rfl⟩
  obtain ⟨Zs, hZs⟩ : ∃ Zs : List Value, Zs = (Builtin.zeroCells z0.cells (n + 1 - i) ++ Builtin.zeroCells z0.cells (G - (n + 1))).toList := ⟨_, rfl⟩
  have hGn : n + 1 ≤ G := by rw [hG]; exact grownCap_ge w _ _ _
  have hGm : G ≤ maxLen := by rw [hG]; exact grownCap_le_maxLen w (n + 1) n 93 (by unfold maxLen; omega)
  have hZl : Zs.length = (G - i) * 3 := by
    rw [hZs, Array.length_toList, Array.size_append, size_zeroCells, size_zeroCells, hid, ← Nat.add_mul]
    congr 1; omega
  have hrow0 : (xs.take p).toArray ++ Builtin.zeroCells z0.cells (n + 1 - i) ++ Builtin.zeroCells z0.cells (G - (n + 1)) = (xs.take p ++ Zs).toArray := by
    rw [hZs, Array.append_assoc, Array.toArray_append, Array.toArray_toList]
  obtain ⟨W1, hW1⟩ : ∃ W1, w.drew.alloc (.cells (xs.take p ++ Zs).toArray 93) = W1 := ⟨_, rfl⟩
  have hrz : ∀ ty, (Builtin.append_ #[44, 3] ty #[.slice (some ⟨g, 0, none⟩) i n, .int .i64 ((n : Int) + 1 - (i : Int))]).run Tryd.prog w = .ok (.slice (some ⟨w.heap.size, 0, none⟩) (n + 1) G) W1 := fun ty => by
    have h := Lib.run_append_grow_zeros w 44 3 ty 93 i0 z0 .i64 .i64 Tryd.underlying44 Tryd.underlying3 hi0 hia (some ⟨g, 0, none⟩) i n (xs.take p) hold (n + 1 - i) (by omega) (by rw [hib]; omega) (by omega) (by omega) (by rw [hic]; omega) (by rw [hic, show i + (n + 1 - i) = n + 1 by omega]; exact growslice_fits (by omega) (by omega))
    rw [show i + (n + 1 - i) = n + 1 by omega, ← hG, hrow0, hW1] at h
    rw [show (n : Int) + 1 - (i : Int) = ((n + 1 - i : Nat) : Int) by omega]
    exact h
  have hB1 : W1.heap[w.heap.size]? = some (.cells (xs.take p ++ Zs).toArray 93 (0, 0)) := by rw [← hW1]; exact heap_alloc_new w.drew _
  have hv1 : W1.heap[vb]? = some (.cells vs.toArray 93 (0, 0)) := by rw [← hW1, Below.heap_alloc _ _ _ (show vb < w.drew.heap.size from hvw)]; exact hv
  have hg1 : W1.heap[g]? = some (.cells cur 93 (0, 0)) := by rw [← hW1, Below.heap_alloc _ _ _ (show g < w.drew.heap.size from hgw)]; exact hg
  have hcpA : ∀ ty dc, (Builtin.copy_ #[44, 44] ty #[.slice (some ⟨w.heap.size, i * 3, none⟩) (n + 1 - i) dc, .slice (some ⟨vb, 0, none⟩) 1 1]).run Tryd.prog W1 = .ok (goInt 1) (W1.setRow w.heap.size ((xs.take p ++ Zs).take p ++ vs ++ (xs.take p ++ Zs).drop (p + vs.length)).toArray) := fun ty dc => by
    rw [← hp]
    refine run_copy_rows W1 _ _ ty 93 3 w.heap.size p _ dc ⟨vb, 0, none⟩ 1 1 (xs.take p ++ Zs).toArray 93 vs 1 Tryd.underlying44 hsz hB1 (by simp only [Nat.min_def]; split <;> omega) (by omega) (fun j v hj => World.news_of_block hv1 j v hj) ?_ h1v
    rw [List.size_toArray, List.length_append, List.length_take, hZl]; omega
  obtain ⟨R1, hR1⟩ : ∃ R1 : List Value, R1 = (xs.take p ++ Zs).take p ++ vs ++ (xs.take p ++ Zs).drop (p + vs.length) := ⟨_, rfl⟩
  rw [← hR1] at hcpA
  have hl1 : R1.length = G * 3 := by
    rw [hR1]
    simp only [List.length_append, List.length_take, List.length_drop, hZl, hxl]
    omega
  obtain ⟨W2, hW2⟩ : ∃ W2, W1.setRow w.heap.size R1.toArray = W2 := ⟨_, rfl⟩
  have hB2 : W2.heap[w.heap.size]? = some (.cells R1.toArray 93 (0, 0)) := by rw [← hW2]; exact setRow_heap W1 _ _ _ _ _ hB1
  have hg2 : W2.heap[g]? = some (.cells cur 93 (0, 0)) := by rw [← hW2, setRow_other _ _ _ _ (by omega)]; exact hg1
  have hcpB : ∀ ty dc sc, (Builtin.copy_ #[44, 44] ty #[.slice (some ⟨w.heap.size, (i + 1) * 3, none⟩) (n - i) dc, .slice (some ⟨g, i * 3, none⟩) (n - i) sc]).run Tryd.prog W2.drew = .ok (goInt (n - i : Nat)) (W2.drew.setRow w.heap.size (R1.take (p + 3) ++ xs.drop p ++ R1.drop (p + 3 + (xs.drop p).length)).toArray) := fun ty dc sc => by
    rw [hps, ← hp]
    refine run_copy_rows W2.drew _ _ ty 93 3 w.heap.size (p + 3) _ dc ⟨g, p, none⟩ _ sc R1.toArray 93 (xs.drop p) (n - i) Tryd.underlying44 hsz hB2 (by simp only [Nat.min_def]; split <;> omega) hdl (fun j v hj => ?_) ?_ (fun v hv => h1x v (List.mem_of_mem_drop hv))
    · rw [Addr.add_lit, show W2.drew.cell? ⟨g, p + j, none⟩ = cur[p + j]? from Lib.cell_of_heap (w := W2.drew) hg2 _, ← Lib.cell_of_heap hg]
      rw [List.getElem?_drop] at hj
      exact hxc _ v hj
    · rw [hdl, List.size_toArray, hl1]; omega
  have hrow : R1.take (p + 3) ++ xs.drop p ++ R1.drop (p + 3 + (xs.drop p).length) = xs.take p ++ vs ++ xs.drop p ++ Zs.drop (N + 3 - p) := by
    rw [hR1]
    exact grow_row (s := 3) (N := N) (by omega) (by omega) hvl
  obtain ⟨R2, hR2⟩ : ∃ R2 : Array Value, R2 = (xs.take p ++ vs ++ xs.drop p ++ Zs.drop (N + 3 - p)).toArray := ⟨_, rfl⟩
  rw [hrow, ← hR2] at hcpB
  have hlen := ins_len (s := 3) (N := N) (show xs.length = N by omega) (show p ≤ N by omega) hvl
  have hOut : (W2.drew.setRow w.heap.size R2).ownsRow base 93 3 (.slice (some ⟨w.heap.size, 0, none⟩) (n + 1) G) (n + 1) (xs.take p ++ vs ++ xs.drop p) := by
    refine ⟨by rw [hlen]; omega, .inr ⟨w.heap.size, G, _, rfl, hb, setRow_heap W2.drew _ _ _ _ _ hB2, by omega, hGm, ?_, ?_⟩⟩
    · rw [hR2, List.size_toArray, List.length_append, hlen, List.length_drop, hZl]; omega
    · rw [hR2, show (n + 1) * 3 = N + 3 by omega, List.take_append_of_le_length (Nat.le_of_eq hlen.symm)]
      exact List.take_of_length_le (Nat.le_of_eq hlen)
  have hGr : w.grownBy (W2.drew.setRow w.heap.size R2) (some g) := by
    rw [← hW2, ← hW1]
    refine ⟨rfl, rfl, rfl, by simp [World.setRow], fun k hk hne => ?_⟩
    have hk' : k ≠ w.heap.size := by omega
    rw [setRow_other _ _ _ _ hk']
    show ((w.drew.alloc _).setRow w.heap.size R1.toArray).heap[k]? = _
    rw [setRow_other _ _ _ _ hk']
    exact Below.heap_alloc w.drew _ _ hk
  have HO := hide hOut
  have HG := hide hGr
  have HP := hide hp
  have hw1 : IntKind.i64.wrap ((i : Int) + 1) = (i : Int) + 1 := by rw [IntKind.wrap_i64]; omega
  have hb1 : (0 : Int) ≤ (i : Int) + 1 := by omega
  have hin : i ≤ n := by omega
  have htn : ((i : Int) + 1).toNat = i + 1 := by omega
  have hb2 : ¬ (G = i + 1) := by omega
  have hb3 : (i : Int) ≤ (n : Int) := by omega
  have hb4 : ¬ (G = i) := by omega
  have hb5 : ¬ (n = i) := by omega
  have hz2 : ¬ ((i : Int) = (n : Int)) := by omega
  have hcl : G ≤ 9223372036854775807 := by unfold maxLen at hGm; exact hGm
  have mixed : Tryd.prog.follows Departure.mixedOrders = true := by kernel_rfl
  clear hown hg hcs ht hxl hps hpN hdl hxc hold hG hZs hGm hZl hrow0 hB1 hv1 hg1 hl1 hR1 hB2 hg2 hrow hlen hR2 hOut hGr hp hN hsz hi0 hia hib hic hid hgw hvw
  go_enter Tryd.func40, Tryd.ntmps40
  go_wp2_with (first
    | (at_builtin; refine Lib.wpList_append_run _ rfl _ _ _ _ rfl _ _ rfl rfl _ _ (hrz _) ?_)
    | (at_builtin; refine wpList_copy_is _ rfl _ _ 44 44 rfl _ _ rfl rfl (hcpA _ _) ?_))
  go_region_law_o (refine step_copy_is rfl _ _ 44 44 rfl _ _ (by simp [Act.eval, Act.put]) (by simp [Act.eval, Act.put]) (hcpB _ _ _) ?_)
  go_wp2
  go_ret
  exact ⟨_, rfl, by rw [← unhide HP]; exact unhide HO, unhide HG⟩

/-- Insert of one thing, at any place. -/
theorem insS_any (base : Nat) (A : Option Addr) (n c i vb : Nat) (xs vs : List Value) (w : World) (hown : w.ownsRow base 93 3 (.slice A n c) n xs) (hi : i ≤ n) (hn : n ≤ 1000) (hvl : vs.length = 3) (hv : w.heap[vb]? = some (.cells vs.toArray 93 (0, 0)))
    (hvb : ∀ k, (Value.slice A n c).ownBlock = some k → vb ≠ k) (h1x : ∀ v ∈ xs, v.oneCell' = true) (h1v : ∀ v ∈ vs, v.oneCell' = true) (hb : base ≤ w.heap.size) :
    Calls Tryd.prog 40 #[.slice A n c, .int .i64 i, .slice (some ⟨vb, 0, none⟩) 1 1] w
      fun e w' => ∃ A' c', e = .returned (.slice A' (n + 1) c') ∧ w'.ownsRow base 93 3 (.slice A' (n + 1) c') (n + 1) (xs.take (i * 3) ++ vs ++ xs.drop (i * 3)) ∧ w.grownBy w' (Value.slice A n c).ownBlock := by
  by_cases hin : i = n
  · subst hin
    refine (insS_end base A i c vb xs vs w hown hn hvl hv h1v hb).mono ?_
    rintro e w' ⟨A', c', rfl, h2, h3⟩
    refine ⟨A', c', rfl, ?_, h3⟩
    rw [← hown.1, List.take_length, List.drop_length, List.append_nil]
    exact h2
  · rcases hown.2 with ⟨e, hn0⟩ | ⟨g, cap, cur, e, hbg, hg, hnc, _⟩
    · omega
    · obtain ⟨rfl, rfl⟩ : A = some ⟨g, 0, none⟩ ∧ c = cap := by injection e with e1 e2 e3; exact ⟨e1, e3⟩
      by_cases hc : n + 1 ≤ c
      · refine (insS_room base g n c i vb xs vs w hown (by omega) hn hc hvl hv (hvb g rfl) h1x h1v).mono ?_
        rintro e w' ⟨rfl, h2, h3⟩
        exact ⟨_, _, rfl, h2, h3⟩
      · obtain rfl : c = n := by omega
        refine (insS_grow base g c i vb xs vs w hown (by omega) hn hvl hv h1x h1v hb).mono ?_
        rintro e w' ⟨c', rfl, h2, h3⟩
        exact ⟨_, _, rfl, h2, h3⟩
end Go.Proofs.YtcjdjdganaokfaaDoor
