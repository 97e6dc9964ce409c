/-
  Contract of release: the messages up to the first gap are taken out of those that a sender holds.
-/
import Derived.Test.YtcjdjdganaokfaaDoorInbF
namespace Go.Proofs.YtcjdjdganaokfaaDoor
open Go.RowKit

/-- How many messages follow one another from a number on. -/
def relN : Int → List Msg → Nat
  | _, [] => 0
  | n, m :: l => if m.num = n then relN (n + 1) l + 1 else 0
theorem relN_eq : ∀ (l : List Msg) (n : Int) (k : Nat), k ≤ l.length → (∀ j, j < k → (l.getD j msg0).num = n + (j : Int)) → (k < l.length → (l.getD k msg0).num ≠ n + (k : Int)) → relN n l = k
  | [], _, k, hk, _, _ => by simp at hk; simp [relN, hk]
  | m :: l, n, 0, _, _, h2 => by
    have : m.num ≠ n := by simpa using h2 (by simp)
    unfold relN
    rw [if_neg this]
  | m :: l, n, k + 1, hk, h1, h2 => by
    have h0 : m.num = n := by simpa using h1 0 (Nat.succ_pos _)
    have ih := relN_eq l (n + 1) k (by simpa using hk) (fun j hj => by have := h1 (j + 1) (by omega); simp at this; simp; omega) (fun h => by have := h2 (by simpa using h); simp at this; simp; omega)
    unfold relN
    rw [if_pos h0, ih]

/-- A row of senders in which the second and the third cell of one sender may differ. -/
structure Chg (cur cur' : Array Value) (o : Nat) : Prop where
  size : cur'.size = cur.size
  same : ∀ j, j ≠ o + 1 → j ≠ o + 2 → cur'[j]? = cur[j]?
theorem Chg.refl (cur : Array Value) (o : Nat) : Chg cur cur o := ⟨rfl, fun _ _ _ => rfl⟩
theorem Chg.set1 {cur cur' : Array Value} {o : Nat} (h : Chg cur cur' o) (v : Value) : Chg cur (cur'.setIfInBounds (o + 1) v) o :=
  ⟨by simpa using h.size, fun j h1 h2 => by rw [Array.getElem?_setIfInBounds, if_neg (by omega)]; exact h.same j h1 h2⟩
theorem Chg.set2 {cur cur' : Array Value} {o : Nat} (h : Chg cur cur' o) (v : Value) : Chg cur (cur'.setIfInBounds (o + 2) v) o :=
  ⟨by simpa using h.size, fun j h1 h2 => by rw [Array.getElem?_setIfInBounds, if_neg (by omega)]; exact h.same j h1 h2⟩
theorem set_same {cur : Array Value} {i : Nat} {v u : Value} (h : cur[i]? = some u) : (cur.setIfInBounds i v)[i]? = some v := by
  rw [Array.getElem?_setIfInBounds, if_pos rfl, if_pos (Array.getElem?_eq_some_iff.1 h).1]
theorem set_other {cur : Array Value} {i j : Nat} {v : Value} (h : i ≠ j) : (cur.setIfInBounds i v)[j]? = cur[j]? := by
  rw [Array.getElem?_setIfInBounds, if_neg h]

/-- release under way. -/
structure Rel (w : World) (base G o : Nat) (cur : Array Value) (s : SnS) (k : Nat) (W : World) : Prop where
  gr : w.grownBy W (some G)
  row : ∃ cur', W.heap[G]? = some (.cells cur' 93 (0, 0)) ∧ Chg cur cur' o ∧ cur'[o]? = some (.string s.port) ∧ cur'[o + 1]? = some (.int .i64 (s.next + (k : Int))) ∧ cur'[o + 2]? = some (.slice s.A s.held.length s.c)
  own : MsgsOwn base W s.A s.c s.held
theorem Rel.below {w : World} {base G o : Nat} {cur : Array Value} {s : SnS} {k : Nat} {W W' : World} (h : Rel w base G o cur s k W) (hd : Below W.heap.size W W') : Rel w base G o cur s k W' := by
  obtain ⟨cur', h1, h2⟩ := h.row
  exact ⟨Lib.grownBy_trans h.gr (gr_below hd _), ⟨cur', (hd.block _ (Array.getElem?_eq_some_iff.1 h1).1).trans h1, h2⟩, h.own.below hd⟩
theorem Rel.drew {w : World} {base G o : Nat} {cur : Array Value} {s : SnS} {k : Nat} {W : World} (h : Rel w base G o cur s k W) (n : Nat) : Rel w base G o cur s k (W.drewN n) := h.below (draws (Below.refl _ _) n)
theorem Rel.next {w : World} {base G o : Nat} {cur : Array Value} {s : SnS} {k : Nat} {W : World} (h : Rel w base G o cur s k W) : Rel w base G o cur s (k + 1) (W.setCell ⟨G, o + 1, none⟩ (.int .i64 (s.next + (k : Int) + 1))) := by
  obtain ⟨cur', h1, h2, h3, h4, h5⟩ := h.row
  refine ⟨Lib.grownBy_setB h.gr _ _, ⟨_, heap_setM _ h1, h2.set1 _, ?_, ?_, ?_⟩, h.own.step (KeepTy.set h1 (by decide) _ _) (KeepTy.set h1 (by decide) _ _) (KeepTy.set h1 (by decide) _ _)⟩
  · rw [set_other (by omega)]; exact h3
  · rw [set_same h4]; congr 2; omega
  · rw [set_other (by omega)]; exact h5

/-- What release leaves behind. -/
def Releases (base G o : Nat) (cur : Array Value) (s : SnS) (w : World) (e : Ending) (w' : World) : Prop :=
  ∃ (A' : Option Addr) (c' : Nat) (ys : List MsS) (Ar : Option Addr) (cr : Nat) (cur' : Array Value),
    e = .returned (.slice A' ys.length c') ∧ ys.map (·.m) = (s.held.map (·.m)).take (relN s.next (s.held.map (·.m))) ∧ MsgsOwn w.heap.size w' A' c' ys ∧
    w.grownBy w' (some G) ∧ w'.heap[G]? = some (.cells cur' 93 (0, 0)) ∧ Chg cur cur' o ∧ cur'[o + 1]? = some (.int .i64 (s.next + (relN s.next (s.held.map (·.m)) : Nat))) ∧
    cur'[o + 2]? = some (.slice Ar (s.held.length - relN s.next (s.held.map (·.m))) cr) ∧ ∀ b, b < base → MsgsIn b w' Ar (s.held.drop (relN s.next (s.held.map (·.m))))

/-- The messages behind the first ones, in the same row. -/
theorem MsgsOwn.drop {b base : Nat} {w : World} {g c : Nat} {xs : List MsS} (h : MsgsOwn base w (some ⟨g, 0, none⟩) c xs) (hb : b < base) (k : Nat) : MsgsIn b w (some ⟨g, k * 30, none⟩) (xs.drop k) := fun hn => by
  rw [List.length_drop] at hn
  obtain ⟨g', off, e, hg, hc, hl⟩ := h.ins hb (by omega)
  injection e with e
  injection e with e1 e2
  subst e1; subst e2
  refine ⟨g, k * 30, rfl, hg, fun j u hu => ?_, fun x hx => hl x (List.mem_of_mem_drop hx)⟩
  rw [← flatK_drop MsS.cs 30 MsS.cs_len, List.getElem?_drop] at hu
  have := hc _ u hu
  rwa [Nat.zero_add] at this

theorem MsgsIn.take {b : Nat} {w : World} {A : Option Addr} {xs : List MsS} (h : MsgsIn b w A xs) (k : Nat) : MsgsIn b w A (xs.take k) := fun hn => by
  rw [List.length_take] at hn
  obtain ⟨g, off, hA, hg, hc, hl⟩ := h (by omega)
  refine ⟨g, off, hA, hg, fun j u hu => hc j u ?_, fun x hx => hl x (List.mem_of_mem_take hx)⟩
  rw [← flatK_take MsS.cs 30 MsS.cs_len, List.getElem?_take] at hu
  split at hu
  · exact hu
  · cases hu
/-- The end of release. -/
theorem MsgsIn.end (b : Nat) (V : World) (A : Option Addr) (xs : List MsS) : MsgsIn b V A (xs.drop xs.length) := by rw [List.drop_eq_nil_of_le (Nat.le_refl _)]; exact MsgsIn.nil _ _ _
theorem Rel.done {w : World} {base G o : Nat} {cur : Array Value} {s : SnS} {k : Nat} {W W' : World} (h : Rel w base G o cur s k W) (hb : Below W.heap.size W W') {A' : Option Addr} {c' : Nat} {ys : List MsS} (hy : ys.map (·.m) = (s.held.take k).map (·.m)) (ho : MsgsOwn W.heap.size W' A' c' ys)
    (hk : relN s.next (s.held.map (·.m)) = k) {z : Nat} (hz : s.held.length - k = z) {Ar : Option Addr} {cr : Nat} (hd : ∀ b V, b < base → MsgsOwn base V s.A s.c s.held → MsgsIn b V Ar (s.held.drop k)) : Releases base G o cur s w (.returned (.slice A' ys.length c')) (W'.setCell ⟨G, o + 2, none⟩ (.slice Ar z cr)) := by
  subst hz
  obtain ⟨cur', h1, h2, h3, h4, h5⟩ := (h.below hb).row
  have hO := (h.below hb).own.step (KeepTy.set h1 (by decide) (o + 2) (.slice Ar (s.held.length - k) cr)) (KeepTy.set h1 (by decide) _ _) (KeepTy.set h1 (by decide) _ _)
  refine ⟨A', c', ys, Ar, cr, _, rfl, ?_, ?_, Lib.grownBy_setB (h.below hb).gr _ _, heap_setM _ h1, h2.set2 _, ?_, ?_, ?_⟩
  · rw [hk, hy, List.map_take]
  · exact (ho.base h.gr.size).step (KeepTy.set h1 (by decide) _ _) (KeepTy.set h1 (by decide) _ _) (KeepTy.set h1 (by decide) _ _)
  · rw [hk, set_other (by omega)]; exact h4
  · rw [hk, set_same h5]
  · rw [hk]; exact fun b hb => hd b _ hb hO

set_option maxHeartbeats 4000000 in
set_option maxRecDepth 100000 in
theorem release_some (b base G o g : Nat) (cur : Array Value) (s : SnS) (w : World) (hA : s.A = some ⟨g, 0, none⟩) (hlc : s.held.length ≤ s.c) (hG : w.heap[G]? = some (.cells cur 93 (0, 0))) (h0 : cur[o]? = some (.string s.port)) (h1 : cur[o + 1]? = some (.int .i64 s.next)) (h2 : cur[o + 2]? = some (.slice s.A s.held.length s.c))
    (hs : MsgsOwn base w s.A s.c s.held) (hb : b < base) (hz : s.held.length ≤ 1000) (hf : ∀ x ∈ s.held, x.m.onw.length ≤ 1000 ∧ x.m.lst.length ≤ 1000) (hn1 : 0 ≤ s.next) (hn2 : s.next ≤ 1000000000) :
    Calls Tryd.prog 42 #[.pointer (some ⟨G, o, none⟩)] w (Releases base G o cur s w) := by
  have hS : Rel w base G o cur s 0 w := ⟨World.grownBy.refl _ _, ⟨cur, hG, Chg.refl _ _, h0, by rw [h1]; congr 2; omega, h2⟩, hs⟩
  have HS := hide hS
  have HF := hide hf
  have HA := hide hA
  clear hS hf hA hs h0 h1 h2 hG
  go_enter Tryd.func42, Tryd.ntmps42
  go_wp2
  go_loopw [3] (fun i wr => ∃ k : Nat, k ≤ s.held.length ∧ i = .int .i64 k ∧ Hid (∀ j, j < k → (s.held.getD j ms0).m.num = s.next + (j : Int)) ∧ Hid (Rel w base G o cur s k wr)) (fun i _ => s.held.length - (intOf i).toNat)
  case atStart => exact ⟨0, Nat.zero_le _, rfl, Lib.hid (fun j hj => absurd hj (Nat.not_lt_zero _)), HS⟩
  case round =>
    obtain ⟨k, hk, rfl, HJ, HR⟩ := hrel
    obtain ⟨wo, rfl⟩ : ∃ wo : World, wo = wr := ⟨_, rfl⟩
    obtain ⟨cur', e1, e2, e3, e4, e5⟩ := HR.out.row
    have y1 : wo.cell? ⟨G, o + 1, none⟩ = some (.int .i64 (s.next + (k : Int))) := by rw [Lib.cell_of_heap e1]; exact e4
    have y2 : wo.cell? ⟨G, o + 2, none⟩ = some (.slice s.A s.held.length s.c) := by rw [Lib.cell_of_heap e1]; exact e5
    have f1 := Lib.frozen_of_heap e1 (o + 1)
    rw [unhide HA] at y2
    have hw : IntKind.i64.wrap (s.next + (k : Int) + 1) = s.next + (k : Int) + 1 := by rw [IntKind.wrap_i64]; omega
    have HW := hide (HR.out.own.ins hb)
    clear e1 e2 e3 e4 e5
    by_cases hlt : k < s.held.length
    · obtain ⟨g', off, hA', hg, hc, hl⟩ := (unhide HW).at hlt
      have hA'' := unhide HA
      rw [hA'] at hA''
      injection hA'' with e
      injection e with e1 e2
      subst e1; subst e2
      have z3 : wo.cell? ⟨g', k * 30 + 3, none⟩ = some (.int .i64 (s.held.getD k ms0).m.num) := by
        have := hc 3 (.int .i64 (s.held.getD k ms0).m.num) rfl
        rwa [Nat.zero_add] at this
      have kl : (k : Int) < (s.held.length : Int) := by omega
      have HN := hide (show (s.held.getD k ms0).m.num = s.next + (k : Int) → ∀ j, j < k + 1 → (s.held.getD j ms0).m.num = s.next + (j : Int) from fun h j hj => by
        by_cases hjk : j = k
        · rw [hjk]; exact h
        · exact HJ.out j (by omega))
      by_cases hq : (s.held.getD k ms0).m.num = s.next + (k : Int)
      · have HQ := hide (unhide HN hq)
        have hq' : ((s.held.getD k ms0).m.num == s.next + (k : Int)) = true := by rw [hq]; exact beq_self_eq_true _
        clear HN hc hl hA'
        rw [hq] at z3
        clear hq hq'
        go_wp2_with fail
        go_quiet (fail)
        go_wp2
        go_roundw
        case rel => exact ⟨k + 1, by omega, by go_num, HQ, Lib.hid (HR.out.drew nq).next⟩
        case measure => simp [intOf]; omega
      · have hq' : ((s.held.getD k ms0).m.num == s.next + (k : Int)) = false := by rw [beq_eq_false_iff_ne]; exact hq
        have HE := hide (show relN s.next (s.held.map (·.m)) = k from relN_eq _ _ _ (by rw [List.length_map]; omega) (fun j hj => by
          have := HJ.out j hj
          rw [at_k (by omega)] at this
          rw [at_k (by rw [List.length_map]; omega), List.getElem_map]
          exact this) (fun _ => by
          rw [at_k hlt] at hq
          rw [at_k (by rw [List.length_map]; omega), List.getElem_map]
          exact hq))
        clear HN hc hl hA' hq
        generalize (s.held.getD k ms0).m.num = num at *
        go_wp2_with fail
        go_quiet (fail)
        have HR2 := hide (HR.out.drew nq)
        have hlen : (s.held.take k).length = k := by rw [List.length_take]; omega
        have hcs := cms_any b s.A s.c (s.held.take k) (wo.drewN nq) (((unhide HR2).own.ins hb).take k) (by omega) (fun x hx => unhide HF x (List.mem_of_mem_take hx))
        rw [hlen, unhide HA] at hcs
        have HC := hide hcs
        clear hcs hlen
        have ck : k ≤ s.c := by omega
        have kz : (0 : Int) ≤ (k : Int) := by omega
        have kc : (k : Int) ≤ (s.c : Int) := by omega
        go_wp2_with fail
        refine (unhide HC).mono ?_
        rintro e w4 ⟨A', c', ys, rfl, hym, hyo, hb4⟩
        have hR4 := (unhide HR2).below hb4
        obtain ⟨cur4, i1, i2, i3, i4, i5⟩ := hR4.row
        have q2 : w4.cell? ⟨G, o + 2, none⟩ = some (.slice s.A s.held.length s.c) := by rw [Lib.cell_of_heap i1]; exact i5
        have r2 := Lib.frozen_of_heap i1 (o + 2)
        rw [unhide HA] at q2
        have HY := hide hym
        have HO := hide hyo
        have HB4 := hide hb4
        clear hym hyo hb4 hR4 i1 i2 i3 i4 i5
        have hkc : ¬ s.c = k := by omega
        go_wp2
        go_ret
        exact (unhide HR2).done (unhide HB4) (unhide HY) (unhide HO) (unhide HE) rfl (fun b V hb hO => by rw [unhide HA] at hO; exact hO.drop hb k)
    · obtain rfl : k = s.held.length := by omega
      have HE := hide (show relN s.next (s.held.map (·.m)) = s.held.length from relN_eq _ _ _ (by rw [List.length_map]; omega) (fun j hj => by
        have := HJ.out j hj
        rw [at_k hj] at this
        rw [at_k (by rw [List.length_map]; omega), List.getElem_map]
        exact this) (fun h => by rw [List.length_map] at h; omega))
      go_wp2_with fail
      go_quiet (fail)
      have HR2 := hide (HR.out.drew nq)
      have hlen : (s.held.take s.held.length).length = s.held.length := by rw [List.length_take]; omega
      have hcs := cms_any b s.A s.c (s.held.take s.held.length) (wo.drewN nq) (((unhide HR2).own.ins hb).take s.held.length) (by omega) (fun x hx => unhide HF x (List.mem_of_mem_take hx))
      rw [hlen, unhide HA] at hcs
      have HC := hide hcs
      clear hcs hlen
      have ck : s.held.length ≤ s.c := by omega
      have kz : (0 : Int) ≤ (s.held.length : Int) := by omega
      have kc : (s.held.length : Int) ≤ (s.c : Int) := by omega
      go_wp2_with fail
      refine (unhide HC).mono ?_
      rintro e w4 ⟨A', c', ys, rfl, hym, hyo, hb4⟩
      have hR4 := (unhide HR2).below hb4
      obtain ⟨cur4, i1, i2, i3, i4, i5⟩ := hR4.row
      have q2 : w4.cell? ⟨G, o + 2, none⟩ = some (.slice s.A s.held.length s.c) := by rw [Lib.cell_of_heap i1]; exact i5
      have r2 := Lib.frozen_of_heap i1 (o + 2)
      rw [unhide HA] at q2
      have HY := hide hym
      have HO := hide hyo
      have HB4 := hide hb4
      clear hym hyo hb4 hR4 i1 i2 i3 i4 i5
      by_cases hkc : s.c = s.held.length
      · go_wp2
        go_ret
        exact (unhide HR2).done (unhide HB4) (unhide HY) (unhide HO) (unhide HE) (Nat.sub_self _) (fun b V _ _ => MsgsIn.end b V _ _)
      · go_wp2
        go_ret
        exact (unhide HR2).done (unhide HB4) (unhide HY) (unhide HO) (unhide HE) (Nat.sub_self _) (fun b V _ _ => MsgsIn.end b V _ _)

theorem release_any (b base G o : Nat) (cur : Array Value) (s : SnS) (w : World) (hne : 0 < s.held.length) (hG : w.heap[G]? = some (.cells cur 93 (0, 0))) (h0 : cur[o]? = some (.string s.port)) (h1 : cur[o + 1]? = some (.int .i64 s.next)) (h2 : cur[o + 2]? = some (.slice s.A s.held.length s.c))
    (hs : MsgsOwn base w s.A s.c s.held) (hb : b < base) (hf : FewM s.held) (hn1 : 0 ≤ s.next) (hn2 : s.next ≤ 1000000000) :
    Calls Tryd.prog 42 #[.pointer (some ⟨G, o, none⟩)] w (Releases base G o cur s w) := by
  obtain ⟨g, _, hA, _, _, hc, _, _⟩ := own_cells hs.row hne
  exact release_some b base G o g cur s w hA hc hG h0 h1 h2 hs hb hf.1 hf.2 hn1 hn2
end Go.Proofs.YtcjdjdganaokfaaDoor
