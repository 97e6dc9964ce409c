/-
  Crane (layer 18): an order that the laws choose (permutation): numbers put in by append(append(out[:k:k], x), rest...).
-/
import Derived.Test.YtjgjgilpebeelaaCraB
import Derived.Test.YtjgjgilpebeelaaCpyG
import Derived.Test.YtjgjgilpebeelaaAppK
namespace Go.Proofs.Ytjgjgilpebeelaa
open Go.RowKit

theorem wpList_append_any {P : Program} {ops : Array Oper} {rest : List Oper} {o : Oper} {a : Act} {w : World} {Q : Exit → Act → World → Prop} (hgd : o.guard = none) (s x : Operand) (t : TypeId)
    (ho : o.op = .call { callee := .builtin .append, args := #[s, x], argTypes := #[t, t] })
    (base : Nat) (e : TypeId) (i : TypeInfo) (z : Value) (size bytes : Nat) (ht : P.underlying t = some (.slice e)) (hi : P.info? e = some i) (hz : i.zero = some z)
    (hsize : i.size = size) (hby : i.bytes = bytes) (hzs : z.cells.size = size) (hsz : 0 < size)
    (v : Value) (n : Nat) (xs : List Value) (hs : a.eval s = v) (hown : w.ownsRow base e size v n xs)
    (A : Option Addr) (m c : Nat) (news : List Value) (hx : a.eval x = .slice A m c) (hl : news.length = m * size) (hsrc : 0 < m → ∃ g off, A = some ⟨g, off, none⟩ ∧ ∀ j u, news[j]? = some u → w.cell? ⟨g, off + j, none⟩ = some u) (h1 : ∀ u ∈ news, u.oneCell' = true)
    (h63 : n + m ≤ maxLen) (hbytes : (n + m) * bytes ≤ 140737488355328) (hbase : base ≤ w.heap.size)
    (h : ∀ v' w', w'.ownsRow base e size v' (n + m) (xs ++ news) → w.grownBy w' v.ownBlock → (v'.ownBlock = v.ownBlock ∨ v'.ownBlock = some w.heap.size) → wpList P ops Q rest (a.put o.dst v') w') : wpList P ops Q (o :: rest) a w :=
  wpList_plain hgd fun _ hK => wp_append_any s x t ho base e i z size bytes ht hi hz hsize hby hzs hsz v n xs hs hown A m c news hx hl hsrc h1 h63 hbytes hbase fun v' w' a1 a2 a3 => hK _ _ (h v' w' a1 a2 a3)
/-- A row of numbers of a call's own, as its address and its cells. -/
theorem own_open {w : World} {B n c : Nat} {A : Option Addr} {l : List Int} (h : w.ownsRow B 3 1 (.slice A n c) n (l.map (Value.int .i64))) : l.length = n ∧ ((A = none ∧ n = 0 ∧ c = 0 ∧ l = []) ∨ ∃ q, A = some ⟨q, 0, none⟩ ∧ n ≤ c ∧ c ≤ maxLen ∧ ∀ j u, (l.map (Value.int .i64))[j]? = some u → w.cell? ⟨q, j, none⟩ = some u) := by
  have hl : l.length = n := by have := h.1; rw [List.length_map] at this; omega
  refine ⟨hl, ?_⟩
  rcases h.2 with ⟨h1, h2⟩ | ⟨g, cap, cur, hv, hb, hg, h3, h4, h5, ht⟩
  · injection h1 with e1 e2 e3
    exact .inl ⟨e1, h2, e3, List.eq_nil_of_length_eq_zero (by omega)⟩
  · injection hv with e1 e2 e3
    subst e3
    refine .inr ⟨g, e1, h3, h4, fun j u hu => ?_⟩
    rw [Lib.cell_of_heap hg, ← Array.getElem?_toList]
    rw [← ht, List.getElem?_take] at hu
    split at hu
    · exact hu
    · cases hu
theorem ints_one {l : List Int} : ∀ u ∈ l.map (Value.int .i64), u.oneCell' = true := fun u hu => by
  obtain ⟨x, _, rfl⟩ := List.mem_map.1 hu; rfl
def PermTo (n : Nat) (w : World) (e : Ending) (w' : World) : Prop := ∃ (o : List Int) (A : Option Addr) (c : Nat), e = .returned (.slice A n c) ∧ o.Perm (upI n) ∧ w'.ownsRow (w.heap.size + 1) 3 1 (.slice A n c) n (o.map (Value.int .i64)) ∧ Below w.heap.size w w' ∧ w.heap.size < w'.heap.size
theorem ins_perm {o : List Int} {i k : Nat} (h : o.Perm (upI i)) (_hk : k ≤ i) : (o.take k ++ [(i : Int)] ++ o.drop k).Perm (upI (i + 1)) := by
  have e : upI (i + 1) = upI i ++ [(i : Int)] := by unfold upI; rw [List.range_succ, List.map_append]; rfl
  rw [e, List.append_assoc]
  refine (List.perm_middle (a := (i : Int)) (l₁ := o.take k) (l₂ := o.drop k)).trans ?_
  rw [List.take_append_drop]
  exact (h.cons (i : Int)).trans (List.perm_append_comm (l₁ := [(i : Int)]) (l₂ := upI i))
set_option maxHeartbeats 4000000 in
set_option maxRecDepth 100000 in
theorem perm_any (n : Nat) (hn : n ≤ 10) (A0 : Option Addr) (n0 c0 : Nat) (w : World) (hc : n0 ≤ c0) (hA : IntsIn w.heap.size w A0 n0) : Calls Try.prog 10 #[.slice A0 n0 c0, .int .i64 n] w (PermTo n w) := by
  have HNew := hide (new_any A0 n0 c0 w hc hA)
  obtain ⟨i0, hi, hz0, hz1, hz2⟩ := info_parts linfo_int
  have HI0 := hide hi
  have HZ0 := hide hz0
  have HZ1 := hide hz1
  have HZ2 := hide hz2
  clear hi hz0 hz1 hz2 hA
  go_enter Try.func10, Try.ntmps10
  go_wp2_with fail
  refine (unhide HNew).mono ?_
  rintro e w1 ⟨rfl, hs1, hb1⟩
  have H0 := hide (show Src w.heap.size w.heap.size w1 ∧ Below w.heap.size w w1 ∧ w1.ownsRow (w.heap.size + 1) 3 1 (.slice none 0 0) 0 (([] : List Int).map (Value.int .i64)) from ⟨hs1, hb1, World.ownsRow_nil _ _ _ _⟩)
  clear hs1 hb1 HNew
  go_wp2_with fail
  go_loopw [6, 7] (fun s6 s7 wr => ∃ (i : Nat) (o : List Int) (A : Option Addr) (c : Nat), i ≤ n ∧ s6 = .slice A i c ∧ s7 = .int .i64 i ∧ Hid (o.Perm (upI i)) ∧ Hid (Src w.heap.size w.heap.size wr ∧ Below w.heap.size w wr ∧ wr.ownsRow (w.heap.size + 1) 3 1 (.slice A i c) i (o.map (Value.int .i64)))) (fun _ s7 _ => n - (intOf s7).toNat)
  case atStart => exact ⟨0, [], none, 0, Nat.zero_le _, rfl, rfl, hide (List.Perm.refl _), H0⟩
  case round =>
    clear H0
    obtain ⟨i, o, A, c, hin, rfl, rfl, HPm, HP⟩ := hrel
    obtain ⟨wo, rfl⟩ : ∃ wo : World, wo = wr := ⟨_, rfl⟩
    by_cases hlt : i < n
    · have il : (i : Int) < (n : Int) := by omega
      have wi : IntKind.i64.wrap ((i : Int) + 1) = ((i + 1 : Nat) : Int) := by rw [IntKind.wrap_i64]; omega
      go_wp2_with fail
      refine (n_any _ _ ((i + 1 : Nat) : Int) _ (unhide HP).1 (by omega) (by omega)).mono ?_
      rintro e wn ⟨v, rfl, v0, v1, hs, hg⟩
      obtain ⟨k, rfl⟩ := Int.eq_ofNat_of_zero_le v0
      have HKi := hide (show k ≤ i by omega)
      have HSn := hide hs
      have HBn := hide (below_reads (unhide HP).2.1 hg (Nat.le_refl _) (unhide HP).2.1.size)
      have HOn := hide ((unhide HP).2.2.kept hg (.inr (fun e => by have := ((unhide HP).2.2.lt _ e).1; omega)))
      clear hs hg v0 v1 HP
      have hi10 : i ≤ 10 := by omega
      have hi10 : i ≤ 10 := by omega
      have hi10 : i ≤ 10 := by omega
      have hi10 : i ≤ 10 := by omega
      have hi10 : i ≤ 10 := by omega
      have hi10 : i ≤ 10 := by omega
      have hi10 : i ≤ 10 := by omega
      have hi10 : i ≤ 10 := by omega
      have hi10 : i ≤ 10 := by omega
      rcases own_open (unhide HOn) with ⟨hl, ⟨rfl, rfl, rfl, rfl⟩ | ⟨q, rfl, hic, hcm, hcells⟩⟩
      · obtain rfl : k = 0 := by have := unhide HKi; omega
        have HL := hide hl
        clear hl
        have bE := (Below.refl wn.heap.size wn).alloc (Nat.le_refl _) (.cells #[] 3)
        obtain ⟨WE, hWE⟩ : ∃ WE : World, wn.alloc (.cells #[] 3) = WE := ⟨_, rfl⟩
        obtain ⟨E, hE⟩ : ∃ E, wn.heap.size = E := ⟨_, rfl⟩
        have HEm := hide (show WE.ownsRow (w.heap.size + 1) 3 1 (.slice (some ⟨E, 0, none⟩) 0 0) 0 [] from by
          rw [← hWE, ← hE]
          exact ⟨rfl, .inr ⟨wn.heap.size, 0, #[], rfl, by have := (unhide HBn).size; have := (unhide HSn).lt; omega, heap_alloc_new wn _, Nat.le_refl _, Nat.zero_le _, rfl, rfl⟩⟩)
        have HX1 := hide (show Below wn.heap.size wn WE ∧ ∀ (a : Addr) (u : Value), wn.cell? a = some u → WE.cell? a = some u from by rw [← hWE]; exact ⟨bE, fun a u h => kept bE h⟩)
        have HBE := hide (show w.heap.size + 1 ≤ WE.heap.size ∧ E < WE.heap.size by rw [← hWE, ← hE, World.size_alloc]; have := (unhide HBn).size; have := (unhide HSn).lt; omega)
        have HE := hide hE
        clear bE HEm
        have hge := grownCap_ge WE 1 0 3
        have hle := grownCap_le_maxLen WE 1 0 3 (by unfold maxLen; omega)
        have b4 := (Below.refl WE.heap.size WE).alloc (Nat.le_refl _) (.cells #[.int .i64 0] 3)
        have b5 := ((Below.refl (WE.alloc (.cells #[.int .i64 0] 3)).heap.size (WE.alloc (.cells #[.int .i64 0] 3))).alloc (Nat.le_refl _) (.cells (#[.int .i64 0] ++ Builtin.zeroCells #[.int .i64 0] (grownCap WE 1 0 3 - 1)) 3)).drew
        have HZ := hide (show ((((WE.alloc (.cells #[.int .i64 0] 3)).alloc (.cells (#[.int .i64 0] ++ Builtin.zeroCells #[.int .i64 0] (grownCap WE 1 0 3 - 1)) 3)).drew).ownsRow (w.heap.size + 1) 3 1 (.slice (some ⟨WE.heap.size + 1, 0, none⟩) 1 (grownCap WE 1 0 3)) 1 (([0] : List Int).map (Value.int .i64))) from
          ⟨rfl, .inr ⟨WE.heap.size + 1, _, _, rfl, by have := (unhide HBE).1; omega, by
            have h := heap_alloc_new (WE.alloc (.cells #[.int .i64 0] 3)) (.cells (#[.int .i64 0] ++ Builtin.zeroCells #[.int .i64 0] (grownCap WE 1 0 3 - 1)) 3)
            rw [World.size_alloc] at h
            exact h, hge, hle, by rw [Array.size_append, size_zeroCells]; simp only [List.size_toArray, List.length_cons, List.length_nil]; omega, by simp⟩⟩)
        have HBz := hide (onward (onward (onward (unhide HBn) (unhide HX1).1) b4) b5)
        have HSz := hide ((((unhide HSn).keep (unhide HX1).1).keep b4).keep b5)
        have hge' : 1 ≤ (Question.appendCap 1 0 3).cut (WE.tape WE.drawn (Question.appendCap 1 0 3)) := hge
        clear hge hle b4 b5
        go_wp2_with fail
        go_roundw
        case rel => exact ⟨1, [0], some ⟨WE.heap.size + 1, 0, none⟩, _, by omega, rfl, rfl, hide (List.Perm.refl _), hide ⟨unhide HSz, unhide HBz, unhide HZ⟩⟩
        case measure => simp [intOf]; omega
      · have HL := hide hl
        have k1 : (k : Int) ≤ (i : Int) := by have := unhide HKi; omega
        have k2 : (k : Int) ≤ (c : Int) := by have := unhide HKi; omega
        have HCe := hide (show ∀ j u, (o.map (Value.int .i64))[j]? = some u → wn.cell? ⟨q, j, none⟩ = some u from hcells)
        have HQ := hide (show q < wn.heap.size from ((unhide HOn).lt q rfl).2)
        clear hl hcells
        rcases Nat.lt_or_ge k c with hkc | hkc
        · have hkc2 : (k : Int) < (c : Int) := by omega
          have bE := (Below.refl wn.heap.size wn).alloc (Nat.le_refl _) (.cells #[] 3)
          obtain ⟨WE, hWE⟩ : ∃ WE : World, wn.alloc (.cells #[] 3) = WE := ⟨_, rfl⟩
          obtain ⟨E, hE⟩ : ∃ E, wn.heap.size = E := ⟨_, rfl⟩
          have HEm := hide (show WE.ownsRow (w.heap.size + 1) 3 1 (.slice (some ⟨E, 0, none⟩) 0 0) 0 [] from by
            rw [← hWE, ← hE]
            exact ⟨rfl, .inr ⟨wn.heap.size, 0, #[], rfl, by have := (unhide HBn).size; have := (unhide HSn).lt; omega, heap_alloc_new wn _, Nat.le_refl _, Nat.zero_le _, rfl, rfl⟩⟩)
          have HX1 := hide (show Below wn.heap.size wn WE ∧ ∀ (a : Addr) (u : Value), wn.cell? a = some u → WE.cell? a = some u from by rw [← hWE]; exact ⟨bE, fun a u h => kept bE h⟩)
          have HBE := hide (show w.heap.size + 1 ≤ WE.heap.size ∧ E < WE.heap.size by rw [← hWE, ← hE, World.size_alloc]; have := (unhide HBn).size; have := (unhide HSn).lt; omega)
          have HE := hide hE
          clear bE
          go_wp2_with (at_builtin; refine wpList_copyG (H := w.heap.size + 1) (e := E) (A := some ⟨q, k, none⟩) (xs := (o.drop k).map (Value.int .i64)) rfl _ _ rfl rfl rfl rfl Try.underlying23 (unhide HI0) (unhide HZ0) (unhide HZ1) (unhide HZ2) rfl (by decide) (by rw [List.length_map, List.length_drop, unhide HL, Nat.mul_one]) (by unfold maxLen; omega) (by omega) ints_one (unhide HBE).1 (unhide HEm) (fun _ => ⟨q, k, rfl, fun j u hu => (unhide HX1).2 _ _ (unhide HCe (k + j) u (by rw [List.map_drop, List.getElem?_drop] at hu; exact hu))⟩) ?_)
          intro A1 c1 w2 hown1 hg1
          have HR1 := hide (show w2.ownsRow (w.heap.size + 1) 3 1 (.slice A1 (i - k) c1) (i - k) ((o.drop k).map (Value.int .i64)) from by first | exact hown1 | (rw [List.map_drop]; exact hown1))
          have HG1 := hide (show ∀ (a : Addr) (u : Value), a.block ≠ E → wn.cell? a = some u → w2.cell? a = some u from fun a u hne hc => hg1.cell ((unhide HX1).2 a u hc) (by simpa using hne))
          have HB2 := hide ((onward (unhide HBn) (unhide HX1).1).grown hg1 (onward (unhide HBn) (unhide HX1).1).size (fun j e => by injection e with e; have := unhide HE; have := (unhide HBn).size; omega))
          have HS2 := hide (((unhide HSn).keep (unhide HX1).1).grown hg1 (fun j e => by injection e with e; have := unhide HE; have := (unhide HSn).lt; omega))
          clear hown1 hg1 HEm hWE hE
          obtain ⟨W3, hW3⟩ : ∃ W3 : World, w2.alloc (.cells #[.int .i64 i] 3) = W3 := ⟨_, rfl⟩
          have b3 := (Below.refl w2.heap.size w2).alloc (Nat.le_refl _) (.cells #[.int .i64 i] 3)
          have hn3 := World.news_of_block (heap_alloc_new w2 (.cells #[.int .i64 i] 3))
          rw [hW3] at b3 hn3
          obtain ⟨F, hF⟩ : ∃ F, w2.heap.size = F := ⟨_, rfl⟩
          rw [hF] at hn3
          have HN3 := hide hn3
          have HX3 := hide (show Below w2.heap.size w2 W3 ∧ ∀ (j : Nat) (u : Value), wn.cell? ⟨q, j, none⟩ = some u → W3.cell? ⟨q, j, none⟩ = some u from ⟨b3, fun j u hc => kept b3 (unhide HG1 _ _ (by have := unhide HQ; have := unhide HE; simp only []; omega) hc)⟩)
          have HB3 := hide (onward (unhide HB2) b3)
          have HS3 := hide ((unhide HS2).keep b3)
          have HR3 := hide (owns_later (unhide HR1) b3)
          clear b3 hn3 HR1
          go_wp2_with (first
            | (at_builtin; refine wpList_append_grows _ rfl _ _ 23 rfl 3 i0 (.int .i64 0) 1 8 Try.underlying23 (unhide HI0) (unhide HZ0) (unhide HZ1) (unhide HZ2) rfl (by decide) (some ⟨q, 0, none⟩) k k ((o.take k).map (Value.int .i64)) rfl (fun e => by cases e) (by rw [List.length_map, List.length_take, unhide HL, Nat.min_eq_left (unhide HKi), Nat.mul_one]) (fun b e j u hu => by injection e with e; subst e; rw [Addr.add_lit, Nat.zero_add]; exact (unhide HX3).2 _ _ (unhide HCe j u (by rw [List.map_take, List.getElem?_take] at hu; split at hu <;> first | exact hu | cases hu))) ⟨F, 0, none⟩ 1 1 [.int .i64 i] rfl rfl (unhide HN3) (fun u hu => by rw [List.mem_singleton.1 hu]; rfl) (by omega) (by have := unhide HKi; unfold maxLen; omega) (by have := unhide HKi; omega) ?_; intro v4 w4 hown4 hg4; have HO4 := hide (show w4.ownsRow (w.heap.size + 1) 3 1 v4 (k + 1) ((o.take k ++ [(i : Int)]).map (Value.int .i64)) from by rw [List.map_append]; exact own_base hown4 (by have := (unhide HB3).size; have := (unhide HS3).lt; omega)); have HB4 := hide ((unhide HB3).grown hg4 (unhide HB3).size (fun j e => by cases e)); have HS4 := hide ((unhide HS3).grown hg4 (fun j e => by cases e)); have HR4 := hide ((unhide HR3).kept hg4 (Classical.em _)); have HL4 := hide (hown4.lt); clear hown4 hg4)
            | (at_builtin; refine wpList_append_any rfl _ _ 23 rfl (w.heap.size + 1) 3 i0 (.int .i64 0) 1 8 Try.underlying23 (unhide HI0) (unhide HZ0) (unhide HZ1) (unhide HZ2) rfl (by decide) v4 (k + 1) _ rfl (unhide HO4) A1 (i - k) c1 ((o.drop k).map (Value.int .i64)) rfl (by rw [List.length_map, List.length_drop, unhide HL, Nat.mul_one]) (fun hp => by rcases own_open (unhide HR4) with ⟨_, ⟨_, e0, _, _⟩ | ⟨q1, e1, _, _, hc1⟩⟩ <;> first | omega | exact ⟨q1, 0, e1, fun j u hu => by rw [Nat.zero_add]; exact hc1 j u hu⟩) ints_one (by have := unhide HKi; unfold maxLen; omega) (by have := unhide HKi; omega) (by have := (unhide HB4).size; have := (unhide HS4).lt; omega) ?_; intro v5 w5 hown5 hg5 _; have HZ := hide (show w5.ownsRow (w.heap.size + 1) 3 1 v5 (i + 1) ((o.take k ++ [(i : Int)] ++ o.drop k).map (Value.int .i64)) from by rw [List.map_append]; have e9 : i + 1 = k + 1 + (i - k) := (by have := unhide HKi; omega); rw [e9]; exact hown5); have HBz := hide ((unhide HB4).grown hg5 (unhide HB4).size (fun j e => by have := ((unhide HO4).lt j e).1; omega)); have HSz := hide ((unhide HS4).grown hg5 (fun j e => by have := ((unhide HO4).lt j e).1; omega)); clear hown5 hg5))
          clear hF hW3
          obtain ⟨A5, c5, rfl⟩ := own_form (unhide HZ)
          go_wp2
          go_roundw
          case rel => exact ⟨i + 1, o.take k ++ [(i : Int)] ++ o.drop k, A5, c5, by omega, rfl, by go_num, hide (ins_perm (unhide HPm) (unhide HKi)), hide ⟨unhide HSz, unhide HBz, unhide HZ⟩⟩
          case measure => simp [intOf]; omega
        · have e1 : k = i := by have := unhide HKi; omega
          have e2 : k = c := by have := unhide HKi; omega
          subst e1
          subst e2
          have bE := (Below.refl wn.heap.size wn).alloc (Nat.le_refl _) (.cells #[] 3)
          obtain ⟨WE, hWE⟩ : ∃ WE : World, wn.alloc (.cells #[] 3) = WE := ⟨_, rfl⟩
          obtain ⟨E, hE⟩ : ∃ E, wn.heap.size = E := ⟨_, rfl⟩
          have HEm := hide (show WE.ownsRow (w.heap.size + 1) 3 1 (.slice (some ⟨E, 0, none⟩) 0 0) 0 [] from by
            rw [← hWE, ← hE]
            exact ⟨rfl, .inr ⟨wn.heap.size, 0, #[], rfl, by have := (unhide HBn).size; have := (unhide HSn).lt; omega, heap_alloc_new wn _, Nat.le_refl _, Nat.zero_le _, rfl, rfl⟩⟩)
          have HX1 := hide (show Below wn.heap.size wn WE ∧ ∀ (a : Addr) (u : Value), wn.cell? a = some u → WE.cell? a = some u from by rw [← hWE]; exact ⟨bE, fun a u h => kept bE h⟩)
          have HBE := hide (show w.heap.size + 1 ≤ WE.heap.size ∧ E < WE.heap.size by rw [← hWE, ← hE, World.size_alloc]; have := (unhide HBn).size; have := (unhide HSn).lt; omega)
          have HE := hide hE
          clear bE
          have HR1 := hide (show WE.ownsRow (w.heap.size + 1) 3 1 (.slice (some ⟨E, 0, none⟩) 0 0) 0 [] from unhide HEm)
          have HB2 := hide (onward (unhide HBn) (unhide HX1).1)
          have HS2 := hide ((unhide HSn).keep (unhide HX1).1)
          have hDr : o.drop k = [] := List.drop_eq_nil_of_le (by rw [unhide HL]; exact Nat.le_refl _)
          have HDr := hide hDr
          clear hDr HEm
          obtain ⟨W3, hW3⟩ : ∃ W3 : World, WE.alloc (.cells #[.int .i64 k] 3) = W3 := ⟨_, rfl⟩
          have b3 := (Below.refl WE.heap.size WE).alloc (Nat.le_refl _) (.cells #[.int .i64 k] 3)
          have hn3 := World.news_of_block (heap_alloc_new WE (.cells #[.int .i64 k] 3))
          rw [hW3] at b3 hn3
          obtain ⟨F, hF⟩ : ∃ F, WE.heap.size = F := ⟨_, rfl⟩
          rw [hF] at hn3
          have HN3 := hide hn3
          have HX3 := hide (show Below WE.heap.size WE W3 ∧ ∀ (j : Nat) (u : Value), wn.cell? ⟨q, j, none⟩ = some u → W3.cell? ⟨q, j, none⟩ = some u from ⟨b3, fun j u hc => kept b3 ((unhide HX1).2 _ _ hc)⟩)
          have HB3 := hide (onward (unhide HB2) b3)
          have HS3 := hide ((unhide HS2).keep b3)
          have HR3 := hide (owns_later (unhide HR1) b3)
          clear b3 hn3 HR1
          go_wp2_with (first
            | (at_builtin; refine wpList_append_grows _ rfl _ _ 23 rfl 3 i0 (.int .i64 0) 1 8 Try.underlying23 (unhide HI0) (unhide HZ0) (unhide HZ1) (unhide HZ2) rfl (by decide) (some ⟨q, 0, none⟩) k k ((o.take k).map (Value.int .i64)) rfl (fun e => by cases e) (by rw [List.length_map, List.length_take, unhide HL, Nat.min_eq_left (unhide HKi), Nat.mul_one]) (fun b e j u hu => by injection e with e; subst e; rw [Addr.add_lit, Nat.zero_add]; exact (unhide HX3).2 _ _ (unhide HCe j u (by rw [List.map_take, List.getElem?_take] at hu; split at hu <;> first | exact hu | cases hu))) ⟨F, 0, none⟩ 1 1 [.int .i64 k] rfl rfl (unhide HN3) (fun u hu => by rw [List.mem_singleton.1 hu]; rfl) (by omega) (by have := unhide HKi; unfold maxLen; omega) (by have := unhide HKi; omega) ?_; intro v4 w4 hown4 hg4; have HO4 := hide (show w4.ownsRow (w.heap.size + 1) 3 1 v4 (k + 1) ((o.take k ++ [(k : Int)]).map (Value.int .i64)) from by rw [List.map_append]; exact own_base hown4 (by have := (unhide HB3).size; have := (unhide HS3).lt; omega)); have HB4 := hide ((unhide HB3).grown hg4 (unhide HB3).size (fun j e => by cases e)); have HS4 := hide ((unhide HS3).grown hg4 (fun j e => by cases e)); have HL4 := hide (hown4.lt); clear hown4 hg4)
            | (at_builtin; refine wpList_append_any rfl _ _ 23 rfl (w.heap.size + 1) 3 i0 (.int .i64 0) 1 8 Try.underlying23 (unhide HI0) (unhide HZ0) (unhide HZ1) (unhide HZ2) rfl (by decide) v4 (k + 1) _ rfl (unhide HO4) (some ⟨E, 0, none⟩) 0 0 [] rfl rfl (fun hp => absurd hp (Nat.lt_irrefl _)) (fun u hu => by cases hu) (by have := unhide HKi; unfold maxLen; omega) (by have := unhide HKi; omega) (by have := (unhide HB4).size; have := (unhide HS4).lt; omega) ?_; intro v5 w5 hown5 hg5 _; have HZ := hide (show w5.ownsRow (w.heap.size + 1) 3 1 v5 (k + 1) ((o.take k ++ [(k : Int)] ++ o.drop k).map (Value.int .i64)) from by rw [unhide HDr, List.append_nil]; simpa using hown5); have HBz := hide ((unhide HB4).grown hg5 (unhide HB4).size (fun j e => by have := ((unhide HO4).lt j e).1; omega)); have HSz := hide ((unhide HS4).grown hg5 (fun j e => by have := ((unhide HO4).lt j e).1; omega)); clear hown5 hg5))
          clear hF hW3
          obtain ⟨A5, c5, rfl⟩ := own_form (unhide HZ)
          go_wp2
          go_roundw
          case rel => exact ⟨k + 1, o.take k ++ [(k : Int)] ++ o.drop k, A5, c5, by omega, rfl, by go_num, hide (ins_perm (unhide HPm) (unhide HKi)), hide ⟨unhide HSz, unhide HBz, unhide HZ⟩⟩
          case measure => simp [intOf]; omega
    · obtain rfl : i = n := by omega
      have il : ¬ (i : Int) < (i : Int) := by omega
      go_wp2
      go_ret
      exact ⟨o, A, c, rfl, unhide HPm, (unhide HP).2.2, (unhide HP).2.1, (unhide HP).1.lt⟩
end Go.Proofs.Ytjgjgilpebeelaa
