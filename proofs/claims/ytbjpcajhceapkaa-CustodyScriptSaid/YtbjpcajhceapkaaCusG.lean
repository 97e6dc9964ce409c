/-
  Custody (layer 16): the program's Cleared, Clear, Revoke: what the laws want of the program holds.
-/
import Derived.Test.YtbjpcajhceapkaaCusF
import Derived.Test.YtbjpcajhceapkaaRowB
import Derived.Test.YtbjpcajhceapkaaResK
import Derived.Deep.CutRange
namespace Go.Proofs.Ytbjpcajhceapkaa
open Go.RowKit

theorem se_all (x : Se) : x.arr.all (·.oneCell') = true := by simp [Value.oneCell']
section
variable {ops : Array Oper} {rest : List Oper} {o : Oper} {a : Act} {W : World} {Q : Exit → Act → World → Prop}
theorem wpList_storeQ_new {t : TypeId} {old : Array Value} {g : Nat} (hz : W.heap.size = g) (s : Se) (hgd : o.guard = none) (x y : Operand) (ho : o.op = .store 54 x y)
    (hx : a.eval x = .pointer (some ⟨g, 0, none⟩)) (hy : a.eval y = s.v) (hold : old.size = 2)
    (h : wpList Try.prog ops Q rest (a.put o.dst undef) (W.alloc (.cells s.arr t))) : wpList Try.prog ops Q (o :: rest) a (W.alloc (.cells old t)) := by
  subst hz
  exact wpList_store_row hgd _ x y ho W.heap.size s.arr hx hy t old (heap_alloc_new W _) infoQ hold (se_all s) (by rw [World.setRow_alloc_new]; exact h)
end
/-- The bags of the first seals, the rest still zero. -/
def clrZ (l : List Se) (k : Nat) : List Int := (l.take k).map Se.bag ++ List.replicate (l.length - k) 0
theorem clrZ_len {l : List Se} {k : Nat} (hk : k ≤ l.length) : (clrZ l k).length = l.length := by unfold clrZ; rw [List.length_append, List.length_map, List.length_take, List.length_replicate]; omega
theorem clrZ_step {l : List Se} {k : Nat} {x : Se} (hk : k < l.length) (hx : l.getD k se0 = x) : (clrZ l k).set k x.bag = clrZ l (k + 1) := by
  unfold clrZ
  rw [List.set_append_right _ _ (by rw [List.length_map, List.length_take]; omega), List.length_map, List.length_take, Nat.min_eq_left (by omega), Nat.sub_self,
    List.take_succ_eq_append_getElem hk, List.map_append, ← at_k hk (d := se0), hx, show l.length - k = l.length - (k + 1) + 1 by omega, List.replicate_succ, List.set_cons_zero, List.append_assoc]
  rfl
theorem clrZ_all (l : List Se) : clrZ l l.length = l.map Se.bag := by unfold clrZ; rw [List.take_length, Nat.sub_self]; simp

/-- Cleared under way: its box, the row that it writes. -/
structure ClS (w : World) (l : List Se) (A : Option Addr) (c k : Nat) (W : World) : Prop where
  bel : Below w.heap.size w W
  bx : W.heap[w.heap.size]? = some (cusO A l.length c)
  row : RowB W (w.heap.size + 1) (clrZ l k)
theorem ClS.below {w W W' : World} {l : List Se} {A : Option Addr} {c k : Nat} (h : ClS w l A c k W) (hb : Below W.heap.size W W') : ClS w l A c k W' := ⟨onward h.bel hb, heap_below h.bx hb, h.row.keep hb⟩
theorem ClS.put {w W : World} {l : List Se} {A : Option Addr} {c k : Nat} {x : Se} (h : ClS w l A c k W) (hk : k < l.length) (hx : l.getD k se0 = x) : ClS w l A c (k + 1) (W.setCell ⟨w.heap.size + 1, k, none⟩ (.int .i64 x.bag)) :=
  ⟨h.bel.setCell (p := ⟨w.heap.size + 1, k, none⟩) (by simp) _, by rw [Below.heap_setCell _ _ _ _ (by simp)]; exact h.bx, by rw [← clrZ_step hk hx]; exact h.row.put _ _⟩
set_option maxHeartbeats 1000000 in
set_option maxRecDepth 100000 in
theorem qcleared_any (b : Nat) (l : List Se) (A : Option Addr) (c : Nat) (w : World) (hv : ValQ l) (h : SesIn b w A l) :
    Calls Try.prog 17 #[cusV A l.length c] w fun e w' => ∃ A c, e = .returned (.slice A l.length c) ∧ (∀ b, b < w.heap.size ∨ w'.heap.size ≤ b → NumsIn b w' A (l.map Se.bag)) ∧ Below w.heap.size w w' := by
  have hmk := smake l.length (by have := hv.len; omega)
  obtain ⟨W1, hW⟩ : ∃ W1 : World, w.alloc (cusO A l.length c) = W1 := ⟨_, rfl⟩
  have b1 : Below w.heap.size w W1 := by rw [← hW]; exact below_new (Below.refl _ _) _
  have hx1 : W1.heap[w.heap.size]? = some (cusO A l.length c) := by rw [← hW]; exact heap_alloc_new w _
  have hz1 : W1.heap.size = w.heap.size + 1 := by rw [← hW, World.size_alloc]
  have z0 : W1.cell? ⟨w.heap.size, 0, none⟩ = some (.slice A l.length c) := by rw [Lib.cell_of_heap hx1]; rfl
  have hS : ClS w l A c 0 (W1.alloc (.cells (madeCells #[.int .i64 0] l.length) 3)) := by
    have b2 := (Below.refl W1.heap.size W1).alloc (Nat.le_refl _) (.cells (madeCells #[.int .i64 0] l.length) 3)
    refine ⟨onward b1 b2, heap_below hx1 b2, ?_⟩
    rw [← hz1]
    exact RowB.zeros W1 l.length
  have z2 : (W1.alloc (.cells (madeCells #[.int .i64 0] l.length) 3)).cell? ⟨w.heap.size, 0, none⟩ = some (.slice A l.length c) := by rw [Lib.cell_of_heap hS.bx]; rfl
  have HS := hide hS
  have HL := hide (fun W (hb : Below w.heap.size w W) => RowIn.keep h hb)
  have HZ := hide hv.len
  have HZ1 := hide hz1
  clear b1 hx1 hS h hv hz1
  go_enter Try.func17, Try.ntmps17
  go_wp2
  rw [unhide HZ1]
  clear z2 z0
  go_loopw [13] (fun i wr => ∃ k : Nat, k ≤ l.length ∧ i = .int .i64 k ∧ Hid (ClS w l A c k wr)) (fun i _ => l.length - (intOf i).toNat)
  case atStart => exact ⟨0, Nat.zero_le _, rfl, HS⟩
  case round =>
    obtain ⟨k, hk, rfl, HP⟩ := hrel
    obtain ⟨wo, rfl⟩ : ∃ wo : World, wo = wr := ⟨_, rfl⟩
    clear HS
    have hz40 := unhide HZ
    by_cases hlt : k < l.length
    · have kl : (k : Int) < (l.length : Int) := by omega
      have k0 : (0 : Int) ≤ (k : Int) := by omega
      obtain ⟨g, off, rfl, _, hc⟩ := se_at (unhide HL wo (unhide HP).bel) hlt
      obtain ⟨x, hx⟩ : ∃ x, l.getD k se0 = x := ⟨_, rfl⟩
      rw [hx] at hc
      have HC := hide hc
      have HX := hide hx
      have HLT := hide hlt
      clear hc hx
      have bx := (Below.refl wo.heap.size wo).alloc (Nat.le_refl _) (.cells x.arr 54)
      have HXB := hide (heap_alloc_new wo (.cells x.arr 54))
      have HP1 := hide ((unhide HP).below bx)
      clear bx hlt
      go_wp2_with (first
        | (refine wpList_load_at rfl _ _ rfl g (off + k * 2) rfl x.arr _ (unhide HC) Try.underlying54 rfl infoQ ?_)
        | (refine wpList_storeQ_new rfl x rfl _ _ rfl rfl rfl rfl ?_)
        | (refine wpList_load_row rfl _ _ rfl wo.heap.size rfl 54 x.arr (0, 0) _ (unhide HXB) Try.underlying54 rfl infoQ ?_)
        | (go_at_call 30; refine (bagOf_any x _).mono ?_; rintro e w1 ⟨rfl, hb1⟩; have HP2 := hide ((unhide HP1).below hb1); have cz := (unhide HP2).row.cell (k := k) (by rw [clrZ_len hk]; exact unhide HLT); have fz := (unhide HP2).row.frozen k; clear hb1))
      go_roundw
      case rel => exact ⟨k + 1, by have := unhide HLT; omega, by go_num, hide ((unhide HP2).put (unhide HLT) (unhide HX))⟩
      case measure => simp [intOf]; have := unhide HLT; omega
    · have kl : ¬ (k : Int) < (l.length : Int) := by omega
      obtain rfl : k = l.length := by omega
      have HA := hide (clrZ_all l)
      go_wp2
      go_ret
      exact ⟨some ⟨w.heap.size + 1, 0, none⟩, ⟨l.length, rfl⟩, fun b hb => by
        have hr := (unhide HP).row
        rw [unhide HA] at hr
        have := hr.lt
        exact hr.nums (by omega), (unhide HP).bel⟩

theorem infoCu : (Try.prog.info? 27).map (·.size) = some 1 := by kernel_rfl
section
variable {ops : Array Oper} {rest : List Oper} {o : Oper} {a : Act} {W : World} {Q : Exit → Act → World → Prop}
theorem wpList_loadCu {A : Option Addr} {n c g : Nat} (hg : W.heap[g]? = some (cusO A n c)) (hgd : o.guard = none) (x : Operand) (ho : o.op = .load 27 x) (hx : a.eval x = .pointer (some ⟨g, 0, none⟩))
    (h : wpList Try.prog ops Q rest (a.put o.dst (cusV A n c)) W) : wpList Try.prog ops Q (o :: rest) a W :=
  wpList_load_row hgd _ x ho g hx 27 #[.slice A n c] (0, 0) _ hg Try.underlying27 rfl infoCu h
theorem wpList_storeCu {A A' : Option Addr} {n c n' c' g : Nat} (hg : W.heap[g]? = some (cusO A' n' c')) (hgd : o.guard = none) (x y : Operand) (ho : o.op = .store 27 x y)
    (hx : a.eval x = .pointer (some ⟨g, 0, none⟩)) (hy : a.eval y = cusV A n c) (h : wpList Try.prog ops Q rest (a.put o.dst undef) (W.setRow g #[.slice A n c])) : wpList Try.prog ops Q (o :: rest) a W :=
  wpList_store_row hgd _ x y ho g #[.slice A n c] hx hy 27 _ hg infoCu rfl (by simp [Value.oneCell']) h
end
/-- A custody's box, the result's box, the seals. -/
structure QS (w : World) (b : Nat) (l : List Se) (A : Option Addr) (c : Nat) (W : World) : Prop where
  bel : Below w.heap.size w W
  bx : W.heap[w.heap.size]? = some (cusO A l.length c)
  rs : W.heap[w.heap.size + 1]? = some (cusO none 0 0)
  ses : SesIn b W A l
theorem QS.start {w : World} {b c : Nat} {l : List Se} {A : Option Addr} (h : SesIn b w A l) : QS w b l A c ((w.alloc (cusO A l.length c)).alloc (cusO none 0 0)) := by
  have b1 := below_new (below_new (Below.refl w.heap.size w) (cusO A l.length c)) (cusO none 0 0)
  exact ⟨b1, heap_later (heap_alloc_new w _) _, by rw [← World.size_alloc w (cusO A l.length c)]; exact heap_alloc_new _ _, h.keep b1⟩
theorem QS.below {w W W' : World} {b c : Nat} {l : List Se} {A : Option Addr} (h : QS w b l A c W) (hb : Below W.heap.size W W') : QS w b l A c W' := ⟨onward h.bel hb, heap_below h.bx hb, heap_below h.rs hb, h.ses.keep hb⟩
theorem QS.lt {w W : World} {b c : Nat} {l : List Se} {A : Option Addr} (h : QS w b l A c W) : w.heap.size + 2 ≤ W.heap.size := (Array.getElem?_eq_some_iff.1 h.rs).1
theorem QS.after {w w1 w2 w4 : World} {b c n c2 : Nat} {l : List Se} {A A2 : Option Addr} {xs : List Value} (h : QS w b l A c w1) (hb : Below w1.heap.size w1 w2) (own : w2.ownsRow w1.heap.size 54 2 (.slice A2 n c2) n xs) {W : World} (b3 : Below w2.heap.size w2 W) (hg : W.grownBy w4 (Value.slice A2 n c2).ownBlock) :
    Below w.heap.size w w4 ∧ w4.heap[w.heap.size + 1]? = some (cusO none 0 0) := by
  have hl := h.lt
  have bel := onward (onward h.bel hb) b3
  have hr := heap_below (heap_below h.rs hb) b3
  refine ⟨bel.grown hg bel.size (fun j e => by have := (own.lt j e).1; omega), (hg.block _ (Array.getElem?_eq_some_iff.1 hr).1 (fun e => by have := (own.lt _ e.symm).1; omega)).trans hr⟩
theorem givesQ_no {w W : World} {b c : Nat} {l o : List Se} {A : Option Addr} {er ev : Int} (h : QS w b l A c W) (ho : o = []) (he : er = ev) : GivesQ w o er (.returned (.tuple #[cusV none 0 0, .int .i64 ev])) (W.setRow (w.heap.size + 1) #[.slice none 0 0]) := by
  subst ho he
  exact ⟨none, 0, rfl, fun _ _ => RowIn.nil, below_row h.bel (by omega) _, Nat.le_refl _⟩
theorem givesQ_yes {w W : World} {B n' c' : Nat} {l' o : List Se} {A' : Option Addr} {er : Int} (ho : o = l') (he : er = 0) (bel : Below w.heap.size w W) (hB : w.heap.size + 2 ≤ B) (hn : l'.length = n')
    (own : W.ownsRow B 54 2 (.slice A' n' c') n' (l'.flatMap Se.cs)) : GivesQ w o er (.returned (.tuple #[cusV A' n' c', .int .i64 0])) (W.setRow (w.heap.size + 1) #[.slice A' n' c']) := by
  subst ho he hn
  have hk : (W.setRow (w.heap.size + 1) #[.slice A' o.length c']).ownsRow B 54 2 (.slice A' o.length c') o.length (o.flatMap Se.cs) := own.kept (grown_row W _ _) (.inr (fun e => by have := (own.lt _ e).1; omega))
  refine ⟨A', c', rfl, fun b hb => RowIn.own hk ?_, below_row bel (by omega) _, own_cap own⟩
  rcases hb with h | h
  · exact .inl (by omega)
  · exact .inr h
theorem clearE_bad {l : List Se} {bag im : Int} (h : ¬ (1 ≤ bag ∧ bag ≤ 40) ∨ ¬ (1 ≤ im ∧ im ≤ 1048576)) : clearE l bag im = 1 ∧ clearL l bag im = [] := by
  have e : clearE l bag im = 1 := by unfold clearE; rw [if_neg (by omega)]
  exact ⟨e, by unfold clearL; rw [e]; rfl⟩
theorem clearE_dup {l : List Se} {bag im : Int} (h1 : 1 ≤ bag ∧ bag ≤ 40) (h2 : 1 ≤ im ∧ im ≤ 1048576) (h : hasSe l bag = true) : clearE l bag im = 5 ∧ clearL l bag im = [] := by
  have e : clearE l bag im = 5 := by unfold clearE; rw [if_pos (by omega), h]; rfl
  exact ⟨e, by unfold clearL; rw [e]; rfl⟩
theorem clearE_ok {l : List Se} {bag im : Int} (h1 : 1 ≤ bag ∧ bag ≤ 40) (h2 : 1 ≤ im ∧ im ≤ 1048576) (h : hasSe l bag = false) : clearE l bag im = 0 ∧ clearL l bag im = l.take (lbF (bagQ bag) l) ++ ⟨bag, im⟩ :: l.drop (lbF (bagQ bag) l) := by
  have e : clearE l bag im = 0 := by unfold clearE; rw [if_pos (by omega), h]; rfl
  exact ⟨e, by unfold clearL; rw [e, if_pos rfl]; exact insq_cut ⟨bag, im⟩ l⟩
set_option maxHeartbeats 4000000 in
set_option maxRecDepth 100000 in
theorem pclear_any (b : Nat) (l : List Se) (bag im : Int) (A : Option Addr) (c : Nat) (w : World) (hv : ValQ l) (h : SesIn b w A l) :
    Calls Try.prog 11 #[cusV A l.length c, .int .i64 bag, .int .i64 im] w (GivesQ w (clearL l bag im) (clearE l bag im)) := by
  obtain ⟨W1, hW⟩ : ∃ W1 : World, (w.alloc (cusO A l.length c)).alloc (cusO none 0 0) = W1 := ⟨_, rfl⟩
  have HS := hide (show QS w b l A c W1 from by rw [← hW]; exact QS.start h)
  have HBX := hide (unhide HS).bx
  have HV := hide hv
  have HZ := hide hv.len
  clear hv h
  go_enter Try.func11, Try.ntmps11
  go_upto_region 2 with (first
    | (refine wpList_loadCu (unhide HBX) rfl _ rfl rfl ?_)
    | (go_at_call 25; refine (qfind_any b l bag A c _ (unhide HV) (unhide HS).ses).mono ?_; rintro e w1 ⟨rfl, hb1⟩; have HB1 := hide hb1; clear hb1))
  have HS1 := hide ((unhide HS).below (unhide HB1))
  clear HBX HB1 HS hW
  have HBX := hide (unhide HS1).bx
  have HRS := hide (unhide HS1).rs
  have z0 : w1.cell? ⟨w.heap.size, 0, none⟩ = some (.slice A l.length c) := by rw [Lib.cell_of_heap (unhide HBX)]; rfl
  have HN1 := hide (fun W => num_any bag 40 W)
  have HN2 := hide (fun W => num_any im 1048576 W)
  by_cases h1 : 1 ≤ bag ∧ bag ≤ 40
  case neg =>
    have HE := hide (clearE_bad (l := l) (im := im) (.inl h1))
    rw [decide_eq_false h1] at HN1
    have HN1 := hide (unhide HN1)
    clear h1
    go_wp2_with (first
      | (go_at_call 26; refine (unhide HN1 _).mono ?_; rintro e wz ⟨rfl, hwz⟩; subst wz)
      | (refine wpList_storeCu (A := none) (n := 0) (c := 0) (unhide HRS) rfl _ _ rfl rfl rfl ?_))
    refine bodyPost_ret (v := .tuple #[cusV none 0 0, .int .i64 1]) (results_row2' rfl _ _ (w.heap.size + 1) _ _ _ _ _ rfl rfl (setRow_heap w1 (w.heap.size + 1) _ #[.slice none 0 0] _ _ (unhide HRS)) Try.underlying27 rfl infoCu) rfl ?_
    exact givesQ_no (unhide HS1) (unhide HE).2 (unhide HE).1
  by_cases h2 : 1 ≤ im ∧ im ≤ 1048576
  case neg =>
    have HE := hide (clearE_bad (l := l) (bag := bag) (.inr h2))
    rw [decide_eq_true h1] at HN1
    rw [decide_eq_false h2] at HN2
    have HN1 := hide (unhide HN1)
    have HN2 := hide (unhide HN2)
    clear h1 h2
    go_wp2_with (first
      | (go_at_call 26; with_reducible refine (unhide HN1 _).mono ?_; rintro e wz ⟨rfl, hwz⟩; subst wz)
      | (go_at_call 26; with_reducible refine (unhide HN2 _).mono ?_; rintro e wz ⟨rfl, hwz⟩; subst wz)
      | (refine wpList_storeCu (A := none) (n := 0) (c := 0) (unhide HRS) rfl _ _ rfl rfl rfl ?_))
    refine bodyPost_ret (v := .tuple #[cusV none 0 0, .int .i64 1]) (results_row2' rfl _ _ (w.heap.size + 1) _ _ _ _ _ rfl rfl (setRow_heap w1 (w.heap.size + 1) _ #[.slice none 0 0] _ _ (unhide HRS)) Try.underlying27 rfl infoCu) rfl ?_
    exact givesQ_no (unhide HS1) (unhide HE).2 (unhide HE).1
  rw [decide_eq_true h1] at HN1
  rw [decide_eq_true h2] at HN2
  have HN1 := hide (unhide HN1)
  have HN2 := hide (unhide HN2)
  cases hf : hasSe l bag with
  | true =>
    have HE := hide (clearE_dup h1 h2 hf)
    clear h1 h2
    go_wp2_with (first
      | (go_at_call 26; with_reducible refine (unhide HN1 _).mono ?_; rintro e wz ⟨rfl, hwz⟩; subst wz)
      | (go_at_call 26; with_reducible refine (unhide HN2 _).mono ?_; rintro e wz ⟨rfl, hwz⟩; subst wz)
      | (refine wpList_storeCu (A := none) (n := 0) (c := 0) (unhide HRS) rfl _ _ rfl rfl rfl ?_))
    refine bodyPost_ret (v := .tuple #[cusV none 0 0, .int .i64 5]) (results_row2' rfl _ _ (w.heap.size + 1) _ _ _ _ _ rfl rfl (setRow_heap w1 (w.heap.size + 1) _ #[.slice none 0 0] _ _ (unhide HRS)) Try.underlying27 rfl infoCu) rfl ?_
    exact givesQ_no (unhide HS1) (unhide HE).2 (unhide HE).1
  | false =>
    have HE := hide (clearE_ok h1 h2 hf)
    clear h1 h2
    obtain ⟨i0, z0', hi0, hia, hib, hic, hid⟩ := info_size info_se
    have hk := lbF_le (bagQ bag) l
    have HK := hide hk
    have HFI := hide (flat_ins Se.cs 2 Se.cs_len l _ hk ⟨bag, im⟩)
    have HLT := hide (unhide HS1).lt
    obtain ⟨k, hkk⟩ : ∃ k, lbF (bagQ bag) l = k := ⟨_, rfl⟩
    rw [hkk] at HE HK HFI ⊢
    clear hk hkk
    go_wp2_with (first
      | (go_at_call 26; with_reducible refine (unhide HN1 _).mono ?_; rintro e wz ⟨rfl, hwz⟩; subst wz)
      | (go_at_call 26; with_reducible refine (unhide HN2 _).mono ?_; rintro e wz ⟨rfl, hwz⟩; subst wz)
      | (go_at_call 28; refine (cloneQ_any b A c l _ (unhide HS1).ses (by have := unhide HZ; omega)).mono ?_; rintro e w2 ⟨A2, c2, rfl, ho2, hb2⟩; have HO2 := hide ho2; have HB2 := hide hb2; clear ho2 hb2)
      | (refine wpList_build1 rfl 25 54 _ rfl (Se.arr ⟨bag, im⟩) i0 z0' 2 Try.underlying25 hi0 hia hib (by decide) (by decide) hid rfl rfl ?_)
      | (go_at_call 27; refine (insQ_any w1.heap.size A2 l.length c2 k w2.heap.size (l.flatMap Se.cs) (Se.cs ⟨bag, im⟩) _ ((unhide HO2).alloc _) (unhide HK) (by have := unhide HZ; omega) rfl (heap_alloc_new w2 _) (fun j e => by have := ((unhide HO2).lt j e).2; omega) se_one (fun v hv => by simp [Se.cs] at hv; rcases hv with rfl | rfl <;> rfl) (by have := (unhide HB2).size; rw [World.size_alloc]; omega)).mono ?_
         rintro e w4 ⟨A4, c4, rfl, ho4, hg4⟩; have HO4 := hide ho4; have HF4 := hide ((unhide HS1).after (unhide HB2) (unhide HO2) ((Below.refl _ _).alloc (Nat.le_refl _) _) hg4); clear ho4 hg4)
      | (refine wpList_storeCu (A := A4) (n := l.length + 1) (c := c4) (unhide HF4).2 rfl _ _ rfl rfl rfl ?_))
    refine bodyPost_ret (v := .tuple #[cusV A4 (l.length + 1) c4, .int .i64 0]) (results_row2' rfl _ _ (w.heap.size + 1) _ _ _ _ _ rfl rfl (setRow_heap w4 (w.heap.size + 1) _ #[.slice A4 (l.length + 1) c4] _ _ (unhide HF4).2) Try.underlying27 rfl infoCu) rfl ?_
    exact givesQ_yes (unhide HE).2 (unhide HE).1 (unhide HF4).1 (unhide HLT) (by have := unhide HK; rw [List.length_append, List.length_take, List.length_cons, List.length_drop]; omega) (by rw [← unhide HFI]; exact unhide HO4)
end Go.Proofs.Ytbjpcajhceapkaa
