/-
  Custody (layer 16): the document's own Cleared, Same and Open.
-/
import Derived.Test.YtbjpcajhceapkaaCusH
import Derived.Test.YtbjpcajhceapkaaRdK
import Derived.Laws.StructEq
namespace Go.Proofs.Ytbjpcajhceapkaa
open Go.RowKit

instance : DecidableEq Se := fun x y => if h : x.bag = y.bag ∧ x.im = y.im then isTrue (by obtain ⟨a, b⟩ := x; obtain ⟨c, d⟩ := y; simp only [] at h; rw [h.1, h.2]) else isFalse (fun e => h (by rw [e]; exact ⟨rfl, rfl⟩))
def bagK (l : List Se) (k : Nat) : List Int := (l.take k).map Se.bag
theorem bagK_len {l : List Se} {k : Nat} (hk : k ≤ l.length) : (bagK l k).length = k := by unfold bagK; rw [List.length_map, List.length_take]; omega
theorem bagK_step {l : List Se} {k : Nat} {x : Se} (hk : k < l.length) (hx : l.getD k se0 = x) : bagK l (k + 1) = bagK l k ++ [x.bag] := by
  unfold bagK
  rw [List.take_succ_eq_append_getElem hk, List.map_append, ← at_k hk (d := se0), hx]; rfl
theorem bagK_all (l : List Se) : bagK l l.length = l.map Se.bag := by unfold bagK; rw [List.take_length]
theorem se_cell0 {g p : Nat} {x : Se} {w : World} (h : ∀ j u, x.arr[j]? = some u → w.cell? ⟨g, p + j, none⟩ = some u) : w.cell? ⟨g, p, none⟩ = some (.int .i64 x.bag) := by simpa using h 0 _ rfl
set_option maxHeartbeats 1000000 in
set_option maxRecDepth 100000 in
theorem rqcleared_any (b : Nat) (l : List Se) (A : Option Addr) (c : Nat) (w : World) (hv : ValQ l) (h : SesIn b w A l) :
    Calls Try.prog 18 #[cusV A l.length c] w fun e w' => ∃ A c, e = .returned (.slice A l.length c) ∧ (∀ b, b < w.heap.size ∨ w'.heap.size ≤ b → NumsIn b w' A (l.map Se.bag)) ∧ Below w.heap.size w w' := by
  have HB := hide ((Below.refl w.heap.size w).alloc (Nat.le_refl _) (cusO A l.length c))
  have HX := hide (heap_alloc_new w (cusO A l.length c))
  have HZ := hide hv.len
  have HL := hide (fun W (hb : Below w.heap.size w W) => RowIn.keep h hb)
  obtain ⟨i0, hi, hz0, hz1, hz2⟩ := info_parts linfo_int
  have HI0 := hide hi
  have HZ0 := hide hz0
  have HZ1 := hide hz1
  have HZ2 := hide hz2
  have H0 := hide (show Below w.heap.size w (w.alloc (cusO A l.length c)) ∧ (w.alloc (cusO A l.length c)).heap[w.heap.size]? = some (cusO A l.length c) ∧ (w.alloc (cusO A l.length c)).ownsRow (w.heap.size + 1) 3 1 (.slice none 0 0) 0 ((bagK l 0).map (Value.int .i64)) from ⟨unhide HB, unhide HX, World.ownsRow_nil _ _ _ _⟩)
  clear hv h hi hz0 hz1 hz2 HB HX
  go_enter Try.func18, Try.ntmps18
  go_wp2
  go_loopw [3, 4] (fun s3 s4 wr => ∃ (k : Nat) (A' : Option Addr) (c' : Nat), k ≤ l.length ∧ s3 = .slice A' k c' ∧ s4 = .int .i64 k ∧ Hid (Below w.heap.size w wr ∧ wr.heap[w.heap.size]? = some (cusO A l.length c) ∧ wr.ownsRow (w.heap.size + 1) 3 1 (.slice A' k c') k ((bagK l k).map (Value.int .i64)))) (fun _ s4 _ => l.length - (intOf s4).toNat)
  case atStart => exact ⟨0, none, 0, Nat.zero_le _, rfl, rfl, H0⟩
  case round =>
    obtain ⟨k, A', c', hk, rfl, rfl, HP⟩ := hrel
    obtain ⟨wo, rfl⟩ : ∃ wo : World, wo = wr := ⟨_, rfl⟩
    clear H0
    have hz40 := unhide HZ
    have z0 : wo.cell? ⟨w.heap.size, 0, none⟩ = some (.slice A l.length c) := by rw [Lib.cell_of_heap (unhide HP).2.1]; rfl
    by_cases hlt : k < l.length
    · have kl : (k : Int) < (l.length : Int) := by omega
      have k0 : (0 : Int) ≤ (k : Int) := by omega
      obtain ⟨g, off, rfl, _, hc⟩ := se_at (unhide HL wo (unhide HP).1) hlt
      obtain ⟨x, hx⟩ : ∃ x, l.getD k se0 = x := ⟨_, rfl⟩
      rw [hx] at hc
      have HST := hide (bagK_step hlt hx)
      have c0 := se_cell0 hc
      have HLT := hide hlt
      clear hc hx hlt
      have by_ := (Below.refl wo.heap.size wo).alloc (Nat.le_refl _) (.cells #[.int .i64 x.bag] 3)
      have HB2 := hide (onward (unhide HP).1 by_)
      have HX2 := hide (heap_below (unhide HP).2.1 by_)
      have HO2 := hide (owns_later (unhide HP).2.2 by_)
      have HN := hide (World.news_of_block (heap_alloc_new wo (.cells #[.int .i64 x.bag] 3)))
      have hz2 : w.heap.size + 1 ≤ (wo.alloc (.cells #[.int .i64 x.bag] 3)).heap.size := (Array.getElem?_eq_some_iff.1 (unhide HX2)).1
      clear by_
      go_wp2_with (at_builtin; refine wpList_append_lies _ rfl _ _ 22 rfl (w.heap.size + 1) 3 i0 (.int .i64 0) 1 8 Try.underlying22 (unhide HI0) (unhide HZ0) (unhide HZ1) (unhide HZ2) rfl (by decide) _ _ _ rfl (unhide HO2) ⟨wo.heap.size, 0, none⟩ 1 1 [.int .i64 x.bag] rfl rfl (unhide HN) (fun u hu => by rw [List.mem_singleton.1 hu]; rfl) (by decide) (by unfold maxLen; omega) (by omega) hz2 _ rfl ?_)
      intro q cap' w6 hown hgrow hat hlt6
      have HB6 := hide ((unhide HB2).grown hgrow (unhide HB2).size (fun j hj => by have := ((unhide HO2).lt j hj).1; omega))
      have HX6 := hide ((hgrow.block _ (Array.getElem?_eq_some_iff.1 (unhide HX2)).1 (fun e => by have := ((unhide HO2).lt _ e.symm).1; omega)).trans (unhide HX2))
      have HO6 := hide hown
      clear hown hgrow hat hlt6
      go_wp2
      go_roundw
      case rel => exact ⟨k + 1, some ⟨q, 0, none⟩, cap', by have := unhide HLT; omega, rfl, by go_num, hide ⟨unhide HB6, unhide HX6, by rw [unhide HST, List.map_append]; exact unhide HO6⟩⟩
      case measure => simp [intOf]; have := unhide HLT; omega
    · have kl : ¬ (k : Int) < (l.length : Int) := by omega
      obtain rfl : k = l.length := by omega
      have HA := hide (bagK_all l)
      go_wp2
      go_ret
      exact ⟨A', ⟨c', rfl⟩, fun b hb => by
        have ho := (unhide HP).2.2
        rw [unhide HA] at ho
        exact nums_own ho (hb.imp (fun h => by omega) id), (unhide HP).1⟩

theorem se_cells {g p : Nat} {x : Se} {w : World} (h : ∀ j u, x.arr[j]? = some u → w.cell? ⟨g, p + j, none⟩ = some u) : w.cell? ⟨g, p, none⟩ = some (.int .i64 x.bag) ∧ w.cell? ⟨g, p + 1, none⟩ = some (.int .i64 x.im) := ⟨by simpa using h 0 _ rfl, h 1 _ rfl⟩
theorem neqSe (a b c d : Int) (w : World) : (binOp .neq 54 (.agg #[.int .i64 a, .int .i64 b]) (.agg #[.int .i64 c, .int .i64 d])).run Try.prog w = .ok (.bool (!(a == c && b == d))) w := by
  have u3 := Try.underlying3
  have a3 := Try.isAgg3
  have z3 := Try.sizeOf3
  rw [run_neq_struct]
  rw [show (10000 : Nat) = 9999 + 1 from rfl, Op.equalIn]
  simp only [Sem.run_bind, run_underlying Try.underlying54, Result.andThen_ok]
  go_simp
  by_cases h1 : a = c <;> by_cases h2 : b = d <;> simp [h1, h2]
abbrev twoB (w : World) (l m : List Se) (A A' : Option Addr) (c c' : Nat) (W : World) : Prop := Below w.heap.size w W ∧ W.heap[w.heap.size]? = some (cusO A l.length c) ∧ W.heap[w.heap.size + 1]? = some (cusO A' m.length c')
set_option maxHeartbeats 2000000 in
set_option maxRecDepth 100000 in
theorem rqsame_any (b : Nat) (l m : List Se) (A A' : Option Addr) (c c' : Nat) (w : World) (hz : l.length ≤ 1000) (h : SesIn b w A l) (h' : SesIn b w A' m) :
    Calls Try.prog 15 #[cusV A l.length c, cusV A' m.length c'] w fun e w' => e = .returned (.bool (decide (l = m))) ∧ Below w.heap.size w w' := by
  obtain ⟨W1, hW⟩ : ∃ W1 : World, (w.alloc (cusO A l.length c)).alloc (cusO A' m.length c') = W1 := ⟨_, rfl⟩
  have hT : twoB w l m A A' c c' W1 := by
    rw [← hW]
    exact ⟨below_new (below_new (Below.refl _ _) _) _, heap_later (heap_alloc_new w _) _, by rw [← World.size_alloc w (cusO A l.length c)]; exact heap_alloc_new _ _⟩
  have HT := hide hT
  by_cases hl : l.length = m.length
  · have e0 : ((l.length : Int) != (m.length : Int)) = false := by rw [bne_eq_false_iff_eq, hl]
    have HH := hide (fun W (hb : Below w.heap.size w W) => RowIn.keep h hb)
    have HH' := hide (fun W (hb : Below w.heap.size w W) => RowIn.keep h' hb)
    have HL := hide hl
    have z0 : W1.cell? ⟨w.heap.size, 0, none⟩ = some (.slice A l.length c) := by rw [Lib.cell_of_heap hT.2.1]; rfl
    have z1 : W1.cell? ⟨w.heap.size + 1, 0, none⟩ = some (.slice A' m.length c') := by rw [Lib.cell_of_heap hT.2.2]; rfl
    clear h h' hl hT
    go_enter Try.func15, Try.ntmps15
    go_wp2
    clear z0 z1
    go_loopw [5] (fun i wr => ∃ k : Nat, k ≤ l.length ∧ i = .int .i64 k ∧ Hid (l.take k = m.take k) ∧ Hid (twoB w l m A A' c c' wr)) (fun i _ => l.length - (intOf i).toNat)
    case atStart => exact ⟨0, Nat.zero_le _, rfl, Lib.hid rfl, HT⟩
    case round =>
      obtain ⟨k, hk, rfl, hd, HB⟩ := hrel
      obtain ⟨wo, rfl⟩ : ∃ wo : World, wo = wr := ⟨_, rfl⟩
      clear HT hW
      have z0 : wo.cell? ⟨w.heap.size, 0, none⟩ = some (.slice A l.length c) := by rw [Lib.cell_of_heap (unhide HB).2.1]; rfl
      have z1 : wo.cell? ⟨w.heap.size + 1, 0, none⟩ = some (.slice A' m.length c') := by rw [Lib.cell_of_heap (unhide HB).2.2]; rfl
      by_cases hlt : k < l.length
      · have hlt2 : k < m.length := by have := unhide HL; omega
        obtain ⟨g, off, rfl, _, hc⟩ := se_at (unhide HH _ (unhide HB).1) hlt
        obtain ⟨g', off', rfl, _, hc'⟩ := se_at (unhide HH' _ (unhide HB).1) hlt2
        obtain ⟨c0, c1⟩ := se_cells hc
        obtain ⟨d0, d1⟩ := se_cells hc'
        clear hc hc'
        have kl : (k : Int) < (l.length : Int) := by omega
        have kl2 : (k : Int) < (m.length : Int) := by omega
        have k0 : (0 : Int) ≤ (k : Int) := by omega
        have HP := hide fun h => take_eq_step (d := se0) hlt hlt2 hd.out h
        have HN := hide fun (h : l.getD k se0 ≠ m.getD k se0) => ne_of_at h
        generalize l.getD k se0 = x at *
        generalize m.getD k se0 = y at *
        obtain ⟨xb, xi⟩ := x
        obtain ⟨yb, yi⟩ := y
        have q := fun w => neqSe xb xi yb yi w
        cases hxy : (xb == yb && xi == yi) with
        | true =>
          rw [hxy] at q
          have HX := hide (show (⟨xb, xi⟩ : Se) = ⟨yb, yi⟩ by
            rw [Bool.and_eq_true, beq_iff_eq, beq_iff_eq] at hxy
            rw [hxy.1, hxy.2])
          clear hxy
          go_wp2_with fail
          go_quiet (fail)
          go_wp2
          go_roundw
          case rel => exact ⟨k + 1, by omega, by go_num, Lib.hid (unhide HP (unhide HX)), hide ⟨draws (unhide HB).1 _, (unhide HB).2⟩⟩
          case measure => simp [intOf]; omega
        | false =>
          rw [hxy] at q
          have HX := hide (show (⟨xb, xi⟩ : Se) ≠ ⟨yb, yi⟩ from fun e => by
            injection e with e1 e2
            subst e1; subst e2
            simp at hxy)
          clear hxy
          go_wp2_with fail
          go_quiet (fail)
          go_wp2
          go_ret
          exact ⟨ret_bool (by rw [decide_eq_false (unhide HN (unhide HX))]), draws (unhide HB).1 _⟩
      · have HE := hide (show l = m by
          have := hd.out
          have := unhide HL
          rwa [List.take_of_length_le (by omega), List.take_of_length_le (by omega)] at *)
        have kl : ¬ (k : Int) < (l.length : Int) := by omega
        go_wp2
        go_ret
        exact ⟨ret_bool (by rw [decide_eq_true (unhide HE)]), (unhide HB).1⟩
  · have e0 : ((l.length : Int) != (m.length : Int)) = true := by rw [bne_iff_ne]; omega
    have hne : l ≠ m := fun e => hl (by rw [e])
    have z0 : W1.cell? ⟨w.heap.size, 0, none⟩ = some (.slice A l.length c) := by rw [Lib.cell_of_heap hT.2.1]; rfl
    have z1 : W1.cell? ⟨w.heap.size + 1, 0, none⟩ = some (.slice A' m.length c') := by rw [Lib.cell_of_heap hT.2.2]; rfl
    rw [decide_eq_false hne]
    clear h h' hl hne hT
    go_enter Try.func15, Try.ntmps15
    go_wp2
    go_ret
    exact ⟨rfl, (unhide HT).1⟩

set_option maxRecDepth 100000 in
set_option maxHeartbeats 1000000 in
theorem ropen_any (b : Nat) (t s : Int) (X Y : List Int) (A A' : Option Addr) (c c' : Nat) (w : World) (hX : SmX X) (hY : SmX Y) (h : NumsIn b w A X) (h' : NumsIn b w A' Y) :
    Calls Try.prog 21 #[.agg #[.int .i64 t, .int .i64 s, .slice A X.length c, .slice A' Y.length c']] w
      fun e w' => e = .returned (.tuple #[.int .i64 (openB t s X Y), .bool (openF t s X Y)]) ∧ Below w.heap.size w w' := by
  obtain ⟨W1, hW⟩ : ∃ W1 : World, w.alloc (votO t s A X.length c A' Y.length c') = W1 := ⟨_, rfl⟩
  have b1 : Below w.heap.size w W1 := by rw [← hW]; exact below_new (Below.refl _ _) _
  have hx : W1.heap[w.heap.size]? = some (votO t s A X.length c A' Y.length c') := by rw [← hW]; exact heap_alloc_new w _
  have z0 : W1.cell? ⟨w.heap.size, 0, none⟩ = some (.int .i64 t) := by rw [Lib.cell_of_heap hx]; rfl
  have z1 : W1.cell? ⟨w.heap.size, 1, none⟩ = some (.int .i64 s) := by rw [Lib.cell_of_heap hx]; rfl
  have z2 : W1.cell? ⟨w.heap.size, 2, none⟩ = some (.slice A X.length c) := by rw [Lib.cell_of_heap hx]; rfl
  have z3 := vot_3 hx
  have HB := hide b1
  have HIX := hide (fun x => kin_any b X x A c W1 (by have := hX.len; omega) (h.keep b1))
  have HIY := hide (fun x => kin_any b Y x A' c' W1 (by have := hY.len; omega) (h'.keep b1))
  have HR := hide (show ∀ q : Bool, openF t s X Y = q → (Value.tuple #[.int .i64 (openB t s X Y), .bool (openF t s X Y)]) = .tuple #[.int .i64 (if q = true then t else 0), .bool q] from fun q hq => by unfold openB; rw [hq])
  have HF := hide (show openF t s X Y = decide (t = s ∧ 1 ≤ t ∧ t ≤ 40 ∧ t ∈ X ∧ t ∈ Y) from rfl)
  clear hx h h' hX hY b1
  by_cases h1 : t = s
  case neg =>
    have q1 : (t != s) = true := by rw [bne_iff_ne]; exact h1
    have HN := hide h1
    clear h1
    go_enter Try.func21, Try.ntmps21
    go_wp2
    go_ret2
    exact ⟨by rw [unhide HR false (by rw [unhide HF, decide_eq_false_iff_not]; exact fun h => unhide HN h.1)]; rfl, unhide HB⟩
  subst h1
  have q1 : (t != t) = false := by simp
  by_cases h2 : t < 1
  · have HN := hide h2
    go_enter Try.func21, Try.ntmps21
    go_wp2
    go_ret2
    exact ⟨by rw [unhide HR false (by rw [unhide HF, decide_eq_false_iff_not]; exact fun h => by have := unhide HN; omega)]; rfl, unhide HB⟩
  by_cases h3 : 40 < t
  · have HN := hide h3
    go_enter Try.func21, Try.ntmps21
    go_wp2
    go_ret2
    exact ⟨by rw [unhide HR false (by rw [unhide HF, decide_eq_false_iff_not]; exact fun h => by have := unhide HN; omega)]; rfl, unhide HB⟩
  have H2 := hide h2
  have H3 := hide h3
  have HIX := hide (unhide HIX t)
  have HIY := hide (unhide HIY t)
  obtain ⟨p, hp⟩ : ∃ p, decide (t ∈ X) = p := ⟨_, rfl⟩
  obtain ⟨q, hq⟩ : ∃ q, decide (t ∈ Y) = q := ⟨_, rfl⟩
  have HQ := hide (show openF t t X Y = (p && q) from by
    rw [unhide HF, ← hp, ← hq, Bool.eq_iff_iff, Bool.and_eq_true, decide_eq_true_eq, decide_eq_true_eq, decide_eq_true_eq]
    exact ⟨fun h => ⟨h.2.2.2.1, h.2.2.2.2⟩, fun h => ⟨rfl, by have := unhide H2; omega, by have := unhide H3; omega, h.1, h.2⟩⟩)
  rw [hp] at HIX
  rw [hq] at HIY
  have HIX := hide (unhide HIX)
  have HIY := hide (unhide HIY)
  clear hp hq
  cases p
  case false =>
    go_enter Try.func21, Try.ntmps21
    go_wp2_with (go_at_call 23; with_reducible refine (unhide HIX).mono ?_; rintro e wz ⟨rfl, hwz⟩; subst wz)
    go_ret2
    exact ⟨by rw [unhide HR false (by rw [unhide HQ]; rfl)]; rfl, unhide HB⟩
  case true =>
    cases q
    case false =>
      go_enter Try.func21, Try.ntmps21
      go_wp2_with (first
        | (go_at_call 23; with_reducible refine (unhide HIX).mono ?_; rintro e wz ⟨rfl, hwz⟩; subst wz)
        | (go_at_call 23; with_reducible refine (unhide HIY).mono ?_; rintro e wz ⟨rfl, hwz⟩; subst wz))
      go_ret2
      exact ⟨by rw [unhide HR false (by rw [unhide HQ]; rfl)]; rfl, unhide HB⟩
    case true =>
      go_enter Try.func21, Try.ntmps21
      go_wp2_with (first
        | (go_at_call 23; with_reducible refine (unhide HIX).mono ?_; rintro e wz ⟨rfl, hwz⟩; subst wz)
        | (go_at_call 23; with_reducible refine (unhide HIY).mono ?_; rintro e wz ⟨rfl, hwz⟩; subst wz))
      go_ret2
      exact ⟨by rw [unhide HR true (by rw [unhide HQ]; rfl)]; rfl, unhide HB⟩
end Go.Proofs.Ytbjpcajhceapkaa
