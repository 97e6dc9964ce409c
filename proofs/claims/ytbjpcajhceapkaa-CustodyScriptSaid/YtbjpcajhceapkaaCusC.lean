/-
  A set of numbers as a map of bools (layer 16): its look-ups and stores; the program's set, isNumber, Open.
-/
import Derived.Test.YtbjpcajhceapkaaCusA
import Derived.Maps.OwnOps
import Derived.Maps.Views
namespace Go.Proofs.Ytbjpcajhceapkaa
open Go.RowKit

theorem lawI : Maps.Keyed Try.prog 3 := Maps.int_keyed Try.underlying3
theorem zeroB (w : World) : (zeroValue 4).run Try.prog w = .ok (.bool false) w := by kernel_rfl
/-- Block b is a map of at most n entries that says of each number whether it is in a set. -/
def SetW (w : World) (b n : Nat) (f : Int → Bool) : Prop :=
  ∃ D : DataW Unit, w.ownsMap Try.prog 3 (plainElem Try.prog 4) b n D ∧ Maps.IsMap D ∧ ∀ x, D.atKey (.int .i64 x) (.lit (.bool false)) = .lit (.bool (f x))
theorem SetW.made (w : World) : SetW (w.alloc (.map #[] 0)) w.heap.size 0 fun _ => false := ⟨.map [], World.ownsMap_made _ _ _ _, Maps.isMap_empty, fun _ => rfl⟩
theorem SetW.mono {w : World} {b n m : Nat} {f : Int → Bool} (h : SetW w b n f) (hm : n ≤ m) : SetW w b m f := by
  obtain ⟨D, h1, h2, h3⟩ := h
  exact ⟨D, h1.mono hm, h2, h3⟩
theorem SetW.to {w : World} {b n : Nat} {f g : Int → Bool} (h : SetW w b n f) (hg : ∀ x, f x = g x) : SetW w b n g := by
  obtain ⟨D, h1, h2, h3⟩ := h
  exact ⟨D, h1, h2, fun x => by rw [← hg x]; exact h3 x⟩
theorem plainElem_bool_inv {H : Type} {P : Program} {e : TypeId} (he : P.underlying e = some .bool) {v : Value} {z : DataW H × List MemPlace} (h : plainElem P e v = some z) : ∃ y, v = .bool y ∧ z = (.lit (.bool y), []) := by
  unfold plainElem at h
  rw [he] at h
  cases v <;> simp at h
  exact ⟨_, rfl, h.symm⟩
theorem SetW.look {w : World} {b n : Nat} {f : Int → Bool} (h : SetW w b n f) {x : Int} (hx : (Lit.int .i64 x).wf = true) : (Instr.lookup 58 (.map (some b)) (.int .i64 x) false).run Try.prog w = .ok (.bool (f x)) w := by
  obtain ⟨D, h1, _, h3⟩ := h
  obtain ⟨v, ps, hr, hv⟩ := h1.lookup lawI Try.underlying58 (zeroB w) (plainElem_bool Try.underlying4 false) (Maps.keyOf_int_mk Try.underlying3 hx)
  obtain ⟨y, rfl, he⟩ := plainElem_bool_inv Try.underlying4 hv
  simp only [Prod.mk.injEq] at he
  have h4 := he.1
  rw [h3 x] at h4
  injection h4 with h4
  injection h4 with h4
  rw [hr, h4]
section
variable {w : World} {ops : Array Oper} {rest : List Oper} {o : Oper} {a : Act} {Q : Exit → Act → World → Prop}
theorem wpList_setLook (hg : o.guard = none) (m x : Operand) (hop : o.op = Op.lookup 58 m x false) (b n : Nat) (f : Int → Bool) (k : Int) (hm : a.eval m = .map (some b)) (h : SetW w b n f) (hx : a.eval x = .int .i64 k) (hk : (Lit.int .i64 k).wf = true)
    (hK : wpList Try.prog ops Q rest (a.put o.dst (.bool (f k))) w) : wpList Try.prog ops Q (o :: rest) a w := by
  refine wpList_plain hg fun K' hK' => ?_
  have hrun := h.look hk
  unfold Oper.wp
  simp [execOp, hop, hm, hx, hrun, Result.andThen]
  exact hK' _ _ hK
theorem wpList_setLook_w (hg : Region.wanted o (yielded ops a.tmps) = true) (m x : Operand) (hop : o.op = Op.lookup 58 m x false) (b n : Nat) (f : Int → Bool) (k : Int) (hm : a.eval m = .map (some b)) (h : SetW w b n f) (hx : a.eval x = .int .i64 k) (hk : (Lit.int .i64 k).wf = true)
    (hK : wpList Try.prog ops Q rest (a.put o.dst (.bool (f k))) w) : wpList Try.prog ops Q (o :: rest) a w := by
  refine BigFrame.wpList_want hg fun K' hK' => ?_
  have hrun := h.look hk
  unfold Oper.wp
  simp [execOp, hop, hm, hx, hrun, Result.andThen]
  exact hK' _ _ hK
theorem wpList_setPut (hg : o.guard = none) (m x v : Operand) (hop : o.op = Op.mapUpdate 58 m x v) (b n : Nat) (f : Int → Bool) (k : Int) (hm : a.eval m = .map (some b)) (h : SetW w b n f) (hx : a.eval x = .int .i64 k) (hk : (Lit.int .i64 k).wf = true)
    (hv : a.eval v = .bool true) (hn : n < maxLen) (hK : ∀ w', SetW w' b (n + 1) (fun y => decide (y = k) || f y) → w.grownBy w' (some b) → wpList Try.prog ops Q rest (a.put o.dst undef) w') : wpList Try.prog ops Q (o :: rest) a w := by
  obtain ⟨D, h1, h2, h3⟩ := h
  refine wpList_mapUpdate_own w hg m x v 58 hop 3 4 lawI Try.underlying58 _ b n D hm h1 hn _ _ (.int .i64 k) hx hv (Maps.keyOf_int_mk Try.underlying3 hk) (.lit (.bool true)) [] (plainElem_bool Try.underlying4 true) fun w' h4 h5 => hK w' ⟨_, h4, h2.put _ _, fun y => ?_⟩ h5
  by_cases e : y = k
  · subst e
    rw [Maps.atKey_put_same h2 (show WideAt.IsKeyLit (.int .i64 y) from trivial)]
    simp
  · rw [Maps.atKey_put_other (fun h => e (by injection h)), h3 y]
    simp [e]
end
def inK (l : List Int) (k : Nat) (x : Int) : Bool := decide (x ∈ l.take k)
theorem inK_step {l : List Int} {k : Nat} {y : Int} (hk : k < l.length) (hy : l.getD k 0 = y) (x : Int) : (decide (x = y) || inK l k x) = inK l (k + 1) x := by
  unfold inK
  rw [List.take_succ_eq_append_getElem hk, ← hy, at_k hk, Bool.eq_iff_iff]
  simp only [Bool.or_eq_true, decide_eq_true_eq, List.mem_append, List.mem_singleton]
  exact or_comm
theorem num_any (a b : Int) (w : World) : Calls Try.prog 26 #[.int .i64 a, .int .i64 b] w fun e w' => e = .returned (.bool (decide (1 ≤ a ∧ a ≤ b))) ∧ w' = w := by
  by_cases h1 : 1 ≤ a
  · by_cases h2 : a ≤ b
    · go_enter Try.func26, Try.ntmps26
      go_wp2
      go_ret
      exact ⟨ret_bool (by rw [decide_eq_true ⟨h1, h2⟩]), rfl⟩
    · go_enter Try.func26, Try.ntmps26
      go_wp2
      go_ret
      exact ⟨ret_bool (by rw [eq_comm, decide_eq_false_iff_not]; omega), rfl⟩
  · go_enter Try.func26, Try.ntmps26
    go_wp2
    go_ret
    exact ⟨ret_bool (by rw [eq_comm, Bool.and_eq_false_iff]; exact .inl (by rw [decide_eq_false_iff_not]; omega)), rfl⟩
set_option maxHeartbeats 1000000 in
theorem set_any (b : Nat) (l : List Int) (A : Option Addr) (c : Nat) (w : World) (hz : SmX l) (h : NumsIn b w A l) :
    Calls Try.prog 31 #[.slice A l.length c] w fun e w' => e = .returned (.map (some w.heap.size)) ∧ SetW w' w.heap.size l.length (fun x => decide (x ∈ l)) ∧ Below w.heap.size w w' := by
  have hmm := @run_makeMap Try.prog
  have HL := hide h
  have HW := hide hz.wf
  have HZ := hide hz.len
  have H0 := hide (show SetW (w.alloc (.map #[] 0)) w.heap.size 0 (inK l 0) ∧ Below w.heap.size w (w.alloc (.map #[] 0)) from ⟨(SetW.made w).to fun x => by simp [inK], (Below.refl _ _).alloc (Nat.le_refl _) _⟩)
  clear h hz
  go_enter Try.func31, Try.ntmps31
  go_wp2
  go_loopw [9] (fun i wr => ∃ k : Nat, k ≤ l.length ∧ i = .int .i64 k ∧ Hid (SetW wr w.heap.size k (inK l k) ∧ Below w.heap.size w wr)) (fun i _ => l.length - (intOf i).toNat)
  case atStart => exact ⟨0, Nat.zero_le _, rfl, H0⟩
  case round =>
    obtain ⟨k, hk, rfl, HP⟩ := hrel
    obtain ⟨wo, rfl⟩ : ∃ wo : World, wo = wr := ⟨_, rfl⟩
    clear H0
    have hz40 := unhide HZ
    by_cases hlt : k < l.length
    · obtain ⟨g, off, rfl, _, hc⟩ := ((unhide HL).keep (unhide HP).2) (by omega)
      have c0 := hc k hlt
      have kl : (k : Int) < (l.length : Int) := by omega
      have k0 : (0 : Int) ≤ (k : Int) := by omega
      have HM := hide ((unhide HW) _ (show l.getD k 0 ∈ l by rw [at_k hlt]; exact List.getElem_mem _))
      have HN := hide (fun y hy => inK_step (y := y) hlt hy)
      obtain ⟨y, hy⟩ : ∃ y, l.getD k 0 = y := ⟨_, rfl⟩
      rw [hy] at c0 HM
      have HN := hide ((unhide HN) y hy)
      clear hc hy
      go_wp2_with (at_mapUpdate; refine wpList_setPut rfl _ _ _ rfl _ _ _ y rfl (unhide HP).1 rfl (unhide HM) rfl (by unfold maxLen; have := unhide HZ; omega) ?_)
      intro w1 hs1 hg1
      have H1 := hide (show SetW w1 w.heap.size (k + 1) (inK l (k + 1)) ∧ Below w.heap.size w w1 from ⟨hs1.to (unhide HN), (unhide HP).2.grown hg1 (unhide HP).2.size (fun j e => by injection e with e; omega)⟩)
      clear hs1 hg1
      go_wp2
      go_roundw
      case rel => exact ⟨k + 1, by omega, by go_num, H1⟩
      case measure => simp [intOf]; omega
    · have kl : ¬ (k : Int) < (l.length : Int) := by omega
      obtain rfl : k = l.length := by omega
      go_wp2
      go_ret
      exact ⟨rfl, (unhide HP).1.to (fun x => by unfold inK; rw [List.take_length]), (unhide HP).2⟩
abbrev votA (t s : Int) (A : Option Addr) (n c : Nat) (A' : Option Addr) (n' c' : Nat) : Array Value := #[.int .i64 t, .int .i64 s, .slice A n c, .slice A' n' c']
abbrev votO (t s : Int) (A : Option Addr) (n c : Nat) (A' : Option Addr) (n' c' : Nat) : Obj := .cells (votA t s A n c A' n' c') 40
theorem vot_3 {t s : Int} {A A' : Option Addr} {n c n' c' g : Nat} {W : World} (h : W.heap[g]? = some (votO t s A n c A' n' c')) : W.cell? ⟨g, 3, none⟩ = some (.slice A' n' c') := by rw [Lib.cell_of_heap h]; rfl
theorem wf_small {t : Int} (h0 : 1 ≤ t) (h1 : t ≤ 40) : (Lit.int .i64 t).wf = true := WalkArith.wf_i64 (by omega)
set_option maxRecDepth 100000 in
set_option maxHeartbeats 1000000 in
theorem popen_any (b : Nat) (t s : Int) (X Y : List Int) (A A' : Option Addr) (c c' : Nat) (w : World) (hX : SmX X) (hY : SmX Y) (h : NumsIn b w A X) (h' : NumsIn b w A' Y) :
    Calls Try.prog 20 #[.agg #[.int .i64 t, .int .i64 s, .slice A X.length c, .slice A' Y.length c']] w
      fun e w' => e = .returned (.tuple #[.int .i64 (openB t s X Y), .bool (openF t s X Y)]) ∧ Below w.heap.size w w' := by
  obtain ⟨W1, hW⟩ : ∃ W1 : World, w.alloc (votO t s A X.length c A' Y.length c') = W1 := ⟨_, rfl⟩
  have b1 : Below w.heap.size w W1 := by rw [← hW]; exact below_new (Below.refl _ _) _
  have hx : W1.heap[w.heap.size]? = some (votO t s A X.length c A' Y.length c') := by rw [← hW]; exact heap_alloc_new w _
  have z0 : W1.cell? ⟨w.heap.size, 0, none⟩ = some (.int .i64 t) := by rw [Lib.cell_of_heap hx]; rfl
  have z1 : W1.cell? ⟨w.heap.size, 1, none⟩ = some (.int .i64 s) := by rw [Lib.cell_of_heap hx]; rfl
  have z2 : W1.cell? ⟨w.heap.size, 2, none⟩ = some (.slice A X.length c) := by rw [Lib.cell_of_heap hx]; rfl
  have HB := hide b1
  have HX0 := hide hx
  have HSX := hide (set_any b X A c W1 hX (h.keep b1))
  have HSY := hide (fun W (hb : Below W1.heap.size W1 W) => set_any b Y A' c' W hY ((h'.keep b1).keep hb))
  have HR := hide (show ∀ q : Bool, openF t s X Y = q → (Value.tuple #[.int .i64 (openB t s X Y), .bool (openF t s X Y)]) = .tuple #[.int .i64 (if q = true then t else 0), .bool q] from fun q hq => by unfold openB; rw [hq])
  have HF := hide (show openF t s X Y = decide (t = s ∧ 1 ≤ t ∧ t ≤ 40 ∧ t ∈ X ∧ t ∈ Y) from rfl)
  clear hx h h' hX hY b1
  by_cases h1 : s = t
  case neg =>
    have q1 : (s != t) = true := by rw [bne_iff_ne]; exact h1
    have HN := hide h1
    clear h1
    go_enter Try.func20, Try.ntmps20
    go_wp2
    go_ret2
    exact ⟨by rw [unhide HR false (by rw [unhide HF, decide_eq_false_iff_not]; exact fun h => unhide HN h.1.symm)]; rfl, unhide HB⟩
  subst h1
  have q1 : (s != s) = false := by simp
  by_cases h2 : 1 ≤ s ∧ s ≤ 40
  case neg =>
    have HN := hide h2
    clear h2
    have HNum := hide (fun W => num_any s 40 W)
    rw [decide_eq_false (unhide HN)] at HNum
    go_enter Try.func20, Try.ntmps20
    go_wp2_with (go_at_call 26; refine (unhide HNum _).mono ?_; rintro e wz ⟨rfl, hwz⟩; subst wz)
    go_ret2
    exact ⟨by rw [unhide HR false (by rw [unhide HF, decide_eq_false_iff_not]; exact fun h => unhide HN ⟨h.2.1, h.2.2.1⟩)]; rfl, unhide HB⟩
  have HNum := hide (fun W => num_any s 40 W)
  rw [decide_eq_true h2] at HNum
  have HK := hide (wf_small h2.1 h2.2)
  have H2 := hide h2
  clear h2
  have HNum := hide (unhide HNum)
  by_cases h3 : s ∈ X
  case neg =>
    have q3 : decide (s ∈ X) = false := decide_eq_false h3
    have HN := hide h3
    clear h3
    go_enter Try.func20, Try.ntmps20
    go_wp2_with (first
      | (go_at_call 26; refine (unhide HNum _).mono ?_; rintro e wz ⟨rfl, hwz⟩; subst wz)
      | (go_at_call 31; with_reducible refine (unhide HSX).mono ?_; rintro e w1 ⟨rfl, hs1, hb1⟩; have HS1 := hide hs1; have HB1 := hide hb1; clear hs1 hb1)
      | (at_lookup; refine wpList_setLook_w rfl _ _ rfl _ _ _ s rfl (unhide HS1) rfl (unhide HK) ?_))
    go_ret2
    exact ⟨by rw [unhide HR false (by rw [unhide HF, decide_eq_false_iff_not]; exact fun h => unhide HN h.2.2.2.1)]; rfl, onward (unhide HB) (unhide HB1)⟩
  have q3 : decide (s ∈ X) = true := decide_eq_true h3
  have H3 := hide h3
  clear h3
  obtain ⟨q, hq⟩ : ∃ q, decide (s ∈ Y) = q := ⟨_, rfl⟩
  have HQ := hide (show openF s s X Y = q from by
    rw [unhide HF, ← hq, Bool.eq_iff_iff, decide_eq_true_eq, decide_eq_true_eq]
    exact ⟨fun h => h.2.2.2.2, fun h => ⟨rfl, (unhide H2).1, (unhide H2).2, unhide H3, h⟩⟩)
  have HSY := hide (fun W (hb : Below W1.heap.size W1 W) => by have := unhide HSY W hb; exact this)
  cases q
  case false =>
    go_enter Try.func20, Try.ntmps20
    go_wp2_with (first
      | (go_at_call 26; refine (unhide HNum _).mono ?_; rintro e wz ⟨rfl, hwz⟩; subst wz)
      | (go_at_call 31; with_reducible refine (unhide HSX).mono ?_; rintro e w1 ⟨rfl, hs1, hb1⟩; have HS1 := hide hs1; have HB1 := hide hb1; have z3 := vot_3 (heap_below (unhide HX0) hb1); clear hs1 hb1)
      | (at_lookup; refine wpList_setLook_w rfl _ _ rfl _ _ _ s rfl (unhide HS2) rfl (unhide HK) ?_)
      | (at_lookup; refine wpList_setLook_w rfl _ _ rfl _ _ _ s rfl (unhide HS1) rfl (unhide HK) ?_)
      | (go_at_call 31; refine (unhide HSY _ (unhide HB1)).mono ?_; rintro e w2 ⟨rfl, hs2, hb2⟩; have HS2 := hide hs2; have HB2 := hide hb2; clear hs2 hb2))
    go_ret2
    exact ⟨by rw [unhide HR false (unhide HQ)]; rfl, onward (onward (unhide HB) (unhide HB1)) (unhide HB2)⟩
  case true =>
    go_enter Try.func20, Try.ntmps20
    go_wp2_with (first
      | (go_at_call 26; refine (unhide HNum _).mono ?_; rintro e wz ⟨rfl, hwz⟩; subst wz)
      | (go_at_call 31; with_reducible refine (unhide HSX).mono ?_; rintro e w1 ⟨rfl, hs1, hb1⟩; have HS1 := hide hs1; have HB1 := hide hb1; have z3 := vot_3 (heap_below (unhide HX0) hb1); clear hs1 hb1)
      | (at_lookup; refine wpList_setLook_w rfl _ _ rfl _ _ _ s rfl (unhide HS2) rfl (unhide HK) ?_)
      | (at_lookup; refine wpList_setLook_w rfl _ _ rfl _ _ _ s rfl (unhide HS1) rfl (unhide HK) ?_)
      | (go_at_call 31; refine (unhide HSY _ (unhide HB1)).mono ?_; rintro e w2 ⟨rfl, hs2, hb2⟩; have HS2 := hide hs2; have HB2 := hide hb2; clear hs2 hb2))
    go_ret2
    exact ⟨by rw [unhide HR true (unhide HQ)]; rfl, onward (onward (unhide HB) (unhide HB1)) (unhide HB2)⟩
end Go.Proofs.Ytbjpcajhceapkaa
