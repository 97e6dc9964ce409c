/-
  Crane (layer 18): the program's Cost, validate, isOrder.
-/
import Derived.Test.YtjgjgilpebeelaaCraP
import Derived.Test.YtjgjgilpebeelaaCraT
import Derived.Deep.OwnRows
namespace Go.Proofs.Ytjgjgilpebeelaa
open Go.RowKit

theorem isTime_any (x : Int) (w : World) : Calls Try.prog 37 #[.int .i64 x] w fun e w' => e = .returned (.bool (timB x)) ∧ w = w' := by
  by_cases h1 : 0 ≤ x
  · by_cases h2 : x ≤ 1048576
    · go_enter Try.func37, Try.ntmps37
      go_wp2
      go_ret
      exact ⟨ret_bool (by unfold timB; rw [decide_eq_true ⟨h1, h2⟩]), rfl⟩
    · go_enter Try.func37, Try.ntmps37
      go_wp2
      go_ret
      exact ⟨ret_bool (by unfold timB; rw [eq_comm, decide_eq_false_iff_not]; omega), rfl⟩
  · go_enter Try.func37, Try.ntmps37
    go_wp2
    go_ret
    exact ⟨ret_bool (by unfold timB; rw [eq_comm, decide_eq_false_iff_not]; omega), rfl⟩
theorem isPos_any (x : Int) (w : World) : Calls Try.prog 35 #[.int .i64 x] w fun e w' => e = .returned (.bool (posB x)) ∧ w = w' := by
  by_cases h1 : 0 ≤ x
  · by_cases h2 : x ≤ 99
    · go_enter Try.func35, Try.ntmps35
      go_wp2
      go_ret
      exact ⟨ret_bool (by unfold posB; rw [decide_eq_true ⟨h1, h2⟩]), rfl⟩
    · go_enter Try.func35, Try.ntmps35
      go_wp2
      go_ret
      exact ⟨ret_bool (by unfold posB; rw [eq_comm, decide_eq_false_iff_not]; omega), rfl⟩
  · go_enter Try.func35, Try.ntmps35
    go_wp2
    go_ret
    exact ⟨ret_bool (by unfold posB; rw [eq_comm, decide_eq_false_iff_not]; omega), rfl⟩
theorem cost_any (x : Int) (w : World) : Calls Try.prog 20 #[.int .i64 x] w fun e w' => e = .returned (.int .i64 (cstI x)) ∧ w = w' := by
  have HP := hide (isPos_any x w)
  by_cases h : 0 ≤ x ∧ x ≤ 99
  · have HV := hide (show cstI x = 2 * x + 2 from if_pos h)
    rw [show posB x = true from decide_eq_true h] at HP
    have HP := hide (unhide HP)
    have w1 : IntKind.i64.wrap (2 * x) = 2 * x := by rw [IntKind.wrap_i64]; omega
    have w2 : IntKind.i64.wrap (2 * x + 2) = 2 * x + 2 := by rw [IntKind.wrap_i64]; omega
    clear h
    go_enter Try.func20, Try.ntmps20
    go_wp2_with (go_at_call 35; refine (unhide HP).mono ?_; rintro e w' ⟨rfl, rfl⟩)
    go_ret
    exact ⟨ret_int (unhide HV).symm, rfl⟩
  · have HV := hide (show cstI x = -1 from if_neg h)
    rw [show posB x = false from decide_eq_false h] at HP
    have HP := hide (unhide HP)
    clear h
    go_enter Try.func20, Try.ntmps20
    go_wp2_with (go_at_call 35; refine (unhide HP).mono ?_; rintro e w' ⟨rfl, rfl⟩)
    go_ret
    exact ⟨ret_int (unhide HV).symm, rfl⟩
theorem infoJb : (Try.prog.info? 39).map (·.size) = some 2 := by kernel_rfl
set_option maxHeartbeats 1000000 in
theorem vald1_any (s : Jb) (w : World) : Calls Try.prog 39 #[.agg (jbA s)] w fun e w' => e = .returned (.bool (badJ s)) ∧ Below w.heap.size w w' := by
  obtain ⟨W1, hW⟩ : ∃ W1 : World, w.alloc (.cells (jbA s) 39) = W1 := ⟨_, rfl⟩
  have b1 := (Below.refl w.heap.size w).alloc (Nat.le_refl _) (.cells (jbA s) 39)
  have hx := heap_alloc_new w (.cells (jbA s) 39)
  rw [hW] at b1 hx
  have z0 : W1.cell? ⟨w.heap.size, 0, none⟩ = some (.int .i64 s.1) := by rw [Lib.cell_of_heap hx]; rfl
  have z1 : W1.cell? ⟨w.heap.size, 1, none⟩ = some (.int .i64 s.2) := by rw [Lib.cell_of_heap hx]; rfl
  have B1 := hide b1
  have HP := hide (isPos_any s.1 W1)
  have HT := hide (isTime_any s.2 W1)
  have HR := hide (show badJ s = (!posB s.1 || !timB s.2) from rfl)
  clear b1 hx
  obtain ⟨p, hp⟩ : ∃ p, posB s.1 = p := ⟨_, rfl⟩
  obtain ⟨q, hq⟩ : ∃ q, timB s.2 = q := ⟨_, rfl⟩
  rw [hp] at HP HR
  rw [hq] at HT HR
  have HP := hide (unhide HP)
  have HT := hide (unhide HT)
  have HR := hide (unhide HR)
  clear hp hq
  cases p with
  | false =>
    go_enter Try.func39, Try.ntmps39
    go_wp2_with (go_at_call 35; refine (unhide HP).mono ?_; rintro e w' ⟨rfl, rfl⟩)
    go_ret
    exact ⟨ret_bool (unhide HR).symm, unhide B1⟩
  | true =>
    cases q with
    | false =>
      go_enter Try.func39, Try.ntmps39
      go_wp2_with (first | (go_at_call 35; refine (unhide HP).mono ?_; rintro e w' ⟨rfl, rfl⟩) | (go_at_call 37; refine (unhide HT).mono ?_; rintro e w' ⟨rfl, rfl⟩))
      go_ret
      exact ⟨ret_bool (unhide HR).symm, unhide B1⟩
    | true =>
      go_enter Try.func39, Try.ntmps39
      go_wp2_with (first | (go_at_call 35; refine (unhide HP).mono ?_; rintro e w' ⟨rfl, rfl⟩) | (go_at_call 37; refine (unhide HT).mono ?_; rintro e w' ⟨rfl, rfl⟩))
      go_ret
      exact ⟨ret_bool (unhide HR).symm, unhide B1⟩
set_option maxHeartbeats 1000000 in
set_option maxRecDepth 100000 in
theorem ixJ_any (b : Nat) (l : List Jb) (A : Option Addr) (c : Nat) (w : World) (hz : l.length ≤ 1000000) (h : JbsIn b w A l) :
    Calls Try.prog 43 #[.slice A l.length c, .func (.func 39) #[] #[]] w fun e w' => ∃ r : Int, e = .returned (.int .i64 r) ∧ decide (0 ≤ r) = l.any badJ ∧ Below w.heap.size w w' := by
  have HN := hide h
  have HB := hide (Below.refl w.heap.size w)
  clear h
  go_enter Try.func43, Try.ntmps43
  go_wp2
  go_loopw [8] (fun i wr => ∃ k : Nat, k ≤ l.length ∧ i = .int .i64 k ∧ Hid (Below w.heap.size w wr) ∧ Hid (∀ j, j < k → badJ (l.getD j (0, 0)) = false)) (fun i _ => l.length - (intOf i).toNat)
  case atStart => exact ⟨0, Nat.zero_le _, rfl, HB, hide fun j hj => absurd hj (Nat.not_lt_zero _)⟩
  case round =>
    obtain ⟨k, hk, rfl, HI, HP⟩ := hrel
    obtain ⟨wo, rfl⟩ : ∃ wo : World, wo = wr := ⟨_, rfl⟩
    clear HB
    by_cases hlt : k < l.length
    · obtain ⟨g, off, rfl, _, hc⟩ := ((unhide HN).keep (unhide HI)).at jbC_len hlt ((0, 0) : Jb)
      have kl : (k : Int) < (l.length : Int) := by omega
      have k0 : (0 : Int) ≤ (k : Int) := by omega
      have HC := hide (show ∀ j u, (jbA (l.getD k (0, 0)))[j]? = some u → wo.cell? ⟨g, off + k * 2 + j, none⟩ = some u from fun j u hu => hc j u (by simpa [jbC] using hu))
      have HS := hide (show badJ (l.getD k (0, 0)) = false → ∀ j, j < k + 1 → badJ (l.getD j (0, 0)) = false from fun h9 j hj => by
        rcases Nat.lt_or_ge j k with c1 | c1
        · exact unhide HP j c1
        · obtain rfl : j = k := by omega
          exact h9)
      have HE := hide (show badJ (l.getD k (0, 0)) = true → decide (0 ≤ (k : Int)) = l.any badJ from fun h9 => by
        rw [decide_eq_true k0, eq_comm, List.any_eq_true]
        exact ⟨_, by rw [at_k hlt]; exact List.getElem_mem _, h9⟩)
      have HF := hide (vald1_any (l.getD k (0, 0)) wo)
      clear hc
      generalize l.getD k (0, 0) = s at HC HE HS HF
      obtain ⟨q, hq⟩ : ∃ q, badJ s = q := ⟨_, rfl⟩
      rw [hq] at HF HS HE
      have HF := hide (unhide HF)
      have HS := hide (unhide HS)
      have HE := hide (unhide HE)
      clear hq
      cases q with
      | true =>
        go_wp2_with (first
          | (refine wpList_load_at rfl _ _ rfl g (off + k * 2) rfl (jbA s) _ (unhide HC) Try.underlying39 rfl infoJb ?_)
          | (go_at_call 39; refine (unhide HF).mono ?_; rintro e w1 ⟨rfl, hb1⟩; have HB1 := hide (onward (unhide HI) hb1); clear hb1))
        go_ret
        exact ⟨_, rfl, unhide HE trivial, unhide HB1⟩
      | false =>
        go_wp2_with (first
          | (refine wpList_load_at rfl _ _ rfl g (off + k * 2) rfl (jbA s) _ (unhide HC) Try.underlying39 rfl infoJb ?_)
          | (go_at_call 39; refine (unhide HF).mono ?_; rintro e w1 ⟨rfl, hb1⟩; have HB1 := hide (onward (unhide HI) hb1); clear hb1))
        go_roundw
        case rel => exact ⟨k + 1, by omega, by go_num, HB1, hide (unhide HS trivial)⟩
        case measure => simp [intOf]; omega
    · obtain rfl : k = l.length := by omega
      have kl : ¬ (l.length : Int) < (l.length : Int) := by omega
      have HE := hide (show decide (0 ≤ (-1 : Int)) = l.any badJ from by
        rw [eq_comm, show decide (0 ≤ (-1 : Int)) = false from rfl, List.any_eq_false]
        intro x hx
        obtain ⟨i, hi, rfl⟩ := List.getElem_of_mem hx
        rw [← at_k (d := (0, 0)) hi, unhide HP i hi]; decide)
      go_wp2
      go_ret
      exact ⟨_, rfl, unhide HE, unhide HI⟩
theorem hasJ_any (b : Nat) (l : List Jb) (A : Option Addr) (c : Nat) (w : World) (hz : l.length ≤ 1000000) (h : JbsIn b w A l) :
    Calls Try.prog 38 #[.slice A l.length c, .func (.func 39) #[] #[]] w fun e w' => e = .returned (.bool (l.any badJ)) ∧ Below w.heap.size w w' := by
  have HC := hide (ixJ_any b l A c w hz h)
  clear h
  go_enter Try.func38, Try.ntmps38
  go_wp2_with (go_at_call 43; refine (unhide HC).mono ?_; rintro e w' ⟨r, rfl, hr, hb⟩; have HR := hide hr; have HB := hide hb; clear hr hb)
  go_ret
  exact ⟨ret_bool (unhide HR), unhide HB⟩
set_option maxHeartbeats 1000000 in
theorem valid_any (b : Nat) (now : Int) (l : List Jb) (A : Option Addr) (c : Nat) (w : World) (hz : l.length ≤ 1000000) (h : JbsIn b w A l) :
    Calls Try.prog 27 #[.int .i64 now, .slice A l.length c] w fun e w' => e = .returned (.int .i64 (valJ now l)) ∧ Below w.heap.size w w' := by
  have HT := hide (isTime_any now w)
  have HC := hide (hasJ_any b l A c w hz h)
  have HB := hide (Below.refl w.heap.size w)
  clear h
  by_cases h1 : 200 < l.length
  · have q1 : (200 : Int) < (l.length : Int) := by omega
    have HV := hide (show valJ now l = 2 from if_pos h1)
    go_enter Try.func27, Try.ntmps27
    go_wp2
    go_ret
    exact ⟨ret_int (unhide HV).symm, unhide HB⟩
  · have q1 : ¬ (200 : Int) < (l.length : Int) := by omega
    have HV := hide (show valJ now l = if timB now = false ∨ l.any badJ = true then 1 else 0 from if_neg h1)
    obtain ⟨p, hp⟩ : ∃ p, timB now = p := ⟨_, rfl⟩
    obtain ⟨q, hq⟩ : ∃ q, l.any badJ = q := ⟨_, rfl⟩
    rw [hp] at HT HV
    rw [hq] at HC HV
    have HT := hide (unhide HT)
    have HC := hide (unhide HC)
    have HV := hide (unhide HV)
    clear hp hq
    cases p with
    | false =>
      go_enter Try.func27, Try.ntmps27
      go_wp2_with (go_at_call 37; refine (unhide HT).mono ?_; rintro e w' ⟨rfl, rfl⟩)
      go_ret
      exact ⟨ret_int (by rw [unhide HV]; rfl), unhide HB⟩
    | true =>
      cases q with
      | false =>
        go_enter Try.func27, Try.ntmps27
        go_wp2_with (first | (go_at_call 37; refine (unhide HT).mono ?_; rintro e w' ⟨rfl, rfl⟩) | (go_at_call 38; refine (unhide HC).mono ?_; rintro e w2 ⟨rfl, hb⟩; have HB2 := hide hb; clear hb))
        go_ret
        exact ⟨ret_int (by rw [unhide HV]; rfl), unhide HB2⟩
      | true =>
        go_enter Try.func27, Try.ntmps27
        go_wp2_with (first | (go_at_call 37; refine (unhide HT).mono ?_; rintro e w' ⟨rfl, rfl⟩) | (go_at_call 38; refine (unhide HC).mono ?_; rintro e w2 ⟨rfl, hb⟩; have HB2 := hide hb; clear hb))
        go_ret
        exact ⟨ret_int (by rw [unhide HV]; rfl), unhide HB2⟩

/-- A row of Booleans that is known whole. -/
def RowBo (w : World) (g : Nat) (l : List Bool) : Prop := w.heap[g]? = some (.cells (l.map Value.bool).toArray 4 (0, 0))
theorem RowBo.cell {w : World} {g : Nat} {l : List Bool} (h : RowBo w g l) {k : Nat} (hk : k < l.length) : w.cell? ⟨g, k, none⟩ = some (.bool (l.getD k false)) := by
  rw [Lib.cell_of_heap h, List.getElem?_toArray, List.getElem?_map, List.getElem?_eq_getElem hk, at_k hk]; rfl
theorem RowBo.frozen {w : World} {g : Nat} {l : List Bool} (h : RowBo w g l) (k : Nat) : w.frozen? ⟨g, k, none⟩ = false := frozen_of_row w g k _ _ h
theorem RowBo.put {w : World} {g : Nat} {l : List Bool} (h : RowBo w g l) (k : Nat) (x : Bool) : RowBo (w.setCell ⟨g, k, none⟩ (.bool x)) g (l.set k x) := by
  unfold RowBo
  rw [heap_set h, List.map_set, List.setIfInBounds_toArray]
theorem RowBo.falses (w : World) (n : Nat) : RowBo (w.alloc (.cells (madeCells #[.bool false] n) 4)) w.heap.size (List.replicate n false) := by
  unfold RowBo
  rw [heap_alloc_new]
  have : madeCells #[Value.bool false] n = ((List.replicate n false).map Value.bool).toArray := by
    apply Array.toList_inj.1
    rw [toList_madeCells_one, List.map_replicate]
  rw [this]
theorem info_bool : (Try.prog.info? 4).map (fun i => (i.zero, i.size, i.bytes)) = some (some (.bool false), 1, 1) := by kernel_rfl
theorem bmake (n : Nat) (hn : n ≤ 1000000) (w : World) : (Instr.makeSlice 56 (.int .i64 (n : Int)) (.int .i64 (n : Int))).run Try.prog w = .ok (.slice (some ⟨w.heap.size, 0, none⟩) n n) (w.alloc (.cells (madeCells #[.bool false] n) 4)) :=
  run_make_row' 56 4 (.bool false) 1 Try.underlying56 info_bool rfl .i64 .i64 n (by omega) (by omega) w
/-- What isOrder keeps behind k numbers. -/
structure IsI (w : World) (o : List Int) (k : Nat) (wr : World) : Prop where
  row : ∃ l : List Bool, l.length = o.length ∧ RowBo wr w.heap.size l ∧ ∀ i, i < o.length → l.getD i false = decide ((i : Int) ∈ o.take k)
  bel : Below w.heap.size w wr
  rng : ∀ x ∈ o.take k, 0 ≤ x ∧ x < (o.length : Int)
  nod : (o.take k).Nodup
theorem take_mem {o : List Int} {k : Nat} (h : k < o.length) {x : Int} : x ∈ o.take (k + 1) ↔ x ∈ o.take k ∨ x = o.getD k 0 := by
  rw [List.take_succ_eq_append_getElem h, List.mem_append, List.mem_singleton, at_k h]
theorem IsI.step {w wr : World} {o : List Int} {k : Nat} (h : IsI w o k wr) (hk : k < o.length) {j : Nat} (hj : o.getD k 0 = (j : Int)) (hjn : j < o.length) (hn : (j : Int) ∉ o.take k) : IsI w o (k + 1) (wr.setCell ⟨w.heap.size, j, none⟩ (.bool true)) := by
  obtain ⟨l, h1, h2, h3⟩ := h.row
  refine ⟨⟨l.set j true, by rw [List.length_set]; exact h1, h2.put j true, fun i hi => ?_⟩, h.bel.setCell (Nat.le_refl _) _, fun x hx => ?_, ?_⟩
  · rw [List.getD_eq_getElem?_getD, List.getElem?_set]
    by_cases e : j = i
    · subst e
      rw [if_pos rfl, if_pos (by omega), decide_eq_true ((take_mem hk).2 (.inr hj.symm))]; rfl
    · rw [if_neg e, ← List.getD_eq_getElem?_getD, h3 i hi]
      congr 1
      rw [take_mem hk, hj, eq_iff_iff]
      exact ⟨.inl, fun h => h.elim id (fun e2 => absurd (by omega : j = i) e)⟩
  · rcases (take_mem hk).1 hx with h4 | h4
    · exact h.rng x h4
    · omega
  · rw [List.take_succ_eq_append_getElem hk, List.nodup_append]
    refine ⟨h.nod, by simp, fun x hx y hy => ?_⟩
    rw [List.mem_singleton, ← at_k (d := 0) hk, hj] at hy
    subst hy
    exact fun e => hn (by rw [← e]; exact hx)
theorem isOrd_no {n k : Nat} {o : List Int} (hk : k < o.length) (h : ¬ (0 ≤ o.getD k 0 ∧ o.getD k 0 < (n : Int)) ∨ o.getD k 0 ∈ o.take k) : isOrd n o = false := by
  unfold isOrd
  rw [decide_eq_false_iff_not]
  rintro ⟨_, h2, h3⟩
  rcases h with h | h
  · exact h (h2 _ (by rw [at_k hk]; exact List.getElem_mem _))
  · have := h3.sublist (List.take_sublist (k + 1) o)
    rw [List.take_succ_eq_append_getElem hk, List.nodup_append] at this
    exact this.2.2 _ h _ (by rw [List.mem_singleton, at_k hk]) rfl
set_option maxHeartbeats 2000000 in
set_option maxRecDepth 100000 in
theorem isOrd_any (b : Nat) (o : List Int) (n : Nat) (A : Option Addr) (c : Nat) (w : World) (hz : o.length ≤ 1000) (hn : n ≤ 1000) (h : NumsIn b w A o) :
    Calls Try.prog 32 #[.slice A o.length c, .int .i64 n] w fun e w' => e = .returned (.bool (isOrd n o)) ∧ Below w.heap.size w w' := by
  have HN := hide h
  have HB := hide (Below.refl w.heap.size w)
  clear h
  by_cases hl : o.length = n
  case neg =>
    have q0 : ((o.length : Int) != (n : Int)) = true := by rw [bne_iff_ne]; omega
    have HV := hide (show isOrd n o = false from decide_eq_false (fun h => hl h.1))
    clear hl
    go_enter Try.func32, Try.ntmps32
    go_wp2
    go_ret
    exact ⟨ret_bool (unhide HV).symm, unhide HB⟩
  subst hl
  have q0 : ((o.length : Int) != (o.length : Int)) = false := by rw [bne_eq_false_iff_eq]
  have hmk := bmake o.length (by omega)
  have H0 := hide (show IsI w o 0 (w.alloc (.cells (madeCells #[.bool false] o.length) 4)) from
    ⟨⟨_, List.length_replicate, RowBo.falses w o.length, fun i hi => by rw [List.take_zero, List.getD_eq_getElem?_getD, List.getElem?_replicate, if_pos hi]; simp⟩, (Below.refl _ _).alloc (Nat.le_refl _) _, fun x hx => by simp at hx, by simp⟩)
  go_enter Try.func32, Try.ntmps32
  go_wp2_with fail
  clear hmk
  go_loopw [16] (fun s16 wr => ∃ k : Nat, k ≤ o.length ∧ s16 = .int .i64 k ∧ Hid (IsI w o k wr)) (fun s16 _ => o.length - (intOf s16).toNat)
  case atStart => exact ⟨0, Nat.zero_le _, rfl, H0⟩
  case round =>
    clear H0
    obtain ⟨k, hk, rfl, HI⟩ := hrel
    obtain ⟨wo, rfl⟩ : ∃ wo : World, wo = wr := ⟨_, rfl⟩
    by_cases hlt : k < o.length
    · obtain ⟨g, off, rfl, _, hc⟩ := ((unhide HN).keep (unhide HI).bel) (by omega)
      have c0 := hc k hlt
      have kl : (k : Int) < (o.length : Int) := by omega
      have k0 : (0 : Int) ≤ (k : Int) := by omega
      have HNo := hide (isOrd_no (n := o.length) hlt)
      have HSt := hide (fun (j : Nat) (e1 : o.getD k 0 = (j : Int)) (e2 : j < o.length) (e3 : (j : Int) ∉ o.take k) => (unhide HI).step hlt e1 e2 e3)
      clear hc
      by_cases h0 : o.getD k 0 < 0
      · have HV := hide (unhide HNo (.inl (by omega)))
        generalize o.getD k 0 = x at c0 h0
        have q1 : decide (x < 0) = true := decide_eq_true h0
        go_wp2
        go_ret
        exact ⟨ret_bool (unhide HV).symm, (unhide HI).bel⟩
      · by_cases h1 : (o.length : Int) ≤ o.getD k 0
        · have HV := hide (unhide HNo (.inl (by omega)))
          generalize o.getD k 0 = x at c0 h0 h1
          have q1 : decide (x < 0) = false := decide_eq_false h0
          have q2 : decide ((o.length : Int) ≤ x) = true := decide_eq_true h1
          go_wp2
          go_ret
          exact ⟨ret_bool (unhide HV).symm, (unhide HI).bel⟩
        · obtain ⟨j, hj⟩ := Int.eq_ofNat_of_zero_le (show 0 ≤ o.getD k 0 by omega)
          rw [hj] at c0 h0 h1
          have hjn : j < o.length := by omega
          have jl : (j : Int) < (o.length : Int) := by omega
          have j0 : (0 : Int) ≤ (j : Int) := by omega
          have q1 : decide ((j : Int) < 0) = false := decide_eq_false h0
          have q2 : decide ((o.length : Int) ≤ (j : Int)) = false := decide_eq_false h1
          obtain ⟨l, l1, l2, l3⟩ := (unhide HI).row
          have d0 := l2.cell (k := j) (by omega)
          have f0 := l2.frozen j
          rw [l3 j hjn] at d0
          by_cases hm : (j : Int) ∈ o.take k
          · rw [decide_eq_true hm] at d0
            have HV := hide (unhide HNo (.inr (by rw [hj]; exact hm)))
            clear hm l1 l2 l3 hj
            go_wp2
            go_ret
            exact ⟨ret_bool (unhide HV).symm, (unhide HI).bel⟩
          · rw [decide_eq_false hm] at d0
            have HI2 := hide (unhide HSt j hj hjn hm)
            clear hm l1 l2 l3 hj hjn
            go_wp2
            go_roundw
            case rel => exact ⟨k + 1, by omega, by go_num, HI2⟩
            case measure => simp [intOf]; omega
    · obtain rfl : k = o.length := by omega
      have kl : ¬ (o.length : Int) < (o.length : Int) := by omega
      have HV := hide (show isOrd o.length o = true from decide_eq_true ⟨rfl, by have := (unhide HI).rng; rwa [List.take_length] at this, by have := (unhide HI).nod; rwa [List.take_length] at this⟩)
      go_wp2
      go_ret
      exact ⟨ret_bool (unhide HV).symm, (unhide HI).bel⟩
end Go.Proofs.Ytjgjgilpebeelaa
