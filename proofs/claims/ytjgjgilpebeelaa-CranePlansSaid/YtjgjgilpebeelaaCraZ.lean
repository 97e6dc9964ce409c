/-
  Crane (layer 18): the program's byDue, finish, firstLate, Plan, Finish, Overload, Check.
-/
import Derived.Test.YtjgjgilpebeelaaCraX
import Derived.Test.YtjgjgilpebeelaaCraY
namespace Go.Proofs.Ytjgjgilpebeelaa
open Go.RowKit

/-- Some numbers that a call returns. -/
def NumsR (w : World) (l : List Int) (A : Option Addr) (c : Nat) (w' : World) : Prop := (∀ b, b < w.heap.size ∨ w'.heap.size ≤ b → NumsIn b w' A l) ∧ Below w.heap.size w w' ∧ l.length ≤ c
def GivN (w : World) (l : List Int) (e : Ending) (w' : World) : Prop := ∃ A c, e = .returned (.slice A l.length c) ∧ NumsR w l A c w'
def GivE (w : World) (l : List Int) (er : Int) (e : Ending) (w' : World) : Prop := ∃ A c, e = .returned (.tuple #[.slice A l.length c, .int .i64 er]) ∧ NumsR w l A c w'
theorem numsR_nil {w w' : World} (hb : Below w.heap.size w w') : NumsR w [] none 0 w' := ⟨fun b _ => NumsIn.nil b _ _, hb, Nat.le_refl _⟩
theorem numsR_row {w w' : World} {g : Nat} {l : List Int} (h : RowB w' g l) (hg : w.heap.size ≤ g) (hb : Below w.heap.size w w') {k : Nat} (hk : k ≤ l.length) : NumsR w (l.take k) (some ⟨g, 0, none⟩) l.length w' := by
  refine ⟨fun b hb2 hn => ⟨g, 0, rfl, by have := h.lt; omega, fun i hi => ?_⟩, hb, by rw [List.length_take]; omega⟩
  rw [List.length_take] at hi
  rw [Nat.zero_add, h.cell (by omega), at_k (by omega), at_k (by rw [List.length_take]; omega), List.getElem_take]
theorem numsR_all {w w' : World} {g : Nat} {l : List Int} (h : RowB w' g l) (hg : w.heap.size ≤ g) (hb : Below w.heap.size w w') : NumsR w l (some ⟨g, 0, none⟩) l.length w' := by
  have := numsR_row h hg hb (k := l.length) (Nat.le_refl _)
  rwa [List.take_length] at this
theorem NumsR.later {w0 w w' : World} {A : Option Addr} {c : Nat} {l : List Int} (h : NumsR w l A c w') (hb : Below w0.heap.size w0 w) : NumsR w0 l A c w' :=
  ⟨fun b h1 => h.1 b (h1.elim (fun h2 => .inl (Nat.lt_of_lt_of_le h2 hb.size)) .inr), onward hb h.2.1, h.2.2⟩
set_option maxHeartbeats 2000000 in
set_option maxRecDepth 100000 in
/-- The order by due times: a row of the call's own. -/
theorem byDue_any (b : Nat) (jobs : List Jb) (A : Option Addr) (c : Nat) (w : World) (hz : jobs.length ≤ 1000) (h : JbsIn b w A jobs) :
    Calls Try.prog 28 #[.slice A jobs.length c] w fun e w' => ∃ g o, e = .returned (.slice (some ⟨g, 0, none⟩) jobs.length jobs.length) ∧ w.heap.size ≤ g ∧ RowB w' g o ∧ IsBy jobs o ∧ Below w.heap.size w w' := by
  obtain ⟨W1, hW⟩ : ∃ W1 : World, w.alloc (.cells #[.slice A jobs.length c] 22) = W1 := ⟨_, rfl⟩
  have b1 := (Below.refl w.heap.size w).alloc (Nat.le_refl _) (.cells #[.slice A jobs.length c] 22)
  have hx := heap_alloc_new w (.cells #[.slice A jobs.length c] 22)
  have hs1 : W1.heap.size = w.heap.size + 1 := by rw [← hW, World.size_alloc]
  rw [hW] at b1 hx
  have z0 : W1.cell? ⟨w.heap.size, 0, none⟩ = some (.slice A jobs.length c) := by rw [Lib.cell_of_heap hx]; rfl
  have hmk := smake jobs.length (by omega) W1
  obtain ⟨W2, hW2⟩ : ∃ W2 : World, W1.alloc (.cells (madeCells #[.int .i64 0] jobs.length) 3) = W2 := ⟨_, rfl⟩
  have b2 := (Below.refl W1.heap.size W1).alloc (Nat.le_refl _) (.cells (madeCells #[.int .i64 0] jobs.length) 3)
  have hr2 := RowB.zeros W1 jobs.length
  rw [hW2] at b2 hr2 hmk
  rw [hs1] at hmk hr2
  obtain ⟨G, hG⟩ : ∃ G, w.heap.size + 1 = G := ⟨_, rfl⟩
  rw [hG] at hmk hr2
  have HCap := hide (show Cap jobs w.heap.size G A c W2 from ⟨kept b2 z0, by omega, ((h.other jbC_len (by omega) (show w.heap.size ≤ G by omega)).keep b1).keep b2⟩)
  have HBl := hide (onward b1 b2)
  have HGs := hide (show G < W2.heap.size by rw [← hW2, World.size_alloc, hs1]; omega)
  have H0 := hide (show W2.grownBy W2 (some G) ∧ ∃ l : List Int, l.length = jobs.length ∧ RowB W2 G l ∧ ∀ i, i < 0 → l.getD i 0 = (i : Int) from ⟨World.grownBy.refl _ _, _, List.length_replicate, hr2, fun i hi => absurd hi (Nat.not_lt_zero _)⟩)
  have HG := hide hG
  clear h b1 hx hs1 b2 hr2 hW2 hG
  go_enter Try.func28, Try.ntmps28
  go_wp2_with fail
  clear hmk z0 hW
  go_loopw [10] (fun s10 wr => ∃ k : Nat, k ≤ jobs.length ∧ s10 = .int .i64 k ∧ Hid (W2.grownBy wr (some G) ∧ ∃ l : List Int, l.length = jobs.length ∧ RowB wr G l ∧ ∀ i, i < k → l.getD i 0 = (i : Int))) (fun s10 _ => jobs.length - (intOf s10).toNat)
  case atStart => exact ⟨0, Nat.zero_le _, rfl, H0⟩
  case round =>
    clear H0
    obtain ⟨k, hk, rfl, HI⟩ := hrel
    obtain ⟨wo, rfl⟩ : ∃ wo : World, wo = wr := ⟨_, rfl⟩
    obtain ⟨l, hl, hr, hi⟩ := (unhide HI).2
    by_cases hlt : k < jobs.length
    · have kl : (k : Int) < (jobs.length : Int) := by omega
      have k0 : (0 : Int) ≤ (k : Int) := by omega
      have c0 := hr.cell (k := k) (by omega)
      have f0 := hr.frozen k
      have HI2 := hide (show W2.grownBy (wo.setCell ⟨G, k, none⟩ (.int .i64 k)) (some G) ∧ ∃ l : List Int, l.length = jobs.length ∧ RowB (wo.setCell ⟨G, k, none⟩ (.int .i64 k)) G l ∧ ∀ i, i < k + 1 → l.getD i 0 = (i : Int) from
        ⟨(unhide HI).1.trans (grown_set _ _ _ _), l.set k k, by rw [List.length_set]; exact hl, hr.put k k, fun i h9 => by
          rw [getD_sets i (by omega)]
          by_cases e : k = i
          · rw [if_pos e, e]
          · rw [if_neg e]; exact hi i (by omega)⟩)
      clear hi hr hl
      go_wp2
      go_roundw
      case rel => exact ⟨k + 1, by omega, by go_num, HI2⟩
      case measure => simp [intOf]; omega
    · obtain rfl : k = jobs.length := by omega
      have kl : ¬ (jobs.length : Int) < (jobs.length : Int) := by omega
      have hup : l = upI jobs.length := by
        apply List.ext_getElem (by rw [hl, upI_len])
        intro i h1 h2
        rw [← at_k (d := 0) h1, ← at_k (d := 0) h2, hi i (by omega), upI_at (by omega)]
      have HC := hide (stable_any jobs w.heap.size G c jobs.length A wo wo ((unhide HCap).grown (unhide HI).1) rfl hz ⟨by rw [← hup]; exact hr, World.grownBy.refl _ _, upI_len _, fun x hx => upI_mem.1 hx⟩)
      have HGr := hide (unhide HI).1
      clear hup hi hr hl HI HCap
      have HS := hide (show Calls Try.prog 40 #[.slice (some ⟨G, 0, none⟩) jobs.length jobs.length, bdV w.heap.size] wo fun e w' => e = .returned (.tuple #[]) ∧ ∃ o, SrW wo G jobs.length o w' ∧ IsBy jobs o from by
        go_enter Try.func40, Try.ntmps40
        go_wp2_with (go_at_call 44; refine (unhide HC).mono ?_; rintro e w2 ⟨rfl, hb⟩; have HB2 := hide hb; clear hb)
        go_end0
        exact ⟨rfl, unhide HB2⟩)
      clear HC
      go_wp2_with (go_at_call 40; refine (unhide HS).mono ?_; rintro e w2 ⟨rfl, o, hs, ho⟩; have HB2 := hide (show SrW wo G jobs.length o w2 ∧ IsBy jobs o from ⟨hs, ho⟩); clear hs ho)
      go_ret
      have hg := (unhide HGr).trans (unhide HB2).1.grown
      exact ⟨G, o, rfl, by have := unhide HG; omega, (unhide HB2).1.row, (unhide HB2).2, (unhide HBl).grown hg (unhide HBl).size (fun j e => by injection e with e; have := unhide HG; omega)⟩
theorem jbs_get {b : Nat} {w : World} {A : Option Addr} {jobs : List Jb} (h : JbsIn b w A jobs) {j : Nat} (hj : j < jobs.length) :
    ∃ g off, A = some ⟨g, off, none⟩ ∧ w.cell? ⟨g, off + j * 2, none⟩ = some (.int .i64 (posJ jobs (j : Int))) ∧ w.cell? ⟨g, off + j * 2 + 1, none⟩ = some (.int .i64 (dueJ jobs (j : Int))) := by
  obtain ⟨g, off, e, _, hc⟩ := h.at jbC_len hj ((0, 0) : Jb)
  exact ⟨g, off, e, hc 0 _ rfl, hc 1 _ rfl⟩
set_option maxHeartbeats 2000000 in
set_option maxRecDepth 100000 in
theorem finish_any (b : Nat) (now : Int) (jobs : List Jb) (o : List Int) (A A' : Option Addr) (c c' : Nat) (w : World) (hv : ValJ now jobs) (ho : ∀ x ∈ o, 0 ≤ x ∧ x < (jobs.length : Int)) (hz : o.length ≤ 200) (h : JbsIn b w A jobs) (h' : NumsIn b w A' o) :
    Calls Try.prog 33 #[.int .i64 now, .slice A jobs.length c, .slice A' o.length c'] w fun e w' => ∃ g, e = .returned (.slice (some ⟨g, 0, none⟩) o.length o.length) ∧ w.heap.size ≤ g ∧ RowB w' g (finJ now jobs o) ∧ Below w.heap.size w w' := by
  have hmk := smake o.length (by omega) w
  obtain ⟨W2, hW2⟩ : ∃ W2 : World, w.alloc (.cells (madeCells #[.int .i64 0] o.length) 3) = W2 := ⟨_, rfl⟩
  have b2 := (Below.refl w.heap.size w).alloc (Nat.le_refl _) (.cells (madeCells #[.int .i64 0] o.length) 3)
  have hr2 := RowB.zeros w o.length
  rw [hW2] at b2 hr2 hmk
  obtain ⟨G, hG⟩ : ∃ G, w.heap.size = G := ⟨_, rfl⟩
  rw [hG] at hmk hr2
  have HG := hide hG
  have H0 := hide (show Below w.heap.size w W2 ∧ ∃ l : List Int, l.length = o.length ∧ RowB W2 G l ∧ ∀ i, i < 0 → l.getD i 0 = endK now jobs o (i + 1) from ⟨b2, _, List.length_replicate, hr2, fun i hi => absurd hi (Nat.not_lt_zero _)⟩)
  have HV := hide hv
  have HO := hide ho
  have HJ := hide h
  have HN := hide h'
  clear hv ho h h' b2 hr2 hW2 hG
  go_enter Try.func33, Try.ntmps33
  go_wp2_with fail
  clear hmk
  go_loopw [0, 15] (fun s0 s15 wr => ∃ k : Nat, k ≤ o.length ∧ s15 = .int .i64 k ∧ s0 = .int .i64 (endK now jobs o k) ∧ Hid (Below w.heap.size w wr ∧ ∃ l : List Int, l.length = o.length ∧ RowB wr G l ∧ ∀ i, i < k → l.getD i 0 = endK now jobs o (i + 1))) (fun _ s15 _ => o.length - (intOf s15).toNat)
  case atStart => exact ⟨0, Nat.zero_le _, rfl, rfl, H0⟩
  case round =>
    clear H0
    obtain ⟨k, hk, rfl, rfl, HI⟩ := hrel
    obtain ⟨wo, rfl⟩ : ∃ wo : World, wo = wr := ⟨_, rfl⟩
    obtain ⟨l, hl, hr, hi⟩ := (unhide HI).2
    by_cases hlt : k < o.length
    · have kl : (k : Int) < (o.length : Int) := by omega
      have k0 : (0 : Int) ≤ (k : Int) := by omega
      obtain ⟨g', off', rfl, _, hc⟩ := ((unhide HN).keep (unhide HI).1) (by omega)
      have c0 := hc k hlt
      have hx := (unhide HO) (o.getD k 0) (by rw [at_k hlt]; exact List.getElem_mem _)
      obtain ⟨j, hj⟩ := Int.eq_ofNat_of_zero_le hx.1
      have hE : endK now jobs o (k + 1) = endK now jobs o k + cstI (posJ jobs (j : Int)) := by rw [← hj]; rfl
      have hlo := endK_low (unhide HV) o k
      have hlo1 := endK_low (unhide HV) o (k + 1)
      rw [hj] at c0 hx
      have jn : (j : Int) < (jobs.length : Int) := hx.2
      have j0 : (0 : Int) ≤ (j : Int) := hx.1
      obtain ⟨g, off, rfl, c1, _⟩ := jbs_get ((unhide HJ).keep (unhide HI).1) (j := j) (by omega)
      have HC := hide (fun W => cost_any (posJ jobs (j : Int)) W)
      have HI2 := hide (show ∀ y : Int, y = endK now jobs o (k + 1) → Below w.heap.size w (wo.setCell ⟨G, k, none⟩ (.int .i64 y)) ∧ ∃ l : List Int, l.length = o.length ∧ RowB (wo.setCell ⟨G, k, none⟩ (.int .i64 y)) G l ∧ ∀ i, i < k + 1 → l.getD i 0 = endK now jobs o (i + 1) from fun y hy =>
        ⟨(unhide HI).1.setCell (by rw [unhide HG]; exact Nat.le_refl _) _, l.set k y, by rw [List.length_set]; exact hl, hr.put k y, fun i h9 => by
          rw [getD_sets i (by omega)]
          by_cases e : k = i
          · rw [if_pos e, hy, e]
          · rw [if_neg e]; exact hi i (by omega)⟩)
      have d0 := hr.cell (k := k) (by omega)
      have f0 := hr.frozen k
      generalize cstI (posJ jobs (j : Int)) = q at HC hE
      generalize posJ jobs (j : Int) = p at c1 HC
      have wq : IntKind.i64.wrap (endK now jobs o k + q) = endK now jobs o (k + 1) := by rw [IntKind.wrap_i64]; omega
      have HI3 := hide (unhide HI2 _ rfl)
      clear hc hi hl hx hE hlo hlo1 hj hr HI2
      obtain ⟨E1, hE1⟩ : ∃ E1, endK now jobs o (k + 1) = E1 := ⟨_, rfl⟩
      rw [hE1] at wq HI3
      have HE1 := hide hE1
      have HI3 := hide (unhide HI3)
      clear hE1
      go_wp2_with (go_at_call 20; refine (unhide HC _).mono ?_; rintro e w' ⟨rfl, rfl⟩)
      go_roundw
      case rel => exact ⟨k + 1, by omega, by go_num, by rw [unhide HE1], HI3⟩
      case measure => simp [intOf]; omega
    · obtain rfl : k = o.length := by omega
      have kl : ¬ (o.length : Int) < (o.length : Int) := by omega
      have hup : l = finJ now jobs o := by
        apply List.ext_getElem (by rw [hl, finJ_len])
        intro i h1 h2
        rw [← at_k (d := 0) h1, ← at_k (d := 0) h2, hi i (by omega), finJ_at (by omega)]
      rw [hup] at hr
      have HR := hide hr
      clear hup hi hr hl
      go_wp2
      go_ret
      exact ⟨G, rfl, by rw [unhide HG]; exact Nat.le_refl _, unhide HR, (unhide HI).1⟩
/-- The place of the first late job, or -1. -/
def latI (now : Int) (jobs : List Jb) (o : List Int) : Int := if latN now jobs o < o.length then (latN now jobs o : Nat) else -1
theorem latI_at {now : Int} {jobs : List Jb} {o : List Int} {k : Nat} (hk : k < o.length) (hj : ∀ j, j < k → latB now jobs o j = false) (h : latB now jobs o k = true) : latI now jobs o = k := by
  unfold latI; rw [latN_at hk hj h, if_pos hk]
theorem latI_end {now : Int} {jobs : List Jb} {o : List Int} (h : ∀ j, j < o.length → latB now jobs o j = false) : latI now jobs o = -1 := by
  unfold latI; rw [latN_end h, if_neg (Nat.lt_irrefl _)]
set_option maxHeartbeats 2000000 in
set_option maxRecDepth 100000 in
theorem firstLate_any (b : Nat) (now : Int) (jobs : List Jb) (o : List Int) (A A' : Option Addr) (c c' : Nat) (w : World) (hv : ValJ now jobs) (ho : ∀ x ∈ o, 0 ≤ x ∧ x < (jobs.length : Int)) (hz : o.length ≤ 200) (h : JbsIn b w A jobs) (h' : NumsIn b w A' o) :
    Calls Try.prog 29 #[.int .i64 now, .slice A jobs.length c, .slice A' o.length c'] w fun e w' => e = .returned (.int .i64 (latI now jobs o)) ∧ Below w.heap.size w w' := by
  have HF := hide (finish_any b now jobs o A A' c c' w hv ho hz h h')
  have HO := hide ho
  have HJ := hide h
  have HN := hide h'
  clear hv ho h h'
  go_enter Try.func29, Try.ntmps29
  go_wp2_with fail
  refine (unhide HF).mono ?_
  rintro e w1 ⟨G, rfl, hG, hR, hb1⟩
  have HR := hide hR
  have HB := hide hb1
  have HJ1 := hide ((unhide HJ).keep hb1)
  have HN1 := hide ((unhide HN).keep hb1)
  clear hG hR hb1 HF HJ HN
  go_wp2_with fail
  go_loop [14] (fun s14 => ∃ k : Nat, k ≤ o.length ∧ s14 = .int .i64 k ∧ Hid (∀ j, j < k → latB now jobs o j = false)) (fun s14 => o.length - (intOf s14).toNat)
  case atStart => exact ⟨0, Nat.zero_le _, rfl, hide fun j hj => absurd hj (Nat.not_lt_zero _)⟩
  case round =>
    obtain ⟨k, hk, rfl, HP⟩ := hrel
    by_cases hlt : k < o.length
    · have kl : (k : Int) < (o.length : Int) := by omega
      have k0 : (0 : Int) ≤ (k : Int) := by omega
      have r0 := (unhide HR).cell (k := k) (by rw [finJ_len]; exact hlt)
      rw [finJ_at hlt] at r0
      obtain ⟨g', off', rfl, _, hc⟩ := (unhide HN1) (by omega)
      have c0 := hc k hlt
      have hx := (unhide HO) (o.getD k 0) (by rw [at_k hlt]; exact List.getElem_mem _)
      obtain ⟨j, hj⟩ := Int.eq_ofNat_of_zero_le hx.1
      have hL : latB now jobs o k = decide (dueJ jobs (j : Int) < endK now jobs o (k + 1)) := by unfold latB; rw [hj]
      rw [hj] at c0 hx
      have jn : (j : Int) < (jobs.length : Int) := hx.2
      have j0 : (0 : Int) ≤ (j : Int) := hx.1
      obtain ⟨g, off, rfl, _, c1⟩ := jbs_get (unhide HJ1) (j := j) (by omega)
      have HA := hide (latI_at (now := now) (jobs := jobs) hlt (unhide HP))
      have HS := hide (show latB now jobs o k = false → ∀ j, j < k + 1 → latB now jobs o j = false from fun h9 j hj9 => by
        rcases Nat.lt_or_ge j k with c1 | c1
        · exact unhide HP j c1
        · obtain rfl : j = k := by omega
          exact h9)
      rw [hL] at HA HS
      generalize endK now jobs o (k + 1) = E1 at r0 HA HS
      generalize dueJ jobs (j : Int) = D at c1 HA HS
      clear hc hx hL hj
      by_cases hd : D < E1
      · have HV := hide (unhide HA (decide_eq_true hd))
        clear HA HS
        go_wp2
        go_ret
        exact ⟨ret_int (unhide HV).symm, unhide HB⟩
      · have HV := hide (unhide HS (decide_eq_false hd))
        clear HA HS
        go_wp2
        go_round
        case rel => exact ⟨k + 1, by omega, by go_num, HV⟩
        case measure => simp [intOf]; omega
    · obtain rfl : k = o.length := by omega
      have kl : ¬ (o.length : Int) < (o.length : Int) := by omega
      have HV := hide (latI_end (unhide HP))
      go_wp2
      go_ret
      exact ⟨ret_int (unhide HV).symm, unhide HB⟩
section
variable {now : Int} {jobs : List Jb} {o : List Int}
theorem plan_bad (h : valJ now jobs ≠ 0) : planE now jobs = valJ now jobs ∧ planL now jobs = [] ∧ ovL now jobs = [] := by
  have e : planE now jobs = valJ now jobs := if_pos h
  exact ⟨e, if_neg (by rw [e]; exact h), if_pos h⟩
theorem latI_cases (now : Int) (jobs : List Jb) (o : List Int) : (∃ k : Nat, k < o.length ∧ latN now jobs o = k ∧ latI now jobs o = (k : Int)) ∨ (latN now jobs o = o.length ∧ latI now jobs o = -1) := by
  unfold latI
  rcases Nat.lt_or_ge (latN now jobs o) o.length with c | c
  · exact .inl ⟨_, c, rfl, if_pos c⟩
  · exact .inr ⟨Nat.le_antisymm latN_le c, if_neg (by omega)⟩
theorem plan_late (h : valJ now jobs = 0) (ho : IsBy jobs o) (hl : latI now jobs o ≠ -1) : planE now jobs = 12 ∧ planL now jobs = [] := by
  have e : planE now jobs = 12 := by
    unfold planE
    rw [if_neg (by rw [h]; decide), ← ho.ord]
    rcases latI_cases now jobs o with ⟨k, h1, h2, _⟩ | ⟨_, h2⟩
    · rw [if_pos (by omega)]
    · exact absurd h2 hl
  exact ⟨e, if_neg (by rw [e]; decide)⟩
theorem plan_ok (h : valJ now jobs = 0) (ho : IsBy jobs o) (hl : latI now jobs o = -1) : planE now jobs = 0 ∧ planL now jobs = o := by
  have e : planE now jobs = 0 := by
    unfold planE
    rw [if_neg (by rw [h]; decide), ← ho.ord]
    rcases latI_cases now jobs o with ⟨k, h1, h2, h3⟩ | ⟨h2, _⟩
    · omega
    · rw [if_neg (by omega)]
  refine ⟨e, ?_⟩
  unfold planL
  rw [if_pos e, ← ho.ord]
theorem over_ok (h : valJ now jobs = 0) (ho : IsBy jobs o) : ∃ k : Nat, k ≤ o.length ∧ latI now jobs o + 1 = (k : Int) ∧ ovL now jobs = o.take k := by
  unfold ovL
  rw [if_neg (by rw [h]; decide), ← ho.ord]
  rcases latI_cases now jobs o with ⟨k, h1, h2, h3⟩ | ⟨h2, h3⟩
  · exact ⟨k + 1, h1, by rw [h3]; omega, by rw [if_pos (by omega), h2]⟩
  · exact ⟨0, Nat.zero_le _, by rw [h3]; rfl, by rw [if_neg (by omega), List.take_zero]⟩
theorem chk_bad (h : valJ now jobs ≠ 0) : chkE now jobs o = valJ now jobs := if_pos h
theorem chk_order (h : valJ now jobs = 0) (ho : isOrd jobs.length o = false) : chkE now jobs o = 9 := by
  unfold chkE
  rw [if_neg (by rw [h]; decide), if_pos ho]
theorem chk_late (h : valJ now jobs = 0) (ho : isOrd jobs.length o = true) (hl : latI now jobs o ≠ -1) : chkE now jobs o = 12 := by
  unfold chkE
  rw [if_neg (by rw [h]; decide), if_neg (by rw [ho]; decide)]
  rcases latI_cases now jobs o with ⟨k, h1, h2, _⟩ | ⟨_, h2⟩
  · rw [if_pos (by omega)]
  · exact absurd h2 hl
theorem chk_ok (h : valJ now jobs = 0) (ho : isOrd jobs.length o = true) (hl : latI now jobs o = -1) : chkE now jobs o = 0 := by
  unfold chkE
  rw [if_neg (by rw [h]; decide), if_neg (by rw [ho]; decide)]
  rcases latI_cases now jobs o with ⟨k, h1, h2, h3⟩ | ⟨h2, _⟩
  · omega
  · rw [if_neg (by omega)]
theorem isOrd_ok {n : Nat} (h : isOrd n o = true) : o.length = n ∧ ∀ x ∈ o, 0 ≤ x ∧ x < (n : Int) := by
  unfold isOrd at h
  rw [decide_eq_true_eq] at h
  exact ⟨h.1, h.2.1⟩
end
set_option maxHeartbeats 2000000 in
set_option maxRecDepth 100000 in
theorem plan_any (b : Nat) (now : Int) (jobs : List Jb) (A : Option Addr) (c : Nat) (w : World) (hz : jobs.length ≤ 1000000) (h : JbsIn b w A jobs) :
    Calls Try.prog 11 #[.int .i64 now, .slice A jobs.length c] w (GivE w (planL now jobs) (planE now jobs)) := by
  have HVa := hide (valid_any b now jobs A c w hz h)
  by_cases hv : valJ now jobs = 0
  case neg =>
    have HP := hide (plan_bad hv)
    obtain ⟨v, hvv⟩ : ∃ v, valJ now jobs = v := ⟨_, rfl⟩
    rw [hvv] at HVa hv HP
    have HVa := hide (unhide HVa)
    have HP := hide (unhide HP)
    have q0 : (v != 0) = true := by rw [bne_iff_ne]; exact hv
    clear hvv hv h
    go_enter Try.func11, Try.ntmps11
    go_wp2_with (go_at_call 27; refine (unhide HVa).mono ?_; rintro e w1 ⟨rfl, hb1⟩; have HB1 := hide hb1; clear hb1)
    go_ret2
    rw [(unhide HP).1, (unhide HP).2.1]
    exact ⟨none, 0, rfl, numsR_nil (unhide HB1)⟩
  have HVJ := hide (valJ_iff.1 hv)
  have HV := hide hv
  rw [hv] at HVa
  have HVa := hide (unhide HVa)
  have HJ := hide h
  clear hv h
  go_enter Try.func11, Try.ntmps11
  go_wp2_with fail
  refine (unhide HVa).mono ?_
  rintro e w1 ⟨rfl, hb1⟩
  have HJ1 := hide ((unhide HJ).keep hb1)
  have HBD := hide (byDue_any b jobs A c w1 (by have := (unhide HVJ).len; omega) (unhide HJ1))
  have HB1 := hide hb1
  clear hb1
  go_wp2_with fail
  refine (unhide HBD).mono ?_
  rintro e w2 ⟨g, o, rfl, hg, hr, ho, hb2⟩
  have HR2 := hide hr
  have HO := hide ho
  have HB2 := hide (onward (unhide HB1) hb2)
  have HG := hide (Nat.le_trans (unhide HB1).size hg)
  have HL := hide ho.len
  have HFL := hide (firstLate_any w2.heap.size now jobs o A (some ⟨g, 0, none⟩) c jobs.length w2 (unhide HVJ) (fun x hx => ho.mem.1 hx) (by rw [ho.len]; exact (unhide HVJ).len) ((((unhide HJ1).keep hb2)).other jbC_len (by omega) (Nat.le_refl _)) (hr.nums (by have := hr.lt; omega)))
  rw [ho.len] at HFL
  have HFL := hide (unhide HFL)
  clear hg hr ho hb2 HBD HVa
  by_cases hl : latI now jobs o = -1
  · have HP := hide (plan_ok (unhide HV) (unhide HO) hl)
    rw [hl] at HFL
    have HFL := hide (unhide HFL)
    clear hl
    go_wp2_with (go_at_call 29; refine (unhide HFL).mono ?_; rintro e w3 ⟨rfl, hb3⟩; have HB3 := hide hb3; clear hb3)
    go_ret2
    rw [(unhide HP).1, (unhide HP).2]
    refine ⟨some ⟨g, 0, none⟩, jobs.length, by rw [unhide HL]; rfl, ?_⟩
    rw [← unhide HL]
    exact numsR_all ((unhide HR2).keep (unhide HB3)) (unhide HG) (onward (unhide HB2) (unhide HB3))
  · have HP := hide (plan_late (unhide HV) (unhide HO) hl)
    obtain ⟨v, hvv⟩ : ∃ v, latI now jobs o = v := ⟨_, rfl⟩
    rw [hvv] at HFL hl
    have HFL := hide (unhide HFL)
    have q0 : (v != -1) = true := by rw [bne_iff_ne]; exact hl
    clear hvv hl
    go_wp2_with (go_at_call 29; refine (unhide HFL).mono ?_; rintro e w3 ⟨rfl, hb3⟩; have HB3 := hide hb3; clear hb3)
    go_ret2
    rw [(unhide HP).1, (unhide HP).2]
    exact ⟨none, 0, rfl, numsR_nil (onward (unhide HB2) (unhide HB3))⟩
set_option maxHeartbeats 2000000 in
set_option maxRecDepth 100000 in
theorem over_any (b : Nat) (now : Int) (jobs : List Jb) (A : Option Addr) (c : Nat) (w : World) (hz : jobs.length ≤ 1000000) (h : JbsIn b w A jobs) :
    Calls Try.prog 16 #[.int .i64 now, .slice A jobs.length c] w (GivN w (ovL now jobs)) := by
  have HVa := hide (valid_any b now jobs A c w hz h)
  by_cases hv : valJ now jobs = 0
  case neg =>
    have HP := hide (plan_bad hv).2.2
    obtain ⟨v, hvv⟩ : ∃ v, valJ now jobs = v := ⟨_, rfl⟩
    rw [hvv] at HVa hv
    have HVa := hide (unhide HVa)
    have q0 : (v != 0) = true := by rw [bne_iff_ne]; exact hv
    clear hvv hv h
    go_enter Try.func16, Try.ntmps16
    go_wp2_with (go_at_call 27; refine (unhide HVa).mono ?_; rintro e w1 ⟨rfl, hb1⟩; have HB1 := hide hb1; clear hb1)
    go_ret
    rw [unhide HP]
    exact ⟨none, 0, rfl, numsR_nil (unhide HB1)⟩
  have HVJ := hide (valJ_iff.1 hv)
  have HV := hide hv
  rw [hv] at HVa
  have HVa := hide (unhide HVa)
  have HJ := hide h
  clear hv h
  go_enter Try.func16, Try.ntmps16
  go_wp2_with fail
  refine (unhide HVa).mono ?_
  rintro e w1 ⟨rfl, hb1⟩
  have HJ1 := hide ((unhide HJ).keep hb1)
  have HBD := hide (byDue_any b jobs A c w1 (by have := (unhide HVJ).len; omega) (unhide HJ1))
  have HB1 := hide hb1
  clear hb1
  go_wp2_with fail
  refine (unhide HBD).mono ?_
  rintro e w2 ⟨g, o, rfl, hg, hr, ho, hb2⟩
  have HR2 := hide hr
  have HO := hide ho
  have HB2 := hide (onward (unhide HB1) hb2)
  have HG := hide (Nat.le_trans (unhide HB1).size hg)
  have HL := hide ho.len
  have HFL := hide (firstLate_any w2.heap.size now jobs o A (some ⟨g, 0, none⟩) c jobs.length w2 (unhide HVJ) (fun x hx => ho.mem.1 hx) (by rw [ho.len]; exact (unhide HVJ).len) ((((unhide HJ1).keep hb2)).other jbC_len (by omega) (Nat.le_refl _)) (hr.nums (by have := hr.lt; omega)))
  rw [ho.len] at HFL
  have HFL := hide (unhide HFL)
  obtain ⟨k, hk, hlk, hov⟩ := over_ok (now := now) (unhide HV) ho
  rw [ho.len] at hk
  have hk2 := (unhide HVJ).len
  obtain ⟨v, hvv⟩ : ∃ v, latI now jobs o = v := ⟨_, rfl⟩
  rw [hvv] at HFL hlk
  have HFL := hide (unhide HFL)
  have HOV := hide hov
  have wk : IntKind.i64.wrap (v + 1) = (k : Int) := by rw [IntKind.wrap_i64]; omega
  have k0 : (0 : Int) ≤ (k : Int) := by omega
  have k1 : (k : Int) ≤ (jobs.length : Int) := by omega
  clear hg hr ho hb2 HBD HVa hvv hlk hov
  go_wp2_with (go_at_call 29; refine (unhide HFL).mono ?_; rintro e w3 ⟨rfl, hb3⟩; have HB3 := hide hb3; clear hb3)
  go_ret
  have hn := numsR_row ((unhide HR2).keep (unhide HB3)) (unhide HG) (onward (unhide HB2) (unhide HB3)) (k := k) (by rw [unhide HL]; exact hk)
  rw [unhide HL] at hn
  rw [unhide HOV]
  exact ⟨some ⟨g, 0, none⟩, jobs.length, by rw [List.length_take, unhide HL, Nat.min_eq_left hk]; rfl, hn⟩
set_option maxHeartbeats 2000000 in
set_option maxRecDepth 100000 in
theorem chk_any (b : Nat) (now : Int) (jobs : List Jb) (o : List Int) (A A' : Option Addr) (c c' : Nat) (w : World) (hz : jobs.length ≤ 1000) (hzo : o.length ≤ 1000) (h : JbsIn b w A jobs) (h' : NumsIn b w A' o) :
    Calls Try.prog 18 #[.int .i64 now, .slice A jobs.length c, .slice A' o.length c'] w fun e w' => e = .returned (.int .i64 (chkE now jobs o)) ∧ Below w.heap.size w w' := by
  have HVa := hide (valid_any b now jobs A c w (by omega) h)
  by_cases hv : valJ now jobs = 0
  case neg =>
    have HP := hide (chk_bad (o := o) hv)
    obtain ⟨v, hvv⟩ : ∃ v, valJ now jobs = v := ⟨_, rfl⟩
    rw [hvv] at HVa hv HP
    have HVa := hide (unhide HVa)
    have HP := hide (unhide HP)
    have q0 : (v != 0) = true := by rw [bne_iff_ne]; exact hv
    clear hvv hv h h'
    go_enter Try.func18, Try.ntmps18
    go_wp2_with (go_at_call 27; refine (unhide HVa).mono ?_; rintro e w1 ⟨rfl, hb1⟩; have HB1 := hide hb1; clear hb1)
    go_ret
    exact ⟨ret_int (unhide HP).symm, unhide HB1⟩
  have HVJ := hide (valJ_iff.1 hv)
  have HV := hide hv
  rw [hv] at HVa
  have HVa := hide (unhide HVa)
  have HJ := hide h
  have HN := hide h'
  clear hv h h'
  go_enter Try.func18, Try.ntmps18
  go_wp2_with fail
  refine (unhide HVa).mono ?_
  rintro e w1 ⟨rfl, hb1⟩
  have HJ1 := hide ((unhide HJ).keep hb1)
  have HN1 := hide ((unhide HN).keep hb1)
  have HIO := hide (isOrd_any b o jobs.length A' c' w1 hzo hz (unhide HN1))
  have HB1 := hide hb1
  clear hb1 HVa HJ HN
  cases hi : isOrd jobs.length o with
  | false =>
    rw [hi] at HIO
    have HIO := hide (unhide HIO)
    have HP := hide (chk_order (unhide HV) hi)
    clear hi
    go_wp2_with (go_at_call 32; refine (unhide HIO).mono ?_; rintro e w2 ⟨rfl, hb2⟩; have HB2 := hide (onward (unhide HB1) hb2); clear hb2)
    go_ret
    exact ⟨ret_int (unhide HP).symm, unhide HB2⟩
  | true =>
    rw [hi] at HIO
    have HIO := hide (unhide HIO)
    have HOK := hide (isOrd_ok hi)
    have HI := hide hi
    clear hi
    go_wp2_with fail
    refine (unhide HIO).mono ?_
    rintro e w2 ⟨rfl, hb2⟩
    have HB2 := hide (onward (unhide HB1) hb2)
    have HFL := hide (firstLate_any b now jobs o A A' c c' w2 (unhide HVJ) (unhide HOK).2 (by rw [(unhide HOK).1]; exact (unhide HVJ).len) ((unhide HJ1).keep hb2) ((unhide HN1).keep hb2))
    clear hb2 HIO
    by_cases hl : latI now jobs o = -1
    · have HP := hide (chk_ok (unhide HV) (unhide HI) hl)
      rw [hl] at HFL
      have HFL := hide (unhide HFL)
      clear hl
      go_wp2_with (go_at_call 29; refine (unhide HFL).mono ?_; rintro e w3 ⟨rfl, hb3⟩; have HB3 := hide (onward (unhide HB2) hb3); clear hb3)
      go_ret
      exact ⟨ret_int (unhide HP).symm, unhide HB3⟩
    · have HP := hide (chk_late (unhide HV) (unhide HI) hl)
      obtain ⟨v, hvv⟩ : ∃ v, latI now jobs o = v := ⟨_, rfl⟩
      rw [hvv] at HFL hl
      have HFL := hide (unhide HFL)
      have q0 : (v != -1) = true := by rw [bne_iff_ne]; exact hl
      clear hvv hl
      go_wp2_with (go_at_call 29; refine (unhide HFL).mono ?_; rintro e w3 ⟨rfl, hb3⟩; have HB3 := hide (onward (unhide HB2) hb3); clear hb3)
      go_ret
      exact ⟨ret_int (unhide HP).symm, unhide HB3⟩
set_option maxHeartbeats 2000000 in
set_option maxRecDepth 100000 in
theorem fin_any (b : Nat) (now : Int) (jobs : List Jb) (o : List Int) (A A' : Option Addr) (c c' : Nat) (w : World) (hz : jobs.length ≤ 1000) (hzo : o.length ≤ 1000) (h : JbsIn b w A jobs) (h' : NumsIn b w A' o) :
    Calls Try.prog 14 #[.int .i64 now, .slice A jobs.length c, .slice A' o.length c'] w (GivN w (finL now jobs o)) := by
  have HVa := hide (valid_any b now jobs A c w (by omega) h)
  by_cases hv : valJ now jobs = 0
  case neg =>
    have HP := hide (show finL now jobs o = [] from if_neg (fun h => hv h.1))
    obtain ⟨v, hvv⟩ : ∃ v, valJ now jobs = v := ⟨_, rfl⟩
    rw [hvv] at HVa hv
    have HVa := hide (unhide HVa)
    have q0 : (v != 0) = true := by rw [bne_iff_ne]; exact hv
    clear hvv hv h h'
    go_enter Try.func14, Try.ntmps14
    go_wp2_with (go_at_call 27; refine (unhide HVa).mono ?_; rintro e w1 ⟨rfl, hb1⟩; have HB1 := hide hb1; clear hb1)
    go_ret
    rw [unhide HP]
    exact ⟨none, 0, rfl, numsR_nil (unhide HB1)⟩
  have HVJ := hide (valJ_iff.1 hv)
  have HV := hide hv
  rw [hv] at HVa
  have HVa := hide (unhide HVa)
  have HJ := hide h
  have HN := hide h'
  clear hv h h'
  cases hi : isOrd jobs.length o with
  | false =>
    have HP := hide (show finL now jobs o = [] from if_neg (fun h => by rw [hi] at h; cases h.2))
    have HIO := hide (fun W (hN : NumsIn b W A' o) => isOrd_any b o jobs.length A' c' W hzo hz hN)
    rw [hi] at HIO
    have HIO := hide (unhide HIO)
    clear hi
    go_enter Try.func14, Try.ntmps14
    go_wp2_with (first
      | (go_at_call 27; refine (unhide HVa).mono ?_; rintro e w1 ⟨rfl, hb1⟩; have HB1 := hide hb1; clear hb1)
      | (go_at_call 32; refine (unhide HIO _ ((unhide HN).keep (unhide HB1))).mono ?_; rintro e w2 ⟨rfl, hb2⟩; have HB2 := hide (onward (unhide HB1) hb2); clear hb2))
    go_ret
    rw [unhide HP]
    exact ⟨none, 0, rfl, numsR_nil (unhide HB2)⟩
  | true =>
    have HP := hide (show finL now jobs o = finJ now jobs o from if_pos ⟨unhide HV, hi⟩)
    have HIO := hide (fun W (hN : NumsIn b W A' o) => isOrd_any b o jobs.length A' c' W hzo hz hN)
    rw [hi] at HIO
    have HIO := hide (unhide HIO)
    have HOK := hide (isOrd_ok hi)
    have HFI := hide (fun W (hJ : JbsIn b W A jobs) (hN : NumsIn b W A' o) => finish_any b now jobs o A A' c c' W (unhide HVJ) (unhide HOK).2 (by rw [(unhide HOK).1]; exact (unhide HVJ).len) hJ hN)
    clear hi
    go_enter Try.func14, Try.ntmps14
    go_wp2_with (first
      | (go_at_call 27; refine (unhide HVa).mono ?_; rintro e w1 ⟨rfl, hb1⟩; have HB1 := hide hb1; clear hb1)
      | (go_at_call 32; refine (unhide HIO _ ((unhide HN).keep (unhide HB1))).mono ?_; rintro e w2 ⟨rfl, hb2⟩; have HB2 := hide (onward (unhide HB1) hb2); clear hb2)
      | (go_at_call 33; refine (unhide HFI _ ((unhide HJ).keep (unhide HB2)) ((unhide HN).keep (unhide HB2))).mono ?_; rintro e w3 ⟨g, rfl, hg, hr, hb3⟩; have HR3 := hide hr; have HG3 := hide (Nat.le_trans (unhide HB2).size hg); have HB3 := hide (onward (unhide HB2) hb3); clear hg hr hb3))
    go_ret
    rw [unhide HP]
    have hn := numsR_all (unhide HR3) (unhide HG3) (unhide HB3)
    exact ⟨some ⟨g, 0, none⟩, (finJ now jobs o).length, by rw [finJ_len]; rfl, hn⟩
end Go.Proofs.Ytjgjgilpebeelaa
