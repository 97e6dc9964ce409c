/-
  Contracts of the checks of nodes.
-/
import Derived.Test.YtfddpdognelhmaaGreatDoorLayM

/- LayB: Contracts of package layout: what looks at one node by itself (within, validLength, exitsOf, isEntry, fitsZone, zoneBehind), slices.Index and slices.Contains at numbers, the search for a name. -/
namespace Go.Proofs.YtfddpdognelhmaaGreatDoor
open Go.RowKit

abbrev ndV (x : Nd) (A : Option Addr) (c : Nat) : Value := .agg #[.string x.name, .int .i64 x.kind, .int .i64 x.len, .int .i64 x.zone, .slice A x.exits.length c]
abbrev ndO (x : Nd) (A : Option Addr) (c : Nat) : Obj := .cells #[.string x.name, .int .i64 x.kind, .int .i64 x.len, .int .i64 x.zone, .slice A x.exits.length c] 45

theorem lwithin_any (n lo hi : Int) (w : World) :
    Calls Tryz.prog 57 #[.int .i64 n, .int .i64 lo, .int .i64 hi] w fun e w' => e = .returned (.bool (wIn n lo hi)) ∧ w = w' := by
  go_enter Tryz.func57, Tryz.ntmps57
  go_wp2
  all_goals (go_ret; refine ⟨ret_bool ?_, rfl⟩; unfold wIn; rw [Bool.eq_iff_iff]; simp; omega)

theorem exitsOf_any (k : Int) (w : World) :
    Calls Tryz.prog 93 #[.int .i64 k] w fun e w' => e = .returned (.int .i64 (exN k : Nat)) ∧ w = w' := by
  go_enter Tryz.func93, Tryz.ntmps93
  go_wp2
  all_goals (go_ret; refine ⟨ret_int ?_, rfl⟩; unfold exN; simp_all)

/-- A node is a bin. -/
def binB (x : Nd) : Bool := decide (x.kind = 7 ∨ x.kind = 8 ∨ x.kind = 9)
theorem isBin_any (x : Nd) (A : Option Addr) (c : Nat) (w : World) :
    Calls Tryz.prog 92 #[ndV x A c] w fun e w' => e = .returned (.bool (binB x)) ∧ Below w.heap.size w w' := by
  have B1 := hide ((Below.refl w.heap.size w).alloc (Nat.le_refl _) (ndO x A c))
  obtain ⟨nm, k, l, z, ex⟩ := x
  go_enter Tryz.func92, Tryz.ntmps92
  go_wp2
  all_goals (go_ret; refine ⟨ret_bool ?_, unhide B1⟩; unfold binB; simp_all; try rfl)

theorem validLength_any (x : Nd) (A : Option Addr) (c : Nat) (w : World) :
    Calls Tryz.prog 77 #[ndV x A c] w fun e w' => e = .returned (.bool (lenOk x)) ∧ Below w.heap.size w w' := by
  have b1 := (Below.refl w.heap.size w).alloc (Nat.le_refl _) (ndO x A c)
  have B1 := hide b1
  have HBx := hide (show ∀ W, Below (w.alloc (ndO x A c)).heap.size (w.alloc (ndO x A c)) W → W.heap[w.heap.size]? = some (ndO x A c) from fun W hb => by
    have h0 := heap_alloc_new w (ndO x A c)
    exact (hb.block _ (Array.getElem?_eq_some_iff.1 h0).1).trans h0)
  have HC := hide (isBin_any x A c (w.alloc (ndO x A c)))
  have HU := hide (show lenOk x = if binB x = true then decide (x.len = 0) else if x.kind = 5 then wIn x.len 2 8 else wIn x.len 1 8 by
    unfold lenOk binB
    by_cases h : x.kind = 7 ∨ x.kind = 8 ∨ x.kind = 9
    · rw [if_pos h, decide_eq_true h, if_pos rfl]
    · rw [if_neg h, decide_eq_false h, if_neg Bool.false_ne_true])
  clear b1
  go_enter Tryz.func77, Tryz.ntmps77
  go_wp2_with fail
  refine (unhide HC).mono ?_
  rintro e w1 ⟨rfl, hb1⟩
  have hx := unhide HBx _ hb1
  have l1 : w1.cell? ⟨w.heap.size, 1, none⟩ = some (.int .i64 x.kind) := by rw [Lib.cell_of_heap hx]; rfl
  have l2 : w1.cell? ⟨w.heap.size, 2, none⟩ = some (.int .i64 x.len) := by rw [Lib.cell_of_heap hx]; rfl
  have HB1 := hide (onward (unhide B1) (hb1.mono (by first | exact Nat.le_refl _ | exact Nat.le_refl _)))
  clear hb1 hx
  cases hbin : binB x
  all_goals
    rw [hbin] at HU
    go_wp2_with (go_at_call 57; refine (lwithin_any _ _ _ _).mono ?_; rintro e w1 ⟨rfl, rfl⟩)
  all_goals (go_ret; refine ⟨ret_bool ?_, unhide HB1⟩; rw [unhide HU]; simp_all; try rfl)

theorem isEntry_any (x : Nd) (A : Option Addr) (c : Nat) (w : World) :
    Calls Tryz.prog 36 #[ndV x A c] w fun e w' => e = .returned (.bool (isEn x)) ∧ Below w.heap.size w w' := by
  have B1 := hide ((Below.refl w.heap.size w).alloc (Nat.le_refl _) (ndO x A c))
  go_enter Tryz.func36, Tryz.ntmps36
  go_wp2
  all_goals (go_ret; refine ⟨ret_bool ?_, unhide B1⟩; rfl)

theorem fitsZone_any (x : Nd) (A : Option Addr) (c : Nat) (w : World) :
    Calls Tryz.prog 79 #[ndV x A c] w fun e w' => e = .returned (.bool (fitZ x)) ∧ Below w.heap.size w w' := by
  have B1 := hide ((Below.refl w.heap.size w).alloc (Nat.le_refl _) (ndO x A c))
  obtain ⟨nm, k, l, z, ex⟩ := x
  go_enter Tryz.func79, Tryz.ntmps79
  go_wp2
  all_goals (go_ret; refine ⟨ret_bool ?_, unhide B1⟩; unfold fitZ; simp_all; try rfl)

theorem zoneBehind_any (x : Nd) (A : Option Addr) (c : Nat) (t : Int) (w : World) :
    Calls Tryz.prog 80 #[ndV x A c, .int .i64 t] w fun e w' => e = .returned (.int .i64 (zBeh x t)) ∧ Below w.heap.size w w' := by
  have B1 := hide ((Below.refl w.heap.size w).alloc (Nat.le_refl _) (ndO x A c))
  obtain ⟨nm, k, l, z, ex⟩ := x
  go_enter Tryz.func80, Tryz.ntmps80
  go_wp2
  all_goals (go_ret; refine ⟨ret_int ?_, (by first | exact unhide B1 | exact (Below.refl _ _).alloc (Nat.le_refl _) _)⟩; unfold zBeh; simp_all)

/-- The first place of a number, or -1. -/
def idxI (l : List Int) (v : Int) : Int := if l.contains v then (l.idxOf v : Int) else -1
theorem idxI_hit {l : List Int} {v : Int} {k : Nat} (hk : k < l.length) (h : ∀ i, i < k → l.getD i 0 ≠ v) (h1 : l.getD k 0 = v) : idxI l v = k := by
  have e : l.idxOf v = k := by
    unfold List.idxOf
    rw [List.findIdx_eq hk]
    refine ⟨?_, fun j hj => ?_⟩
    · rw [at_k hk] at h1; simpa using h1
    · have := h j hj
      rw [at_k (by omega)] at this
      simpa using this
  have hc : l.contains v = true := by
    rw [List.contains_iff_mem, ← h1, at_k hk]; exact List.getElem_mem _
  unfold idxI
  rw [hc, e]; rfl
theorem idxI_no {l : List Int} {v : Int} (h : ∀ i, i < l.length → l.getD i 0 ≠ v) : idxI l v = -1 := by
  have hc : l.contains v = false := by
    cases hb : l.contains v with
    | false => rfl
    | true =>
      obtain ⟨i, hi, e⟩ := List.getElem_of_mem (List.contains_iff_mem.1 hb)
      have := h i hi
      rw [at_k hi] at this
      exact absurd e this
  unfold idxI
  rw [hc]; rfl
theorem idxI_pos (l : List Int) (v : Int) : decide (0 ≤ idxI l v) = l.contains v := by
  unfold idxI
  cases l.contains v
  · rfl
  · exact decide_eq_true (Int.natCast_nonneg _)

set_option maxHeartbeats 1000000 in
theorem idxs_any (b : Nat) (l : List Int) (v : Int) (A : Option Addr) (c : Nat) (w : World) (hz : l.length ≤ 1000000000) (h : NumsIn b w A l) :
    Calls Tryz.prog 87 #[.slice A l.length c, .int .i64 v] w fun e w' => e = .returned (.int .i64 (idxI l v)) ∧ w = w' := by
  have HH := hide h
  clear h
  go_enter Tryz.func87, Tryz.ntmps87
  go_wp2
  go_loop [8] (fun i => ∃ k : Nat, k ≤ l.length ∧ i = .int .i64 k ∧ Hid (∀ j, j < k → l.getD j 0 ≠ v)) (fun i => l.length - (intOf i).toNat)
  case atStart => exact ⟨0, Nat.zero_le _, rfl, Lib.hid fun j hj => absurd hj (Nat.not_lt_zero _)⟩
  case round =>
    obtain ⟨k, hk, rfl, hd⟩ := hrel
    by_cases hlt : k < l.length
    · obtain ⟨g, off, rfl, _, hc⟩ := (unhide HH) (by omega)
      have c0 := hc k hlt
      clear hc
      have HP := hide fun (h : l.getD k 0 ≠ v) => (show ∀ j, j < k + 1 → l.getD j 0 ≠ v from fun j hj => by
        by_cases e : j = k
        · rw [e]; exact h
        · exact hd.out j (by omega))
      have HN := hide fun (h : l.getD k 0 = v) => idxI_hit hlt hd.out h
      generalize l.getD k 0 = y at *
      have kl : (k : Int) < (l.length : Int) := by omega
      have k0 : (0 : Int) ≤ (k : Int) := by omega
      cases hy : (v == y) with
      | true =>
        have HE := hide (show y = v by simpa using (eq_of_beq hy).symm)
        go_wp2
        go_ret
        exact ⟨ret_int (unhide HN (unhide HE)).symm, rfl⟩
      | false =>
        have HE := hide (show y ≠ v by intro e; rw [e] at hy; simp at hy)
        go_wp2
        go_round
        case rel => exact ⟨k + 1, by omega, by go_num, Lib.hid (unhide HP (unhide HE))⟩
        case measure => simp [intOf]; omega
    · have HE := hide (idxI_no (l := l) (v := v) fun j hj => hd.out j (by omega))
      have kl : ¬ (k : Int) < (l.length : Int) := by omega
      go_wp2
      go_ret
      exact ⟨ret_int (unhide HE).symm, rfl⟩

theorem conts_any (b : Nat) (l : List Int) (v : Int) (A : Option Addr) (c : Nat) (w : World) (hz : l.length ≤ 1000000000) (h : NumsIn b w A l) :
    Calls Tryz.prog 72 #[.slice A l.length c, .int .i64 v] w fun e w' => e = .returned (.bool (l.contains v)) ∧ w = w' := by
  have HP := hide (idxI_pos l v)
  go_enter Tryz.func72, Tryz.ntmps72
  go_wp2_with (go_at_call 87; refine (idxs_any b l v A c _ hz h).mono ?_; rintro e w1 ⟨rfl, rfl⟩)
  go_ret
  exact ⟨ret_bool (unhide HP), rfl⟩
end Go.Proofs.YtfddpdognelhmaaGreatDoor

/- LayC: Contracts of package layout: validExits, validateNode, windows, find, differ. -/
namespace Go.Proofs.YtfddpdognelhmaaGreatDoor
open Go.RowKit

theorem NumsIn.take {b : Nat} {w : World} {A : Option Addr} {l : List Int} (h : NumsIn b w A l) (k : Nat) : NumsIn b w A (l.take k) := fun hn => by
  have hl : (l.take k).length ≤ l.length := by rw [List.length_take]; omega
  obtain ⟨g, off, hA, hg, hc⟩ := h (by omega)
  refine ⟨g, off, hA, hg, fun i hi => ?_⟩
  have hk : i < k := by rw [List.length_take] at hi; omega
  have e : (l.take k).getD i 0 = l.getD i 0 := by
    rw [at_k hi, at_k (by omega), List.getElem_take]
  rw [e]
  exact hc i (by omega)
theorem conts_take (b : Nat) (l : List Int) (k : Nat) (hk : k ≤ l.length) (v : Int) (A : Option Addr) (c : Nat) (w : World) (hz : l.length ≤ 1000000000) (h : NumsIn b w A l) :
    Calls Tryz.prog 72 #[.slice A k c, .int .i64 v] w fun e w' => e = .returned (.bool ((l.take k).contains v)) ∧ w = w' := by
  have e : (l.take k).length = k := by rw [List.length_take]; omega
  have := conts_any b (l.take k) v A c w (by omega) (h.take k)
  rwa [e] at this

theorem exOk_len {N i : Nat} {x : Nd} (h : x.exits.length ≠ exN x.kind) : exOk N i x = false := by
  unfold exOk; rw [decide_eq_false h]; rfl
theorem exOk_no {N i : Nat} {x : Nd} {k : Nat} (hk : k < x.exits.length) (h : exOk1 N i x k = false) : exOk N i x = false := by
  unfold exOk
  rw [Bool.and_eq_false_iff]
  right
  rw [List.all_eq_false]
  exact ⟨k, by simpa using hk, by rw [h]; exact Bool.false_ne_true⟩
theorem exOk_yes {N i : Nat} {x : Nd} (h : x.exits.length = exN x.kind) (h1 : ∀ k, k < x.exits.length → exOk1 N i x k = true) : exOk N i x = true := by
  unfold exOk
  rw [decide_eq_true h, Bool.true_and, List.all_eq_true]
  intro k hk
  exact h1 k (by simpa using hk)
theorem own3 (x : Nd) (k : Nat) : ((x.kind == 5) = false ∧ ownB x k = false) ∨ ((x.kind == 5) = true ∧ ((k : Int) == 0) = true ∧ ownB x k = true) ∨ ((x.kind == 5) = true ∧ ((k : Int) == 0) = false ∧ ownB x k = false) := by
  unfold ownB
  by_cases h : x.kind = 5
  · by_cases h2 : k = 0
    · simp [h, h2]
    · have : ¬ ((k : Int) = 0) := by omega
      simp [h, h2]
  · simp [h]
theorem cast_ne {a c : Nat} (h : a ≠ c) : ((a : Int) != (c : Int)) = true := by rw [bne_iff_ne]; omega
theorem cast_eq {a c : Nat} (h : a = c) : ((a : Int) != (c : Int)) = false := by rw [bne_eq_false_iff_eq]; omega

set_option maxHeartbeats 2000000 in
theorem vexits_any (b : Nat) (l : List Nd) (i : Nat) (A : Option Addr) (c : Nat) (w : World) (hz : l.length ≤ 1000000) (hx : FewX l) (h : NdsIn b w A l) (hi : i < l.length) :
    Calls Tryz.prog 78 #[.slice A l.length c, .int .i64 (i : Int)] w fun e w' => e = .returned (.bool (exOk l.length i (l.getD i nd0))) ∧ Below w.heap.size w w' := by
  obtain ⟨g, off, rfl, _, hc⟩ := h (by omega)
  obtain ⟨c0, c1, c2, c3, B, d, c4, hld, hn⟩ := hc i hi
  have hex := hx.at hi
  clear hc h hx
  generalize l.getD i nd0 = x at *
  have b1 := (Below.refl w.heap.size w).alloc (Nat.le_refl _) (ndO x B d)
  have HN := hide (hn.keep b1)
  have B1 := hide b1
  clear b1 hn
  have il : (i : Int) < (l.length : Int) := by omega
  have i0 : (0 : Int) ≤ (i : Int) := by omega
  have hd0 := hide hld
  by_cases hl : x.exits.length = exN x.kind
  · have z0 := cast_eq hl
    have HL := hide hl
    clear hl
    go_enter Tryz.func78, Tryz.ntmps78
    go_wp2
    go_quiet ((go_at_call 93; exact Calls.quiet_of_same ((exitsOf_any _ _).mono fun e w' h => ⟨h.1, h.2.symm⟩)))
    go_wp2
    go_loop [23] (fun s => ∃ k : Nat, k ≤ x.exits.length ∧ s = .int .i64 k ∧ Hid (∀ j, j < k → exOk1 l.length i x j = true)) (fun s => x.exits.length - (intOf s).toNat)
    case atStart => exact ⟨0, Nat.zero_le _, rfl, Lib.hid fun j hj => absurd hj (Nat.not_lt_zero _)⟩
    case round =>
      obtain ⟨k, hk, rfl, hd⟩ := hrel
      by_cases hlt : k < x.exits.length
      · obtain ⟨g', off', rfl, _, hc'⟩ := (unhide HN) (by omega)
        have e0 := hc' k hlt
        clear hc'
        have HP := hide fun (h : exOk1 l.length i x k = true) => (show ∀ j, j < k + 1 → exOk1 l.length i x j = true from fun j hj => by
          by_cases e : j = k
          · rw [e]; exact h
          · exact hd.out j (by omega))
        have HQ := hide fun (h : exOk1 l.length i x k = false) => exOk_no hlt h
        have HU := hide (show exOk1 l.length i x k = (wIn (x.exits.getD k 0) 0 ((l.length : Int) - 1) && (((x.exits.getD k 0 == (i : Int)) == ownB x k) && !((x.exits.take k).contains (x.exits.getD k 0)))) from rfl)
        have HC := hide fun W => conts_take b x.exits k (by omega) (x.exits.getD k 0) (some ⟨g', off', none⟩) d W (by omega)
        have kl : (k : Int) < (x.exits.length : Int) := by omega
        have k0 : (0 : Int) ≤ (k : Int) := by omega
        have kd : (k : Int) ≤ (d : Int) := by have := unhide hd0; omega
        have NX := hide (show NumsIn b (w.alloc (ndO x (some ⟨g', off', none⟩) d)) (some ⟨g', off', none⟩) x.exits from fun hn => (unhide HN) hn)
        generalize exOk1 l.length i x k = r at *
        generalize hcb : (x.exits.take k).contains (x.exits.getD k 0) = cb at *
        clear hcb
        generalize x.exits.getD k 0 = y at *
        rcases own3 x k with ⟨h5, hob⟩ | ⟨h5, hk0, hob⟩ | ⟨h5, hk0, hob⟩
        all_goals
          rw [hob] at HU
          clear hob
          cases hw : wIn y 0 ((l.length : Int) - 1) <;> cases hy : (y == (i : Int)) <;> cases cb
        all_goals
          rw [hw, hy] at HU
          have HR := hide (unhide HU)
          clear HU
          go_wp2_with (first
            | (go_at_call 57; refine (lwithin_any _ _ _ _).mono ?_; rw [hw]; rintro e w1 ⟨rfl, rfl⟩)
            | (go_at_call 72; refine ((unhide HC) _ (by with_reducible exact NumsIn.keep (unhide NX) (draws (Below.refl _ _) _))).mono ?_; rintro e w1 ⟨rfl, rfl⟩))
          first
            | (go_ret; exact ⟨ret_bool (unhide HQ (by rw [unhide HR]; rfl)).symm, draws (unhide B1) _⟩)
            | (go_round
               case rel => exact ⟨k + 1, by omega, by go_num, Lib.hid (unhide HP (by rw [unhide HR]; rfl))⟩
               case measure => simp [intOf]; omega)
      · have HE := hide (exOk_yes (N := l.length) (i := i) (unhide HL) fun j hj => hd.out j (by omega))
        have kl : ¬ (k : Int) < (x.exits.length : Int) := by omega
        go_wp2
        go_ret
        exact ⟨ret_bool (unhide HE).symm, draws (unhide B1) _⟩
  · have z0 := cast_ne hl
    have HE := hide (exOk_len (N := l.length) (i := i) hl)
    clear hl
    go_enter Tryz.func78, Tryz.ntmps78
    go_wp2
    go_quiet ((go_at_call 93; exact Calls.quiet_of_same ((exitsOf_any _ _).mono fun e w' h => ⟨h.1, h.2.symm⟩)))
    go_wp2
    go_ret
    exact ⟨ret_bool (unhide HE).symm, draws (unhide B1) _⟩
end Go.Proofs.YtfddpdognelhmaaGreatDoor

/- LayD: Contracts of package layout: validateNode, windows, find, differ, and the search for an Entry. -/
namespace Go.Proofs.YtfddpdognelhmaaGreatDoor
open Go.RowKit

theorem ndE_3 {N i : Nat} {x : Nd} (h : nameB x.name = false) : ndE N i x = 3 := by unfold ndE; rw [h]; rfl
theorem ndE_4 {N i : Nat} {x : Nd} (h : nameB x.name = true) (h1 : wIn x.kind 1 9 = false) : ndE N i x = 4 := by unfold ndE; rw [h, h1]; rfl
theorem ndE_x {N i : Nat} {x : Nd} (h : nameB x.name = true) (h1 : wIn x.kind 1 9 = true) {a b c : Bool} (h2 : lenOk x = a) (h3 : wIn x.zone 0 1 = b) (h4 : exOk N i x = c) : ndE N i x = if a && (b && c) then 0 else 1 := by unfold ndE; rw [h, h1, h2, h3, h4]; rfl

set_option maxHeartbeats 2000000 in
theorem lnode_any (b : Nat) (l : List Nd) (i : Nat) (A : Option Addr) (c : Nat) (w : World) (hz : l.length ≤ 1000000) (hx : FewX l) (h : NdsIn b w A l) (hi : i < l.length) :
    Calls Tryz.prog 54 #[.slice A l.length c, .int .i64 (i : Int)] w fun e w' => e = .returned (.int .i64 (ndE l.length i (l.getD i nd0))) ∧ Below w.heap.size w w' := by
  have HI := hide h
  obtain ⟨g, off, rfl, _, hc⟩ := h (by omega)
  obtain ⟨c0, c1, c2, c3, B, d, c4, hld, hn⟩ := hc i hi
  clear hc hn hld
  have b1 := (Below.refl w.heap.size w).alloc (Nat.le_refl _) (ndO (l.getD i nd0) B d)
  have HV := hide fun W (hb : Below w.heap.size w W) => vexits_any b l i (some ⟨g, off, none⟩) c W hz hx (NdsIn.keep (unhide HI) hb) hi
  have H3 := hide (@ndE_3 l.length i (l.getD i nd0))
  have H4 := hide (@ndE_4 l.length i (l.getD i nd0))
  have HX := hide (@ndE_x l.length i (l.getD i nd0))
  generalize exOk l.length i (l.getD i nd0) = xb at *
  generalize ndE l.length i (l.getD i nd0) = r at *
  generalize l.getD i nd0 = x at *
  have il : (i : Int) < (l.length : Int) := by omega
  have i0 : (0 : Int) ≤ (i : Int) := by omega
  have B1 := hide b1
  clear b1 hx
  cases hnm : nameB x.name with
  | false =>
    have HR := hide (unhide H3 hnm)
    go_enter Tryz.func54, Tryz.ntmps54
    go_wp2_with (first | (go_at_call 76; refine (name_any _ _).mono ?_; rw [hnm]; rintro e w1 ⟨rfl, rfl⟩))
    go_ret
    exact ⟨ret_int (unhide HR).symm, unhide B1⟩
  | true =>
    cases hkd : wIn x.kind 1 9 with
    | false =>
      have HR := hide (unhide H4 hnm hkd)
      go_enter Tryz.func54, Tryz.ntmps54
      go_wp2_with (first
        | (go_at_call 76; refine (name_any _ _).mono ?_; rw [hnm]; rintro e w1 ⟨rfl, rfl⟩)
        | (go_at_call 57; refine (lwithin_any _ _ _ _).mono ?_; rw [hkd]; rintro e w1 ⟨rfl, rfl⟩))
      go_ret
      exact ⟨ret_int (unhide HR).symm, unhide B1⟩
    | true =>
      cases hle : lenOk x <;> cases hzo : wIn x.zone 0 1 <;> cases xb
      all_goals
        have HR := hide (unhide HX hnm hkd hle hzo rfl)
        go_enter Tryz.func54, Tryz.ntmps54
        go_wp2_with (first
          | (go_at_call 76; refine (name_any _ _).mono ?_; rw [hnm]; rintro e w1 ⟨rfl, rfl⟩)
          | (go_at_call 57; refine (lwithin_any _ _ _ _).mono ?_; (first | rw [hkd] | rw [hzo]); rintro e w1 ⟨rfl, rfl⟩))
        refine (validLength_any _ _ _ _).mono ?_
        rw [hle]
        rintro e w1 ⟨rfl, hb1⟩
        have HB1 := hide ((unhide B1).trans (hb1.mono (unhide B1).size))
        have d3 : w1.cell? ⟨w.heap.size, 3, none⟩ = some (.int .i64 x.zone) := kept hb1 (by rw [Lib.cell_of_heap (heap_alloc_new w _)]; rfl)
        clear hb1
        go_wp2_with (first
          | (go_at_call 57; refine (lwithin_any _ _ _ _).mono ?_; rw [hzo]; rintro e w2 ⟨rfl, rfl⟩)
          | (go_at_call 78; refine (unhide HV _ (unhide HB1)).mono ?_; rintro e w2 ⟨rfl, hb2⟩; have HB2 := hide (onward (unhide HB1) hb2); clear hb2))
        go_ret
        exact ⟨ret_int (unhide HR).symm, by first | exact unhide HB2 | exact unhide HB1⟩

set_option maxHeartbeats 2000000 in
theorem lwindows_any (b : Nat) (l : List Nd) (A : Option Addr) (c : Nat) (w : World) (hz : l.length ≤ 1000000) (hl : ∀ k, k < l.length → 0 ≤ (l.getD k nd0).len ∧ (l.getD k nd0).len ≤ 8) (h : NdsIn b w A l) :
    Calls Tryz.prog 43 #[.slice A l.length c] w fun e w' => e = .returned (.int .i64 (winN l)) ∧ Below w.heap.size w w' := by
  have HI := hide h
  have HL := hide hl
  clear h hl
  go_enter Tryz.func43, Tryz.ntmps43
  go_wp2
  go_loopw [3, 8] (fun s i wr => ∃ k : Nat, k ≤ l.length ∧ i = .int .i64 k ∧ s = .int .i64 (winN (l.take k)) ∧ Hid (Below w.heap.size w wr)) (fun _ i _ => l.length - (intOf i).toNat)
  case atStart => exact ⟨0, Nat.zero_le _, rfl, rfl, Lib.hid (Below.refl _ _)⟩
  case round =>
    obtain ⟨k, hk, rfl, rfl, hb⟩ := hrel
    obtain ⟨wo, rfl⟩ : ∃ wo : World, wo = wr := ⟨_, rfl⟩
    by_cases hlt : k < l.length
    · obtain ⟨g, off, rfl, _, hc⟩ := ((unhide HI).keep hb.out) (by omega)
      obtain ⟨c0, c1, c2, c3, B, d, c4, -, -⟩ := hc k hlt
      clear hc
      have hs := winN_le (unhide HL) k hk
      have hy := unhide HL k hlt
      have HS := hide (winN_step hlt)
      have b1 := (Below.refl wo.heap.size wo).alloc (Nat.le_refl _) (ndO (l.getD k nd0) B d)
      have HB := hide (onward hb.out b1)
      clear b1
      generalize l.getD k nd0 = x at *
      generalize hsum : winN (l.take k) = sm at *
      clear hsum
      have kl : (k : Int) < (l.length : Int) := by omega
      have k0 : (0 : Int) ≤ (k : Int) := by omega
      go_wp2
      go_roundw
      case rel => exact ⟨k + 1, by omega, by go_num, by rw [unhide HS], Lib.hid (unhide HB)⟩
      case measure => simp [intOf]; omega
    · have HE := hide (show winN (l.take k) = winN l by rw [List.take_of_length_le (by omega)])
      have kl : ¬ (k : Int) < (l.length : Int) := by omega
      go_wp2
      go_ret
      exact ⟨ret_int (unhide HE), hb.out⟩

theorem lfind1_any (x : Nd) (A : Option Addr) (c q : Nat) (s : ByteArray) (w : World) (hq : w.cell? ⟨q, 0, none⟩ = some (.string s)) :
    Calls Tryz.prog 66 #[ndV x A c, .pointer (some ⟨q, 0, none⟩)] w fun e w' => e = .returned (.bool (decide (x.name = s))) ∧ Below w.heap.size w w' := by
  have B1 := hide ((Below.refl w.heap.size w).alloc (Nat.le_refl _) (ndO x A c))
  have c1 := kept (unhide B1) hq
  clear hq
  go_enter Tryz.func66, Tryz.ntmps66
  go_wp2
  all_goals (go_ret; refine ⟨ret_bool ?_, unhide B1⟩; exact toList_eq)

theorem findI_step {l : List Nd} {s : ByteArray} {k : Nat} (hd : ∀ j, j < k → (l.getD j nd0).name ≠ s) (h : (l.getD k nd0).name ≠ s) : ∀ j, j < k + 1 → (l.getD j nd0).name ≠ s := fun j hj => by
  by_cases e : j = k
  · rw [e]; exact h
  · exact hd j (by omega)
set_option maxHeartbeats 2000000 in
theorem lindexf_any (b : Nat) (l : List Nd) (s : ByteArray) (A : Option Addr) (c q : Nat) (w : World) (hz : l.length ≤ 1000000) (h : NdsIn b w A l) (hq : w.cell? ⟨q, 0, none⟩ = some (.string s)) :
    Calls Tryz.prog 60 #[.slice A l.length c, .func (.func 66) #[] #[.pointer (some ⟨q, 0, none⟩)]] w fun e w' => e = .returned (.int .i64 (findI l s)) ∧ Below w.heap.size w w' := by
  have HI := hide h
  have HQ := hide hq
  clear h hq
  go_enter Tryz.func60, Tryz.ntmps60
  go_wp2
  go_loopw [8] (fun i wr => ∃ k : Nat, k ≤ l.length ∧ i = .int .i64 k ∧ Hid (Below w.heap.size w wr) ∧ Hid (∀ j, j < k → (l.getD j nd0).name ≠ s)) (fun i _ => l.length - (intOf i).toNat)
  case atStart => exact ⟨0, Nat.zero_le _, rfl, Lib.hid (Below.refl _ _), Lib.hid fun j hj => absurd hj (Nat.not_lt_zero _)⟩
  case round =>
    obtain ⟨k, hk, rfl, hb, hd⟩ := hrel
    obtain ⟨wo, rfl⟩ : ∃ wo : World, wo = wr := ⟨_, rfl⟩
    by_cases hlt : k < l.length
    · obtain ⟨g, off, rfl, _, hc⟩ := ((unhide HI).keep hb.out) (by omega)
      obtain ⟨c0, c1, c2, c3, B, d, c4, -, -⟩ := hc k hlt
      clear hc
      have HQ1 := hide (kept hb.out (unhide HQ))
      have HP := hide fun h => findI_step hd.out h
      have HN := hide fun (h : (l.getD k nd0).name = s) => findI_hit hlt hd.out h
      generalize l.getD k nd0 = x at *
      have kl : (k : Int) < (l.length : Int) := by omega
      have k0 : (0 : Int) ≤ (k : Int) := by omega
      by_cases hxs : x.name = s
      · have HD := hide (decide_eq_true hxs)
        have HX := hide hxs
        clear hxs
        go_wp2_with (first | (go_at_call 66; refine (lfind1_any x B d q s _ (unhide HQ1)).mono ?_; rw [unhide HD]; rintro e w1 ⟨rfl, hb1⟩; have HB1 := hide (onward hb.out hb1); clear hb1))
        go_ret
        exact ⟨ret_int (unhide HN (unhide HX)).symm, unhide HB1⟩
      · have HD := hide (decide_eq_false hxs)
        have HX := hide hxs
        clear hxs
        go_wp2_with (first | (go_at_call 66; refine (lfind1_any x B d q s _ (unhide HQ1)).mono ?_; rw [unhide HD]; rintro e w1 ⟨rfl, hb1⟩; have HB1 := hide (onward hb.out hb1); clear hb1))
        go_roundw
        case rel => exact ⟨k + 1, by omega, by go_num, Lib.hid (unhide HB1), Lib.hid (unhide HP (unhide HX))⟩
        case measure => simp [intOf]; omega
    · have HE := hide (findI_no (l := l) (s := s) fun j hj => hd.out j (by omega))
      have kl : ¬ (k : Int) < (l.length : Int) := by omega
      go_wp2
      go_ret
      exact ⟨ret_int (unhide HE).symm, hb.out⟩

theorem lfind_any (b : Nat) (l : List Nd) (s : ByteArray) (A : Option Addr) (c : Nat) (w : World) (hz : l.length ≤ 1000000) (h : NdsIn b w A l) :
    Calls Tryz.prog 44 #[.slice A l.length c, .string s] w fun e w' => e = .returned (.int .i64 (findI l s)) ∧ Below w.heap.size w w' := by
  have b1 := (Below.refl w.heap.size w).alloc (Nat.le_refl _) (.cells #[.string s] 9)
  have HI := hide (h.keep b1)
  have B1 := hide b1
  have HQ := hide (show (w.alloc (.cells #[.string s] 9)).cell? ⟨w.heap.size, 0, none⟩ = some (.string s) by rw [Lib.cell_of_heap (heap_alloc_new w _)]; rfl)
  clear h b1
  go_enter Tryz.func44, Tryz.ntmps44
  go_wp2_with (first | (go_at_call 60; refine (lindexf_any b l s A c _ _ hz (unhide HI) (unhide HQ)).mono ?_; rintro e w1 ⟨rfl, hb1⟩; have HB1 := hide ((unhide B1).trans (hb1.mono (unhide B1).size)); clear hb1))
  go_ret
  exact ⟨rfl, unhide HB1⟩
end Go.Proofs.YtfddpdognelhmaaGreatDoor
