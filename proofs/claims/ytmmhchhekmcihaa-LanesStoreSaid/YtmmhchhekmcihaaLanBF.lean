/-
  Lanes (layer 17): slices.Grow of nothing, slices.Concat of lanes.
-/
import Derived.Test.YtmmhchhekmcihaaLanBE
import Derived.Lib.AppendZerosOnto
namespace Go.Proofs.Ytmmhchhekmcihaa
open Go.RowKit

/-- An empty row of the call's own. -/
def GrowTo (w : World) (e : Ending) (w' : World) : Prop := ∃ A c, e = .returned (.slice A 0 c) ∧ w'.ownsRow w.heap.size 39 2 (.slice A 0 c) 0 [] ∧ Below w.heap.size w w'
set_option maxHeartbeats 1000000 in
set_option maxRecDepth 100000 in
theorem grow_any (k : Nat) (w : World) (hk : k ≤ 1000) : Calls Try.prog 57 #[.slice none 0 0, .int .i64 k] w (GrowTo w) := by
  rcases Nat.eq_zero_or_pos k with h0 | h0
  · subst h0
    go_enter Try.func57, Try.ntmps57
    go_wp2
    go_ret
    exact ⟨none, 0, rfl, World.ownsRow_nil _ _ _ _, Below.refl _ _⟩
  · obtain ⟨i0, z0, hi0, hia, hib, hic, hid⟩ := info_size info_st
    obtain ⟨G, hG⟩ : ∃ G, G = grownCap w (0 + k) 0 39 := ⟨_, rfl⟩
    have hGn : 0 + k ≤ G := by rw [hG]; exact grownCap_ge w _ _ _
    have hGm : G ≤ maxLen := by rw [hG]; exact grownCap_le_maxLen w (0 + k) 0 39 (by unfold maxLen; omega)
    obtain ⟨Zs, hZs⟩ : ∃ Zs : Array Value, Zs = (([] : List Value).toArray ++ Builtin.zeroCells z0.cells k ++ Builtin.zeroCells z0.cells (G - (0 + k))) := ⟨_, rfl⟩
    have hZl : Zs.size = G * 2 := by
      rw [hZs, Array.size_append, Array.size_append, size_zeroCells, size_zeroCells, hid]
      have : G = k + (G - (0 + k)) := by omega
      rw [this, Nat.add_mul]; simp
    obtain ⟨W1, hW1⟩ : ∃ W1, w.drew.alloc (.cells Zs 39) = W1 := ⟨_, rfl⟩
    have hrz : ∀ ty, (Builtin.append_ #[68, 3] ty #[.slice none 0 0, .int .i64 (k : Int)]).run Try.prog w = .ok (.slice (some ⟨w.heap.size, 0, none⟩) k G) W1 := fun ty => by
      have h := Lib.run_append_grow_zeros w 68 3 ty 39 i0 z0 .i64 .i64 Try.underlying68 Try.underlying3 hi0 hia none 0 0 [] (by simp [Builtin.firstCells]) k h0 (by rw [hib]; omega) (by omega) (by omega) (by rw [hic]; omega) (by rw [hic]; exact growslice_fits (by omega) (by omega))
      rw [← hG, ← hZs, hW1, Nat.zero_add] at h
      exact h
    have HO := hide (show W1.ownsRow w.heap.size 39 2 (.slice (some ⟨w.heap.size, 0, none⟩) 0 G) 0 [] from by
      refine ⟨rfl, .inr ⟨w.heap.size, G, Zs, rfl, Nat.le_refl _, ?_, Nat.zero_le _, hGm, hZl, rfl⟩⟩
      rw [← hW1]; exact heap_alloc_new w.drew _)
    have HB := hide (show Below w.heap.size w W1 from by rw [← hW1]; exact below_new (Below.refl w.heap.size w).drew _)
    have g1 : (0 : Int) < (k : Int) := by omega
    have g2 : (k : Int) ≤ 1000 := by omega
    have g3 : k ≤ G := by omega
    have hGm' : G ≤ 9223372036854775807 := by unfold maxLen at hGm; exact hGm
    have HR := hide hrz
    clear hrz hi0 hia hib hic hid hG hGm hZl hZs hW1 hGn
    go_enter Try.func57, Try.ntmps57
    go_wp2_with (at_builtin; refine Lib.wpList_append_run _ rfl _ _ _ _ rfl _ _ rfl rfl _ _ (unhide HR _) ?_)
    go_ret
    exact ⟨_, _, rfl, unhide HO, unhide HB⟩
theorem bags_len {X : List (List Bg)} (h : ∀ l ∈ X, l.length ≤ 20) : ∀ k, ((X.take k).flatten).length ≤ k * 20
  | 0 => by simp
  | k + 1 => by
    rcases Nat.lt_or_ge k X.length with hk | hk
    · rw [List.take_succ_eq_append_getElem hk, List.flatten_append, List.length_append]
      have := bags_len h k
      have := h _ (List.getElem_mem hk)
      rw [show [X[k]].flatten = X[k] from by simp]; omega
    · have := bags_len h k
      rw [List.take_of_length_le (by omega)] at this ⊢
      omega
theorem flat_step {X : List (List Bg)} {k : Nat} (hk : k < X.length) : (X.take (k + 1)).flatten = (X.take k).flatten ++ X.getD k [] := by
  rw [List.take_succ_eq_append_getElem hk, List.flatten_append, ← getElem_getD hk]; simp
/-- What is joined is a row of the call's own. -/
def ConTo (X : List (List Bg)) (w : World) (e : Ending) (w' : World) : Prop := ∃ A c, e = .returned (.slice A X.flatten.length c) ∧ w'.ownsRow w.heap.size 39 2 (.slice A X.flatten.length c) X.flatten.length (X.flatten.flatMap bgC) ∧ Below w.heap.size w w'
set_option maxHeartbeats 2000000 in
set_option maxRecDepth 100000 in
theorem concat_any (S : Nat → Prop) (X : List (List Bg)) (A : Option Addr) (c : Nat) (w : World) (hn : X.length ≤ 10) (hX : ∀ l ∈ X, l.length ≤ 20) (h : LnsIn S w A X) :
    Calls Try.prog 45 #[.slice A X.length c] w (ConTo X w) := by
  obtain ⟨i0, z0, hi0, hia, hib, hic, hid⟩ := info_size info_st
  have KI := hide hi0
  have KA := hide hia
  have KB := hide hib
  have KC := hide hic
  have KD := hide hid
  have HL := hide h
  have HX := hide hX
  clear hi0 hia hib hic hid h hX
  go_enter Try.func45, Try.ntmps45
  go_wp2_with fail
  go_loop [3, 11] (fun s3 s11 => ∃ k : Nat, k ≤ X.length ∧ s11 = .int .i64 k ∧ s3 = .int .i64 ((X.take k).flatten.length : Nat)) (fun _ s => X.length - (intOf s).toNat)
  case atStart => exact ⟨0, Nat.zero_le _, rfl, rfl⟩
  case round =>
    obtain ⟨k, hk, rfl, rfl⟩ := hrel
    by_cases hlt : k < X.length
    · have kl : (k : Int) < (X.length : Int) := by omega
      have k0 : (0 : Int) ≤ (k : Int) := by omega
      obtain ⟨g, off, rfl, _, hc⟩ := (unhide HL) (by omega)
      obtain ⟨A', c', c0, _, _⟩ := hc k hlt
      have hb := bags_len (unhide HX) k
      have hl := (unhide HX) _ (mem_at hlt)
      have HS := hide (show (X.take (k + 1)).flatten.length = (X.take k).flatten.length + (X.getD k []).length from by rw [flat_step hlt, List.length_append])
      clear hc
      generalize X.getD k [] = l at c0 hl HS
      generalize (X.take k).flatten.length = m at hb HS ⊢
      have hm : m ≤ 200 := by omega
      have q0 : decide ((m : Int) + (l.length : Int) < 0) = false := by rw [decide_eq_false_iff_not]; omega
      go_wp2
      go_round
      case rel => exact ⟨k + 1, by omega, by go_num, by rw [unhide HS]; go_num⟩
      case measure => simp [intOf]; omega
    · have kl : ¬ (k : Int) < (X.length : Int) := by omega
      obtain rfl : k = X.length := by omega
      have hb := bags_len (unhide HX) X.length
      rw [List.take_of_length_le (Nat.le_refl _)] at hb ⊢
      generalize hN : X.flatten.length = N at *
      have HN := hide hN
      clear hN
      go_wp2_with fail
      refine (grow_any N _ (by omega)).mono ?_
      rintro e w1 ⟨A1, c1, rfl, ho1, hb1⟩
      have H1 := hide (show w1.ownsRow w.heap.size 39 2 (.slice A1 0 c1) 0 (((X.take 0).flatten).flatMap bgC) ∧ Below w.heap.size w w1 from ⟨by simpa using ho1, hb1⟩)
      clear ho1 hb1
      go_wp2_with fail
      go_loopw [6, 27] (fun s6 s27 wr => ∃ (k : Nat) (B : Option Addr) (cB : Nat), k ≤ X.length ∧ s27 = .int .i64 k ∧ s6 = .slice B (X.take k).flatten.length cB ∧ Hid (wr.ownsRow w.heap.size 39 2 (.slice B (X.take k).flatten.length cB) (X.take k).flatten.length (((X.take k).flatten).flatMap bgC) ∧ Below w.heap.size w wr)) (fun _ s _ => X.length - (intOf s).toNat)
      case atStart => exact ⟨0, A1, c1, Nat.zero_le _, rfl, rfl, H1⟩
      case round =>
        obtain ⟨k, B, cB, hk, rfl, rfl, HI⟩ := hrel
        obtain ⟨wo, rfl⟩ : ∃ wo : World, wo = wr := ⟨_, rfl⟩
        clear H1
        by_cases hlt : k < X.length
        · have kl : (k : Int) < (X.length : Int) := by omega
          have k0 : (0 : Int) ≤ (k : Int) := by omega
          obtain ⟨g, off, rfl, _, hc⟩ := ((unhide HL).keep (KepS.below (unhide HI).2)) (by omega)
          obtain ⟨A', c', c0, _, hbg⟩ := hc k hlt
          have hb := bags_len (unhide HX) k
          have hl := (unhide HX) _ (mem_at hlt)
          have HS := hide (flat_step hlt)
          have HSr := hide (fun (hp : 0 < (X.getD k []).length) => show ∃ g off, A' = some ⟨g, off, none⟩ ∧ ∀ j u, ((X.getD k []).flatMap bgC)[j]? = some u → wo.cell? ⟨g, off + j, none⟩ = some u from by
            obtain ⟨g, off, e, _, hc⟩ := bgs_src hbg hp
            exact ⟨g, off, e, hc⟩)
          have HO := hide (unhide HI).1
          clear hc hbg
          generalize X.getD k [] = l at c0 hl HS HSr
          generalize (X.take k).flatten = y at hb HS HO ⊢
          have hm : y.length ≤ 200 := by omega
          have hB := (unhide HI).2.size
          go_wp2_with (at_builtin; refine wpList_append_any rfl _ _ 68 rfl w.heap.size 39 i0 z0 2 16 Try.underlying68 (unhide KI) (unhide KA) (unhide KB) (unhide KC) (unhide KD) (by decide) _ _ _ rfl (unhide HO) A' l.length c' (l.flatMap bgC) rfl (flatK_len bgC 2 bgC_len l) (unhide HSr) st_one (by unfold maxLen; omega) (by omega) hB ?_)
          intro v' w5 hown hgrow _
          obtain ⟨B5, c5, rfl⟩ := own_form hown
          have H5 := hide (show w5.ownsRow w.heap.size 39 2 (.slice B5 (X.take (k + 1)).flatten.length c5) (X.take (k + 1)).flatten.length (((X.take (k + 1)).flatten).flatMap bgC) ∧ Below w.heap.size w w5 from by
            rw [unhide HS, List.length_append, List.flatMap_append]
            exact ⟨hown, (unhide HI).2.grown hgrow (unhide HI).2.size (fun j e => ((unhide HO).lt j e).1)⟩)
          clear hown hgrow hB
          go_wp2
          go_roundw
          case rel => exact ⟨k + 1, B5, c5, by omega, by go_num, by rw [unhide HS, List.length_append], H5⟩
          case measure => simp [intOf]; omega
        · have kl : ¬ (k : Int) < (X.length : Int) := by omega
          obtain rfl : k = X.length := by omega
          have HI2 := hide (show wo.ownsRow w.heap.size 39 2 (.slice B X.flatten.length cB) X.flatten.length (X.flatten.flatMap bgC) ∧ Below w.heap.size w wo from by have := unhide HI; rwa [List.take_of_length_le (Nat.le_refl _)] at this)
          rw [List.take_of_length_le (Nat.le_refl _)]
          go_wp2
          go_ret
          exact ⟨B, cB, by rw [List.length_flatten]; rfl, (unhide HI2).1, (unhide HI2).2⟩
end Go.Proofs.Ytmmhchhekmcihaa
