/-
  Crane (layer 18): the library's stable sort in place: what is kept of the world, the exchange of two parts, the rotation.
-/
import Derived.Test.YtjgjgilpebeelaaCraN
import Derived.Test.YtjgjgilpebeelaaRowB
import Derived.Test.YtjgjgilpebeelaaShelf
import Derived.Shelf.RegionOpenPlain
import Derived.OrdersHeld
namespace Go.Proofs.Ytjgjgilpebeelaa
open Go.RowKit

/-- A row of N numbers below N, in block g, while it is sorted; all other blocks are as they were. -/
structure SrW (w0 : World) (g N : Nat) (l : List Int) (w : World) : Prop where
  row : RowB w g l
  grown : w0.grownBy w (some g)
  len : l.length = N
  bnd : ∀ x ∈ l, 0 ≤ x ∧ x < (N : Int)
section
variable {w0 w w' : World} {g N : Nat} {l : List Int}
theorem SrW.below (h : SrW w0 g N l w) (hb : Below w.heap.size w w') : SrW w0 g N l w' :=
  ⟨h.row.keep hb, h.grown.trans ⟨hb.os, hb.tape, hb.output, hb.size, fun k hk _ => hb.block k hk⟩, h.len, h.bnd⟩
theorem SrW.cell (h : SrW w0 g N l w) {k : Nat} (hk : k < N) : w.cell? ⟨g, k, none⟩ = some (.int .i64 (l.getD k 0)) := h.row.cell (by rw [h.len]; exact hk)
theorem SrW.at (h : SrW w0 g N l w) {k : Nat} (hk : k < N) : 0 ≤ l.getD k 0 ∧ l.getD k 0 < (N : Int) := h.bnd _ (by rw [at_k (by rw [h.len]; exact hk)]; exact List.getElem_mem _)
theorem SrW.frozen (h : SrW w0 g N l w) (k : Nat) : w.frozen? ⟨g, k, none⟩ = false := h.row.frozen k
theorem SrW.swp (h : SrW w0 g N l w) {i j : Nat} (hi : i < N) (hj : j < N) : SrW w0 g N (swp l i j) ((w.setCell ⟨g, i, none⟩ (.int .i64 (l.getD j 0))).setCell ⟨g, j, none⟩ (.int .i64 (l.getD i 0))).drew := by
  have b := Below.refl ((w.setCell ⟨g, i, none⟩ (.int .i64 (l.getD j 0))).setCell ⟨g, j, none⟩ (.int .i64 (l.getD i 0))).heap.size ((w.setCell ⟨g, i, none⟩ (.int .i64 (l.getD j 0))).setCell ⟨g, j, none⟩ (.int .i64 (l.getD i 0)))
  refine SrW.below ⟨(h.row.put i _).put j _, (h.grown.trans (grown_set _ _ _ _)).trans (grown_set _ _ _ _), by rw [swp_len]; exact h.len, fun x hx => ?_⟩ b.drew
  rcases List.mem_or_eq_of_mem_set hx with hx | rfl
  · rcases List.mem_or_eq_of_mem_set hx with hx | rfl
    · exact h.bnd x hx
    · exact h.at hj
  · exact h.at hi
/-- What an exchange of two places meets. -/
structure SwF (w : World) (g i j : Nat) (x y : Int) : Prop where
  ci : w.cell? ⟨g, i, none⟩ = some (.int .i64 x)
  cj : w.cell? ⟨g, j, none⟩ = some (.int .i64 y)
  fi : w.frozen? ⟨g, i, none⟩ = false
  fj : w.frozen? ⟨g, j, none⟩ = false
  dj : ∃ u, (w.setCell ⟨g, i, none⟩ (.int .i64 y)).cell? ⟨g, j, none⟩ = some u
theorem SrW.swf (h : SrW w0 g N l w) {i j : Nat} (hi : i < N) (hj : j < N) : SwF w g i j (l.getD i 0) (l.getD j 0) :=
  ⟨h.cell hi, h.cell hj, h.frozen i, h.frozen j, ⟨_, (h.row.put i (l.getD j 0)).cell (by rw [List.length_set, h.len]; exact hj)⟩⟩
end
set_option maxHeartbeats 1000000 in
set_option maxRecDepth 100000 in
theorem swr_any (w0 : World) (g N a b s t n : Nat) (l : List Int) (C : Value) (w : World) (hN : N ≤ 1000000) (h : SrW w0 g N l w) (has : a ≤ s) (hst : s + n ≤ t) (htb : t + n ≤ b) (hbN : b ≤ N) :
    Calls Try.prog 49 #[.slice (some ⟨g, 0, none⟩) N N, .int .i64 s, .int .i64 t, .int .i64 n, C] w fun e w' => e = .returned (.tuple #[]) ∧ ∃ l', SrW w0 g N l' w' ∧ Mov a b l l' ∧ ∀ k, l'.getD k 0 = l.getD (swpI s t n k) 0 := by
  have H0 := hide (show SrW w0 g N l w ∧ Mov a b l l ∧ ∀ k, l.getD k 0 = l.getD (swpI s t 0 k) 0 from ⟨h, Mov.refl a b l, fun k => by rw [swpI_zero]⟩)
  have HL := hide h.len
  have mixed : Try.prog.follows .mixedOrders = true := by kernel_rfl
  clear h
  go_enter Try.func49, Try.ntmps49
  go_wp2_with fail
  go_loopw [10] (fun iv wr => ∃ (k : Nat) (l1 : List Int), k ≤ n ∧ iv = .int .i64 k ∧ Hid (SrW w0 g N l1 wr ∧ Mov a b l l1 ∧ ∀ q, l1.getD q 0 = l.getD (swpI s t k q) 0)) (fun iv _ => n - (intOf iv).toNat)
  case atStart => exact ⟨0, l, Nat.zero_le _, rfl, H0⟩
  case round =>
    obtain ⟨k, l1, hk, rfl, HS⟩ := hrel
    obtain ⟨wo, rfl⟩ : ∃ wo : World, wo = wr := ⟨_, rfl⟩
    clear H0
    by_cases hlt : k < n
    · have kl : (k : Int) < (n : Int) := by omega
      obtain ⟨i, hi⟩ : ∃ i, s + k = i := ⟨_, rfl⟩
      obtain ⟨j, hj⟩ : ∃ j, t + k = j := ⟨_, rfl⟩
      have wi : IntKind.i64.wrap ((s : Int) + (k : Int)) = (i : Int) := by rw [IntKind.wrap_i64]; omega
      have wj : IntKind.i64.wrap ((t : Int) + (k : Int)) = (j : Int) := by rw [IntKind.wrap_i64]; omega
      have hiN : i < N := by omega
      have hjN : j < N := by omega
      have iN : (i : Int) < (N : Int) := by omega
      have jN : (j : Int) < (N : Int) := by omega
      have i0 : (0 : Int) ≤ (i : Int) := by omega
      have j0 : (0 : Int) ≤ (j : Int) := by omega
      obtain ⟨c1, c2, f1, f2, u, c3⟩ := (unhide HS).1.swf hiN hjN
      have HW := hide ((unhide HS).1.swp hiN hjN)
      have HM := hide ((unhide HS).2.1.swp (i := i) (j := j) (by have := unhide HL; omega) (by omega) (by omega) (by omega) (by omega))
      have HR := hide (show ∀ q, (swp l1 i j).getD q 0 = l.getD (swpI s t (k + 1) q) 0 from fun q => by
        have hl := (unhide HS).1.len
        rw [swp_at q (by omega) (by omega), swpI_step (by omega), ← hi, ← hj]
        by_cases e1 : t + k = q
        · rw [if_pos e1, if_pos e1]; exact (unhide HS).2.2 _
        · rw [if_neg e1, if_neg e1]
          by_cases e2 : s + k = q
          · rw [if_pos e2, if_pos e2]; exact (unhide HS).2.2 _
          · rw [if_neg e2, if_neg e2]; exact (unhide HS).2.2 _)
      generalize l1.getD i 0 = x at *
      generalize l1.getD j 0 = y at *
      clear hi hj hiN hjN
      go_wp2_with fail
      go_big_region_o
      generalize ((wo.setCell ⟨g, i, none⟩ (.int .i64 y)).setCell ⟨g, j, none⟩ (.int .i64 x)).drew = w3 at HW ⊢
      clear c1 c2 f1 f2 c3
      go_wp2
      go_roundw
      case rel => exact ⟨k + 1, _, by omega, by go_num, hide ⟨unhide HW, unhide HM, unhide HR⟩⟩
      case measure => simp [intOf]; omega
    · obtain rfl : k = n := by omega
      have kl : ¬ (k : Int) < (k : Int) := by omega
      go_wp2
      go_end0
      exact ⟨rfl, l1, unhide HS⟩
set_option maxHeartbeats 1000000 in
set_option maxRecDepth 100000 in
theorem rot_any (w0 : World) (g N a b s m e : Nat) (l : List Int) (C : Value) (w : World) (hN : N ≤ 1000000) (h : SrW w0 g N l w) (has : a ≤ s) (hsm : s < m) (hme : m < e) (heb : e ≤ b) (hbN : b ≤ N) :
    Calls Try.prog 48 #[.slice (some ⟨g, 0, none⟩) N N, .int .i64 s, .int .i64 m, .int .i64 e, C] w fun e' w' => e' = .returned (.tuple #[]) ∧ ∃ l', SrW w0 g N l' w' ∧ Mov a b l l' ∧ ∀ k, l'.getD k 0 = l.getD (rotI s m e k) 0 := by
  obtain ⟨i0, hi0⟩ : ∃ i0, m - s = i0 := ⟨_, rfl⟩
  obtain ⟨j0, hj0⟩ : ∃ j0, e - m = j0 := ⟨_, rfl⟩
  have z1 : IntKind.i64.wrap ((m : Int) - (s : Int)) = (i0 : Int) := by rw [IntKind.wrap_i64]; omega
  have z2 : IntKind.i64.wrap ((e : Int) - (m : Int)) = (j0 : Int) := by rw [IntKind.wrap_i64]; omega
  have H0 := hide (show SrW w0 g N l w ∧ Mov a b l l ∧ ∀ k, l.getD (rotI s m e k) 0 = l.getD (rotI (m - i0) m (m + j0) k) 0 from ⟨h, Mov.refl a b l, fun k => by rw [show m - i0 = s by omega, show m + j0 = e by omega]⟩)
  have HI := hide (show a ≤ m - i0 ∧ 0 < i0 ∧ i0 ≤ m ∧ 0 < j0 ∧ m + j0 ≤ b by omega)
  clear h
  go_enter Try.func48, Try.ntmps48
  go_wp2_with fail
  go_loopw [10, 11] (fun iv jv wr => ∃ (i j : Nat) (l1 : List Int), iv = .int .i64 i ∧ jv = .int .i64 j ∧ Hid (a ≤ m - i ∧ 0 < i ∧ i ≤ m ∧ 0 < j ∧ m + j ≤ b) ∧ Hid (SrW w0 g N l1 wr ∧ Mov a b l l1 ∧ ∀ k, l.getD (rotI s m e k) 0 = l1.getD (rotI (m - i) m (m + j) k) 0)) (fun iv jv _ => (intOf iv).toNat + (intOf jv).toNat)
  case atStart => exact ⟨i0, j0, l, rfl, rfl, HI, H0⟩
  case round =>
    clear z1 z2 H0 HI hi0 hj0
    obtain ⟨i, j, l1, rfl, rfl, HI, HS⟩ := hrel
    obtain ⟨wo, rfl⟩ : ∃ wo : World, wo = wr := ⟨_, rfl⟩
    obtain ⟨ha, hi, him, hj, hmj⟩ := unhide HI
    obtain ⟨p, hp⟩ : ∃ p, m - i = p := ⟨_, rfl⟩
    have wp : IntKind.i64.wrap ((m : Int) - (i : Int)) = (p : Int) := by rw [IntKind.wrap_i64]; omega
    by_cases hij : i = j
    · have q0 : ((i : Int) != (j : Int)) = false := by rw [bne_eq_false_iff_eq]; omega
      have HC := hide (swr_any w0 g N a b p m i l1 C wo hN (unhide HS).1 (by omega) (by omega) (by omega) hbN)
      have HE := hide (show ∀ (l2 : List Int), (∀ k, l2.getD k 0 = l1.getD (swpI p m i k) 0) → ∀ k, l2.getD k 0 = l.getD (rotI s m e k) 0 from fun l2 h2 k => by
        rw [h2 k, (unhide HS).2.2 k, ← hij, ← hp, rot_end him])
      have HM := hide (unhide HS).2.1
      clear hij ha hi him hj hmj hp
      go_wp2_with (go_at_call 49; refine (unhide HC).mono ?_; rintro e' w2 ⟨rfl, l2, hs2, hm2, hr2⟩; have H2 := hide (show SrW w0 g N l2 w2 ∧ Mov a b l1 l2 ∧ ∀ k, l2.getD k 0 = l1.getD (swpI p m i k) 0 from ⟨hs2, hm2, hr2⟩); clear hs2 hm2 hr2)
      go_end0
      exact ⟨rfl, l2, (unhide H2).1, (unhide HM).trans (unhide H2).2.1, unhide HE l2 (unhide H2).2.2⟩
    · have q0 : ((i : Int) != (j : Int)) = true := by rw [bne_iff_ne]; omega
      by_cases hji : j < i
      · have q1 : (j : Int) < (i : Int) := by omega
        obtain ⟨d, hd⟩ : ∃ d, i - j = d := ⟨_, rfl⟩
        have wd : IntKind.i64.wrap ((i : Int) - (j : Int)) = (d : Int) := by rw [IntKind.wrap_i64]; omega
        have HC := hide (swr_any w0 g N a b p m j l1 C wo hN (unhide HS).1 (by omega) (by omega) (by omega) hbN)
        have HE := hide (show ∀ (l2 : List Int), (∀ k, l2.getD k 0 = l1.getD (swpI p m j k) 0) → ∀ k, l.getD (rotI s m e k) 0 = l2.getD (rotI (m - d) m (m + j) k) 0 from fun l2 h2 k => by
          rw [h2, (unhide HS).2.2 k, ← hd, ← hp, rot_left hji him])
        have HM := hide (unhide HS).2.1
        have HI2 := hide (show a ≤ m - d ∧ 0 < d ∧ d ≤ m ∧ 0 < j ∧ m + j ≤ b by omega)
        have hdj : d + j < i + j := by omega
        clear ha hi him hj hmj hp hij hji hd
        go_wp2_with (go_at_call 49; refine (unhide HC).mono ?_; rintro e' w2 ⟨rfl, l2, hs2, hm2, hr2⟩; have H2 := hide (show SrW w0 g N l2 w2 ∧ Mov a b l1 l2 ∧ ∀ k, l2.getD k 0 = l1.getD (swpI p m j k) 0 from ⟨hs2, hm2, hr2⟩); clear hs2 hm2 hr2)
        go_roundw
        case rel => exact ⟨d, j, l2, by go_num, rfl, HI2, hide ⟨(unhide H2).1, (unhide HM).trans (unhide H2).2.1, unhide HE l2 (unhide H2).2.2⟩⟩
        case measure => simp [intOf]; omega
      · have q1 : ¬ (j : Int) < (i : Int) := by omega
        obtain ⟨d, hd⟩ : ∃ d, j - i = d := ⟨_, rfl⟩
        have wd : IntKind.i64.wrap ((j : Int) - (i : Int)) = (d : Int) := by rw [IntKind.wrap_i64]; omega
        have wm : IntKind.i64.wrap ((m : Int) + (j : Int)) = (m : Int) + (j : Int) := by rw [IntKind.wrap_i64]; omega
        obtain ⟨q, hq⟩ : ∃ q, m + j - i = q := ⟨_, rfl⟩
        have wq : IntKind.i64.wrap ((m : Int) + (j : Int) - (i : Int)) = (q : Int) := by rw [IntKind.wrap_i64]; omega
        have HC := hide (swr_any w0 g N a b p q i l1 C wo hN (unhide HS).1 (by omega) (by omega) (by omega) hbN)
        have HE := hide (show ∀ (l2 : List Int), (∀ k, l2.getD k 0 = l1.getD (swpI p q i k) 0) → ∀ k, l.getD (rotI s m e k) 0 = l2.getD (rotI (m - i) m (m + d) k) 0 from fun l2 h2 k => by
          rw [h2, (unhide HS).2.2 k, ← hd, ← hp, ← hq, rot_right (by omega) him])
        have HM := hide (unhide HS).2.1
        have HI2 := hide (show a ≤ m - i ∧ 0 < i ∧ i ≤ m ∧ 0 < d ∧ m + d ≤ b by omega)
        have hdj : i + d < i + j := by omega
        clear ha hi him hj hmj hp hij hji hd hq
        go_wp2_with (go_at_call 49; refine (unhide HC).mono ?_; rintro e' w2 ⟨rfl, l2, hs2, hm2, hr2⟩; have H2 := hide (show SrW w0 g N l2 w2 ∧ Mov a b l1 l2 ∧ ∀ k, l2.getD k 0 = l1.getD (swpI p q i k) 0 from ⟨hs2, hm2, hr2⟩); clear hs2 hm2 hr2)
        go_roundw
        case rel => exact ⟨i, d, l2, rfl, by go_num, HI2, hide ⟨(unhide H2).1, (unhide HM).trans (unhide H2).2.1, unhide HE l2 (unhide H2).2.2⟩⟩
        case measure => simp [intOf]; omega
end Go.Proofs.Ytjgjgilpebeelaa
