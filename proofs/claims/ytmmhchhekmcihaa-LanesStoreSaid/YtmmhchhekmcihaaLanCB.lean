/-
  Lanes (layer 17): the document's own Same, of two stores that hold the same.
-/
import Derived.Test.YtmmhchhekmcihaaLanCA
namespace Go.Proofs.Ytmmhchhekmcihaa
open Go.RowKit

set_option maxHeartbeats 4000000 in
set_option maxRecDepth 100000 in
theorem rsame_any (S S' : Nat → Prop) (dp : Int) (L : List (List Bg)) (A A' : Option Addr) (c c' : Nat) (w : World) (hn : L.length ≤ 1000) (hl : ∀ l ∈ L, l.length ≤ 1000) (h : LnsIn S w A L) (h' : LnsIn S' w A' L) :
    Calls Try.prog 25 #[lnsV dp A L.length c, lnsV dp A' L.length c'] w fun e w' => e = .returned (.bool true) ∧ Below w.heap.size w w' := by
  obtain ⟨W, hW⟩ : ∃ W : World, (w.alloc (lnsO dp A L.length c)).alloc (lnsO dp A' L.length c') = W := ⟨_, rfl⟩
  have b1 : Below w.heap.size w W := by rw [← hW]; exact below_new (below_new (Below.refl w.heap.size w) _) _
  have hx : W.heap[w.heap.size]? = some (lnsO dp A L.length c) := by rw [← hW]; exact heap_later (heap_alloc_new w _) _
  have hy : W.heap[w.heap.size + 1]? = some (lnsO dp A' L.length c') := by
    have h := heap_alloc_new (w.alloc (lnsO dp A L.length c)) (lnsO dp A' L.length c')
    rw [World.size_alloc, hW] at h; exact h
  have HCe := hide (fun (Z : World) (hb : Below W.heap.size W Z) => show (Z.cell? ⟨w.heap.size, 0, none⟩ = some (.int .i64 dp) ∧ Z.cell? ⟨w.heap.size, 1, none⟩ = some (.slice A L.length c)) ∧ Z.cell? ⟨w.heap.size + 1, 0, none⟩ = some (.int .i64 dp) ∧ Z.cell? ⟨w.heap.size + 1, 1, none⟩ = some (.slice A' L.length c') from
    ⟨⟨by rw [Lib.cell_of_heap (heap_below hx hb)]; rfl, by rw [Lib.cell_of_heap (heap_below hx hb)]; rfl⟩, by rw [Lib.cell_of_heap (heap_below hy hb)]; rfl, by rw [Lib.cell_of_heap (heap_below hy hb)]; rfl⟩)
  have HL := hide (h.keep (KepS.below b1))
  have HL' := hide (h'.keep (KepS.below b1))
  have HZ := hide hl
  have HB := hide b1
  clear b1 h h' hl hx hy
  obtain ⟨⟨y0, y1⟩, y2, y3⟩ := unhide HCe W (Below.refl _ _)
  have qd : (dp != dp) = false := by simp
  have H0 := hide (Below.refl W.heap.size W)
  go_enter Try.func25, Try.ntmps25
  go_wp2_with fail
  clear y0 y1 y2 y3 qd
  go_loopw [5] (fun s5 wr => ∃ i : Nat, i ≤ L.length ∧ s5 = .int .i64 i ∧ Hid (Below W.heap.size W wr)) (fun s5 _ => L.length - (intOf s5).toNat)
  case atStart => exact ⟨0, Nat.zero_le _, rfl, H0⟩
  case round =>
    obtain ⟨i, hi, rfl, HI⟩ := hrel
    obtain ⟨wo, rfl⟩ : ∃ wo : World, wo = wr := ⟨_, rfl⟩
    clear H0
    obtain ⟨⟨y0, y1⟩, y2, y3⟩ := unhide HCe wo (unhide HI)
    by_cases hil : i < L.length
    · have il : (i : Int) < (L.length : Int) := by omega
      have i0 : (0 : Int) ≤ (i : Int) := by omega
      obtain ⟨g, off, rfl, _, hc⟩ := (unhide HL) (by omega)
      obtain ⟨A1, c1, r0, _, hb⟩ := hc i hil
      obtain ⟨g', off', rfl, _, hc'⟩ := (unhide HL') (by omega)
      obtain ⟨A2, c2, r1, _, hb'⟩ := hc' i hil
      have hll := (unhide HZ) _ (mem_at hil)
      have HB1 := hide hb
      have HB2 := hide hb'
      have HR := hide (fun (Z : World) (hb : Below W.heap.size W Z) => show Z.cell? ⟨g, off + i, none⟩ = some (.slice A1 (L.getD i []).length c1) ∧ Z.cell? ⟨g', off' + i, none⟩ = some (.slice A2 (L.getD i []).length c2) from ⟨kept hb r0, kept hb r1⟩)
      clear hc hc' hb hb' r0 r1
      generalize L.getD i [] = l at *
      obtain ⟨r0, r1⟩ := unhide HR wo (unhide HI)
      have ql : ((l.length : Int) != (l.length : Int)) = false := by simp
      go_wp2_with fail
      go_quiet (fail)
      go_wp2_with fail
      clear r0 r1 ql y0 y1 y2 y3
      go_loopw [6] (fun s6 wr => ∃ k : Nat, k ≤ l.length ∧ s6 = .int .i64 k ∧ Hid (Below W.heap.size W wr)) (fun s6 _ => l.length - (intOf s6).toNat)
      case atStart => exact ⟨0, Nat.zero_le _, rfl, hide (draws (unhide HI) _)⟩
      case round =>
        obtain ⟨k, hk, rfl, HK⟩ := hrel
        obtain ⟨wk, rfl⟩ : ∃ wk : World, wk = wr := ⟨_, rfl⟩
        obtain ⟨⟨y0, y1⟩, y2, y3⟩ := unhide HCe wk (unhide HK)
        obtain ⟨r0, r1⟩ := unhide HR wk (unhide HK)
        by_cases hkl : k < l.length
        · have kl : (k : Int) < (l.length : Int) := by omega
          have k0 : (0 : Int) ≤ (k : Int) := by omega
          obtain ⟨g1, o1, rfl, _, hc1⟩ := bgs_at ((unhide HB1).keep (KepS.below (unhide HK))) hkl
          obtain ⟨g2, o2, rfl, _, hc2⟩ := bgs_at ((unhide HB2).keep (KepS.below (unhide HK))) hkl
          have d0 := hc1 0 _ rfl
          have d1 := hc1 1 _ rfl
          have d2 := hc2 0 _ rfl
          have d3 := hc2 1 _ rfl
          rw [Nat.add_zero] at d0 d2
          clear hc1 hc2
          generalize (l.getD k (0, 0)).1 = a at d0 d2
          generalize (l.getD k (0, 0)).2 = b at d1 d3
          go_wp2_with fail
          go_quiet (fail)
          go_wp2
          go_roundw
          case rel => exact ⟨k + 1, by omega, by go_num, hide (draws (unhide HK) _)⟩
          case measure => simp [intOf]; omega
        · have kl : ¬ (k : Int) < (l.length : Int) := by omega
          obtain rfl : k = l.length := by omega
          go_wp2
          go_roundw
          case rel => exact ⟨i + 1, by omega, by go_num, HK⟩
          case measure => simp [intOf]; omega
    · have il : ¬ (i : Int) < (L.length : Int) := by omega
      obtain rfl : i = L.length := by omega
      go_wp2
      go_ret
      exact ⟨rfl, onward (unhide HB) (unhide HI)⟩
end Go.Proofs.Ytmmhchhekmcihaa
