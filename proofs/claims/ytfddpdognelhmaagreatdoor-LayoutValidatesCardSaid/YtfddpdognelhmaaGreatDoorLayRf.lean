/-
  Contracts of the document's own Order, Windows and of its writing of a number.
-/
import Derived.Test.YtfddpdognelhmaaGreatDoorLayRe
namespace Go.Proofs.YtfddpdognelhmaaGreatDoor
open Go.RowKit

set_option maxHeartbeats 4000000 in
theorem rOrder_any (b : Nat) (x : Lay) (A D : Option Addr) (c d : Nat) (w : World) (h : LayIn b w x A D) (hbw : b < w.heap.size) :
    Calls Tryz.prog 16 #[lV x A c D d] w (IntsO (ordX x) w) := by
  have b1 := (Below.refl w.heap.size w).alloc (Nat.le_refl _) (lO x A c D d)
  have HI := hide (h.keep b1)
  have B1 := hide b1
  have HX := hide (heap_alloc_new w (lO x A c D d))
  have hb1 : b < (w.alloc (lO x A c D d)).heap.size := by rw [World.size_alloc]; omega
  have HC := hide (rval_any b x A D c d _ (unhide HI) hb1)
  clear h b1
  by_cases he : layE x = 0
  · have HR := hide (show ordX x = ordF x.nodes from if_pos he)
    have hz := (layE_zero he).1
    rw [he] at HC
    clear he
    go_enter Tryz.func16, Tryz.ntmps16
    go_wp2_with fail
    refine (unhide HC).mono ?_
    rintro e w1 ⟨rfl, hb1'⟩
    have HB1 := hide hb1'
    have q0 : w1.cell? ⟨w.heap.size, 0, none⟩ = some (.slice A x.nodes.length c) := by rw [Lib.cell_of_heap (heap_below (unhide HX) hb1')]; rfl
    have q1 : w1.cell? ⟨w.heap.size, 1, none⟩ = some (.slice D x.devs.length d) := by rw [Lib.cell_of_heap (heap_below (unhide HX) hb1')]; rfl
    have HI1 := hide ((unhide HI).keep hb1')
    have hb2 : b < w1.heap.size := Nat.lt_of_lt_of_le hb1 hb1'.size
    clear hb1'
    go_wp2_with fail
    refine (rorder_any b x A D c d _ (unhide HI1) hb2 (by omega)).mono ?_
    rintro e w2 ⟨v, rfl, hown, hb2⟩
    have HB2 := hide ((unhide B1).trans ((onward (unhide HB1) hb2).mono (unhide B1).size))
    have HO := hide (own_base hown (Nat.le_trans (Nat.le_succ _) (by have := (unhide HB1).size; rw [World.size_alloc] at this; exact this)))
    clear hb2 q0 q1 hown
    go_wp2
    go_ret
    exact ⟨_, rfl, by rw [unhide HR]; exact unhide HO, unhide HB2⟩
  · have HR := hide (show ordX x = [] from if_neg he)
    generalize layE x = r at *
    have hrb : (r != 0) = true := by rw [bne_iff_ne]; exact he
    clear he
    go_enter Tryz.func16, Tryz.ntmps16
    go_wp2_with fail
    refine (unhide HC).mono ?_
    rintro e w1 ⟨rfl, hb1⟩
    have HB1 := hide ((unhide B1).trans (hb1.mono (unhide B1).size))
    clear hb1
    go_wp2
    go_ret
    exact ⟨_, rfl, by rw [unhide HR]; exact ⟨rfl, .inl ⟨rfl, rfl⟩⟩, unhide HB1⟩
set_option maxHeartbeats 4000000 in
theorem rWins_any (b : Nat) (x : Lay) (A D : Option Addr) (c d : Nat) (w : World) (h : LayIn b w x A D) (hbw : b < w.heap.size) :
    Calls Tryz.prog 18 #[lV x A c D d] w fun e w' => e = .returned (.int .i64 (winsF x)) ∧ Below w.heap.size w w' := by
  have b1 := (Below.refl w.heap.size w).alloc (Nat.le_refl _) (lO x A c D d)
  have HI := hide (h.keep b1)
  have B1 := hide b1
  have HX := hide (heap_alloc_new w (lO x A c D d))
  have HC := hide (rval_any b x A D c d _ (unhide HI) (by rw [World.size_alloc]; omega))
  clear h b1
  by_cases he : layE x = 0
  · have HR := hide (show winsF x = winN x.nodes from if_pos he)
    have HL := hide (lens_of (nds_zero (layE_zero he).2.2.1))
    have hz := (layE_zero he).1
    rw [he] at HC
    clear he
    go_enter Tryz.func18, Tryz.ntmps18
    go_wp2_with fail
    refine (unhide HC).mono ?_
    rintro e w1 ⟨rfl, hb1⟩
    have HB1 := hide hb1
    have q0 : w1.cell? ⟨w.heap.size, 0, none⟩ = some (.slice A x.nodes.length c) := by rw [Lib.cell_of_heap (heap_below (unhide HX) hb1)]; rfl
    have q1 : w1.cell? ⟨w.heap.size, 1, none⟩ = some (.slice D x.devs.length d) := by rw [Lib.cell_of_heap (heap_below (unhide HX) hb1)]; rfl
    have HI1 := hide ((unhide HI).keep hb1)
    clear hb1
    go_wp2_with fail
    refine (rtotal_any b x A D c d _ (by omega) (unhide HL) (unhide HI1).nds).mono ?_
    rintro e w2 ⟨rfl, hb2⟩
    have HB2 := hide ((unhide B1).trans ((onward (unhide HB1) hb2).mono (unhide B1).size))
    clear hb2 q0 q1
    go_wp2
    go_ret
    exact ⟨ret_int (unhide HR).symm, unhide HB2⟩
  · have HR := hide (show winsF x = 0 from if_neg he)
    generalize layE x = r at *
    have hrb : (r != 0) = true := by rw [bne_iff_ne]; exact he
    clear he
    go_enter Tryz.func18, Tryz.ntmps18
    go_wp2_with fail
    refine (unhide HC).mono ?_
    rintro e w1 ⟨rfl, hb1⟩
    have HB1 := hide ((unhide B1).trans (hb1.mono (unhide B1).size))
    clear hb1
    go_wp2
    go_ret
    exact ⟨ret_int (unhide HR).symm, unhide HB1⟩

/-- The document's own text of a number below 10 (a number of windows, a zone, a window). -/
def decTo (n : Int) (w : World) : Prop := Calls Tryz.prog 32 #[.int .i64 n] w fun e w' => e = .returned (.string (decS n)) ∧ Below w.heap.size w w'
set_option maxHeartbeats 4000000 in
theorem rdec_0 (w : World) : decTo 0 w := by
  have HD := hide (digits_any 0 3 w (by omega) (by omega) (by omega) (by omega))
  rw [show strOfNums (dgs 0 3) = ⟨#[48, 48, 48]⟩ from by decide +kernel] at HD
  unfold decTo
  rw [show decS 0 = ⟨#[48]⟩ from by decide +kernel]
  go_enter Tryz.func32, Tryz.ntmps32
  go_wp2_with fail
  refine (unhide HD).mono ?_
  rintro e w1 ⟨rfl, hb1⟩
  have HB1 := hide hb1
  clear hb1
  go_wp2
  go_loop [3] (fun v => v = .string ⟨#[48, 48, 48]⟩ ∨ v = .string ⟨#[48, 48]⟩ ∨ v = .string ⟨#[48]⟩) (fun v => match v with | .string s => s.size | _ => 0)
  case atStart => exact .inl rfl
  case round =>
    rcases hrel with rfl | rfl | rfl
    · go_wp2
      go_round
      case rel => exact .inr (.inl (by rfl))
      case measure => decide +kernel
    · go_wp2
      go_round
      case rel => exact .inr (.inr (by rfl))
      case measure => decide +kernel
    · go_wp2
      go_ret
      exact ⟨rfl, unhide HB1⟩
set_option maxHeartbeats 4000000 in
theorem rdec_1 (w : World) : decTo 1 w := by
  have HD := hide (digits_any 1 3 w (by omega) (by omega) (by omega) (by omega))
  rw [show strOfNums (dgs 1 3) = ⟨#[48, 48, 49]⟩ from by decide +kernel] at HD
  unfold decTo
  rw [show decS 1 = ⟨#[49]⟩ from by decide +kernel]
  go_enter Tryz.func32, Tryz.ntmps32
  go_wp2_with fail
  refine (unhide HD).mono ?_
  rintro e w1 ⟨rfl, hb1⟩
  have HB1 := hide hb1
  clear hb1
  go_wp2
  go_loop [3] (fun v => v = .string ⟨#[48, 48, 49]⟩ ∨ v = .string ⟨#[48, 49]⟩ ∨ v = .string ⟨#[49]⟩) (fun v => match v with | .string s => s.size | _ => 0)
  case atStart => exact .inl rfl
  case round =>
    rcases hrel with rfl | rfl | rfl
    · go_wp2
      go_round
      case rel => exact .inr (.inl (by rfl))
      case measure => decide +kernel
    · go_wp2
      go_round
      case rel => exact .inr (.inr (by rfl))
      case measure => decide +kernel
    · go_wp2
      go_ret
      exact ⟨rfl, unhide HB1⟩
set_option maxHeartbeats 4000000 in
theorem rdec_2 (w : World) : decTo 2 w := by
  have HD := hide (digits_any 2 3 w (by omega) (by omega) (by omega) (by omega))
  rw [show strOfNums (dgs 2 3) = ⟨#[48, 48, 50]⟩ from by decide +kernel] at HD
  unfold decTo
  rw [show decS 2 = ⟨#[50]⟩ from by decide +kernel]
  go_enter Tryz.func32, Tryz.ntmps32
  go_wp2_with fail
  refine (unhide HD).mono ?_
  rintro e w1 ⟨rfl, hb1⟩
  have HB1 := hide hb1
  clear hb1
  go_wp2
  go_loop [3] (fun v => v = .string ⟨#[48, 48, 50]⟩ ∨ v = .string ⟨#[48, 50]⟩ ∨ v = .string ⟨#[50]⟩) (fun v => match v with | .string s => s.size | _ => 0)
  case atStart => exact .inl rfl
  case round =>
    rcases hrel with rfl | rfl | rfl
    · go_wp2
      go_round
      case rel => exact .inr (.inl (by rfl))
      case measure => decide +kernel
    · go_wp2
      go_round
      case rel => exact .inr (.inr (by rfl))
      case measure => decide +kernel
    · go_wp2
      go_ret
      exact ⟨rfl, unhide HB1⟩
set_option maxHeartbeats 4000000 in
theorem rdec_3 (w : World) : decTo 3 w := by
  have HD := hide (digits_any 3 3 w (by omega) (by omega) (by omega) (by omega))
  rw [show strOfNums (dgs 3 3) = ⟨#[48, 48, 51]⟩ from by decide +kernel] at HD
  unfold decTo
  rw [show decS 3 = ⟨#[51]⟩ from by decide +kernel]
  go_enter Tryz.func32, Tryz.ntmps32
  go_wp2_with fail
  refine (unhide HD).mono ?_
  rintro e w1 ⟨rfl, hb1⟩
  have HB1 := hide hb1
  clear hb1
  go_wp2
  go_loop [3] (fun v => v = .string ⟨#[48, 48, 51]⟩ ∨ v = .string ⟨#[48, 51]⟩ ∨ v = .string ⟨#[51]⟩) (fun v => match v with | .string s => s.size | _ => 0)
  case atStart => exact .inl rfl
  case round =>
    rcases hrel with rfl | rfl | rfl
    · go_wp2
      go_round
      case rel => exact .inr (.inl (by rfl))
      case measure => decide +kernel
    · go_wp2
      go_round
      case rel => exact .inr (.inr (by rfl))
      case measure => decide +kernel
    · go_wp2
      go_ret
      exact ⟨rfl, unhide HB1⟩
set_option maxHeartbeats 4000000 in
theorem rdec_4 (w : World) : decTo 4 w := by
  have HD := hide (digits_any 4 3 w (by omega) (by omega) (by omega) (by omega))
  rw [show strOfNums (dgs 4 3) = ⟨#[48, 48, 52]⟩ from by decide +kernel] at HD
  unfold decTo
  rw [show decS 4 = ⟨#[52]⟩ from by decide +kernel]
  go_enter Tryz.func32, Tryz.ntmps32
  go_wp2_with fail
  refine (unhide HD).mono ?_
  rintro e w1 ⟨rfl, hb1⟩
  have HB1 := hide hb1
  clear hb1
  go_wp2
  go_loop [3] (fun v => v = .string ⟨#[48, 48, 52]⟩ ∨ v = .string ⟨#[48, 52]⟩ ∨ v = .string ⟨#[52]⟩) (fun v => match v with | .string s => s.size | _ => 0)
  case atStart => exact .inl rfl
  case round =>
    rcases hrel with rfl | rfl | rfl
    · go_wp2
      go_round
      case rel => exact .inr (.inl (by rfl))
      case measure => decide +kernel
    · go_wp2
      go_round
      case rel => exact .inr (.inr (by rfl))
      case measure => decide +kernel
    · go_wp2
      go_ret
      exact ⟨rfl, unhide HB1⟩
set_option maxHeartbeats 4000000 in
theorem rdec_5 (w : World) : decTo 5 w := by
  have HD := hide (digits_any 5 3 w (by omega) (by omega) (by omega) (by omega))
  rw [show strOfNums (dgs 5 3) = ⟨#[48, 48, 53]⟩ from by decide +kernel] at HD
  unfold decTo
  rw [show decS 5 = ⟨#[53]⟩ from by decide +kernel]
  go_enter Tryz.func32, Tryz.ntmps32
  go_wp2_with fail
  refine (unhide HD).mono ?_
  rintro e w1 ⟨rfl, hb1⟩
  have HB1 := hide hb1
  clear hb1
  go_wp2
  go_loop [3] (fun v => v = .string ⟨#[48, 48, 53]⟩ ∨ v = .string ⟨#[48, 53]⟩ ∨ v = .string ⟨#[53]⟩) (fun v => match v with | .string s => s.size | _ => 0)
  case atStart => exact .inl rfl
  case round =>
    rcases hrel with rfl | rfl | rfl
    · go_wp2
      go_round
      case rel => exact .inr (.inl (by rfl))
      case measure => decide +kernel
    · go_wp2
      go_round
      case rel => exact .inr (.inr (by rfl))
      case measure => decide +kernel
    · go_wp2
      go_ret
      exact ⟨rfl, unhide HB1⟩
set_option maxHeartbeats 4000000 in
theorem rdec_6 (w : World) : decTo 6 w := by
  have HD := hide (digits_any 6 3 w (by omega) (by omega) (by omega) (by omega))
  rw [show strOfNums (dgs 6 3) = ⟨#[48, 48, 54]⟩ from by decide +kernel] at HD
  unfold decTo
  rw [show decS 6 = ⟨#[54]⟩ from by decide +kernel]
  go_enter Tryz.func32, Tryz.ntmps32
  go_wp2_with fail
  refine (unhide HD).mono ?_
  rintro e w1 ⟨rfl, hb1⟩
  have HB1 := hide hb1
  clear hb1
  go_wp2
  go_loop [3] (fun v => v = .string ⟨#[48, 48, 54]⟩ ∨ v = .string ⟨#[48, 54]⟩ ∨ v = .string ⟨#[54]⟩) (fun v => match v with | .string s => s.size | _ => 0)
  case atStart => exact .inl rfl
  case round =>
    rcases hrel with rfl | rfl | rfl
    · go_wp2
      go_round
      case rel => exact .inr (.inl (by rfl))
      case measure => decide +kernel
    · go_wp2
      go_round
      case rel => exact .inr (.inr (by rfl))
      case measure => decide +kernel
    · go_wp2
      go_ret
      exact ⟨rfl, unhide HB1⟩
set_option maxHeartbeats 4000000 in
theorem rdec_7 (w : World) : decTo 7 w := by
  have HD := hide (digits_any 7 3 w (by omega) (by omega) (by omega) (by omega))
  rw [show strOfNums (dgs 7 3) = ⟨#[48, 48, 55]⟩ from by decide +kernel] at HD
  unfold decTo
  rw [show decS 7 = ⟨#[55]⟩ from by decide +kernel]
  go_enter Tryz.func32, Tryz.ntmps32
  go_wp2_with fail
  refine (unhide HD).mono ?_
  rintro e w1 ⟨rfl, hb1⟩
  have HB1 := hide hb1
  clear hb1
  go_wp2
  go_loop [3] (fun v => v = .string ⟨#[48, 48, 55]⟩ ∨ v = .string ⟨#[48, 55]⟩ ∨ v = .string ⟨#[55]⟩) (fun v => match v with | .string s => s.size | _ => 0)
  case atStart => exact .inl rfl
  case round =>
    rcases hrel with rfl | rfl | rfl
    · go_wp2
      go_round
      case rel => exact .inr (.inl (by rfl))
      case measure => decide +kernel
    · go_wp2
      go_round
      case rel => exact .inr (.inr (by rfl))
      case measure => decide +kernel
    · go_wp2
      go_ret
      exact ⟨rfl, unhide HB1⟩
set_option maxHeartbeats 4000000 in
theorem rdec_8 (w : World) : decTo 8 w := by
  have HD := hide (digits_any 8 3 w (by omega) (by omega) (by omega) (by omega))
  rw [show strOfNums (dgs 8 3) = ⟨#[48, 48, 56]⟩ from by decide +kernel] at HD
  unfold decTo
  rw [show decS 8 = ⟨#[56]⟩ from by decide +kernel]
  go_enter Tryz.func32, Tryz.ntmps32
  go_wp2_with fail
  refine (unhide HD).mono ?_
  rintro e w1 ⟨rfl, hb1⟩
  have HB1 := hide hb1
  clear hb1
  go_wp2
  go_loop [3] (fun v => v = .string ⟨#[48, 48, 56]⟩ ∨ v = .string ⟨#[48, 56]⟩ ∨ v = .string ⟨#[56]⟩) (fun v => match v with | .string s => s.size | _ => 0)
  case atStart => exact .inl rfl
  case round =>
    rcases hrel with rfl | rfl | rfl
    · go_wp2
      go_round
      case rel => exact .inr (.inl (by rfl))
      case measure => decide +kernel
    · go_wp2
      go_round
      case rel => exact .inr (.inr (by rfl))
      case measure => decide +kernel
    · go_wp2
      go_ret
      exact ⟨rfl, unhide HB1⟩
set_option maxHeartbeats 4000000 in
theorem rdec_9 (w : World) : decTo 9 w := by
  have HD := hide (digits_any 9 3 w (by omega) (by omega) (by omega) (by omega))
  rw [show strOfNums (dgs 9 3) = ⟨#[48, 48, 57]⟩ from by decide +kernel] at HD
  unfold decTo
  rw [show decS 9 = ⟨#[57]⟩ from by decide +kernel]
  go_enter Tryz.func32, Tryz.ntmps32
  go_wp2_with fail
  refine (unhide HD).mono ?_
  rintro e w1 ⟨rfl, hb1⟩
  have HB1 := hide hb1
  clear hb1
  go_wp2
  go_loop [3] (fun v => v = .string ⟨#[48, 48, 57]⟩ ∨ v = .string ⟨#[48, 57]⟩ ∨ v = .string ⟨#[57]⟩) (fun v => match v with | .string s => s.size | _ => 0)
  case atStart => exact .inl rfl
  case round =>
    rcases hrel with rfl | rfl | rfl
    · go_wp2
      go_round
      case rel => exact .inr (.inl (by rfl))
      case measure => decide +kernel
    · go_wp2
      go_round
      case rel => exact .inr (.inr (by rfl))
      case measure => decide +kernel
    · go_wp2
      go_ret
      exact ⟨rfl, unhide HB1⟩
theorem rdecimal_any (n : Int) (w : World) (h0 : 0 ≤ n) (h1 : n ≤ 9) :
    Calls Tryz.prog 32 #[.int .i64 n] w fun e w' => e = .returned (.string (decS n)) ∧ Below w.heap.size w w' := by
  have hk : n = 0 ∨ n = 1 ∨ n = 2 ∨ n = 3 ∨ n = 4 ∨ n = 5 ∨ n = 6 ∨ n = 7 ∨ n = 8 ∨ n = 9 := by omega
  rcases hk with rfl | rfl | rfl | rfl | rfl | rfl | rfl | rfl | rfl | rfl
  · exact rdec_0 w
  · exact rdec_1 w
  · exact rdec_2 w
  · exact rdec_3 w
  · exact rdec_4 w
  · exact rdec_5 w
  · exact rdec_6 w
  · exact rdec_7 w
  · exact rdec_8 w
  · exact rdec_9 w
end Go.Proofs.YtfddpdognelhmaaGreatDoor
