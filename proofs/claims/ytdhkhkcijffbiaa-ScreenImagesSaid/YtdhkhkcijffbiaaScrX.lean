/-
  Screening (layer 15): the program's Cleared and Alarms.
-/
import Derived.Test.YtdhkhkcijffbiaaScrW
import Derived.Test.YtdhkhkcijffbiaaNumO
namespace Go.Proofs.Ytdhkhkcijffbiaa
open Go.RowKit

def clrK (s : Scr) (k : Nat) : List Int := ((s.l.take k).filter fun x => decide (x.st = 2)).map Ck.bag
theorem clrK_all (s : Scr) : clrK s s.l.length = clrL s := by unfold clrK clrL; rw [List.take_length]
theorem clrK_step {s : Scr} {k : Nat} {x : Ck} (hk : k < s.l.length) (hx : s.l.getD k ck0 = x) : clrK s (k + 1) = if x.st = 2 then clrK s k ++ [x.bag] else clrK s k := by
  unfold clrK
  rw [List.take_succ_eq_append_getElem hk, List.filter_append, List.map_append, ← at_k hk (d := ck0), hx]
  split
  · rename_i h; rw [List.filter_cons_of_pos (by simpa using h)]; rfl
  · rename_i h; rw [List.filter_cons_of_neg (by simpa using h)]; simp
theorem clrK_len (s : Scr) (k : Nat) : (clrK s k).length ≤ s.l.length := by
  unfold clrK
  rw [List.length_map]
  exact Nat.le_trans (List.length_filter_le _ _) (List.length_take_le' _ _)

set_option maxHeartbeats 1000000 in
set_option maxRecDepth 100000 in
theorem pcleared_any (b : Nat) (s : Scr) (A : Option Addr) (c : Nat) (w : World) (hv : ValS s) (h : CksIn b w A s.l) :
    Calls Try.prog 24 #[scrV s A c] w fun e w' => ∃ A c, e = .returned (.slice A (clrL s).length c) ∧ (∀ b, b < w.heap.size → NumsIn b w' A (clrL s)) ∧ Below w.heap.size w w' := by
  have z5 : (w.alloc (scrO s A c)).cell? ⟨w.heap.size, 5, none⟩ = some (.slice A s.l.length c) := by rw [Lib.cell_of_heap (heap_alloc_new w _)]; rfl
  have HB := hide ((Below.refl w.heap.size w).alloc (Nat.le_refl _) (scrO s A c))
  have HV := hide hv
  have HL := hide h
  obtain ⟨i0, hi, hz0, hz1, hz2⟩ := info_parts linfo_int
  have HI0 := hide hi
  have HZ0 := hide hz0
  have HZ1 := hide hz1
  have HZ2 := hide hz2
  clear hv h hi hz0 hz1 hz2
  go_enter Try.func24, Try.ntmps24
  go_wp2
  go_loopw [3, 9] (fun s3 s9 wr => ∃ (k : Nat) (A' : Option Addr) (c' : Nat), k ≤ s.l.length ∧ s3 = .slice A' (clrK s k).length c' ∧ s9 = .int .i64 k ∧ Hid (Below w.heap.size w wr ∧ wr.ownsRow w.heap.size 3 1 (.slice A' (clrK s k).length c') (clrK s k).length ((clrK s k).map (Value.int .i64)))) (fun _ s9 _ => s.l.length - (intOf s9).toNat)
  case atStart => exact ⟨0, none, 0, Nat.zero_le _, rfl, rfl, hide ⟨unhide HB, World.ownsRow_nil _ _ _ _⟩⟩
  case round =>
    obtain ⟨k, A', c', hk, rfl, rfl, HP⟩ := hrel
    obtain ⟨wo, rfl⟩ : ∃ wo : World, wo = wr := ⟨_, rfl⟩
    clear HB z5
    have hz40 := (unhide HV).len
    have hlk := clrK_len s k
    by_cases hlt : k < s.l.length
    · have kl : (k : Int) < (s.l.length : Int) := by omega
      have k0 : (0 : Int) ≤ (k : Int) := by omega
      obtain ⟨g, off, rfl, _, hc⟩ := ck_at ((unhide HL).keep (unhide HP).1) hlt
      obtain ⟨x, hx⟩ : ∃ x, s.l.getD k ck0 = x := ⟨_, rfl⟩
      rw [hx] at hc
      have HST := hide (clrK_step hlt hx)
      have HC := hide hc
      have HLT := hide hlt
      clear hc hx hlt
      have bx := (Below.refl wo.heap.size wo).alloc (Nat.le_refl _) (.cells x.arr 42)
      have HXB := hide (heap_alloc_new wo (.cells x.arr 42))
      have p4 : (wo.alloc (.cells x.arr 42)).cell? ⟨wo.heap.size, 4, none⟩ = some (.int .i64 x.st) := by rw [Lib.cell_of_heap (unhide HXB)]; rfl
      have p0 : (wo.alloc (.cells x.arr 42)).cell? ⟨wo.heap.size, 0, none⟩ = some (.int .i64 x.bag) := by rw [Lib.cell_of_heap (unhide HXB)]; rfl
      have HB1 := hide (onward (unhide HP).1 bx)
      have HO1 := hide (owns_later (unhide HP).2 bx)
      clear bx
      by_cases hp : x.st = 2
      · have tp : (x.st == 2) = true := by rw [beq_iff_eq]; exact hp
        have HE := hide (show clrK s (k + 1) = clrK s k ++ [x.bag] by rw [unhide HST, if_pos hp])
        clear hp
        obtain ⟨w1, hw1⟩ : ∃ w1 : World, wo.alloc (.cells x.arr 42) = w1 := ⟨_, rfl⟩
        rw [hw1] at p4 p0 HB1 HO1 HXB
        have by_ := (Below.refl w1.heap.size w1).alloc (Nat.le_refl _) (.cells #[.int .i64 x.bag] 3)
        have HB2 := hide (onward (unhide HB1) by_)
        have HO2 := hide (owns_later (unhide HO1) by_)
        have HN := hide (World.news_of_block (heap_alloc_new w1 (.cells #[.int .i64 x.bag] 3)))
        have hz2 := (unhide HB2).size
        clear by_
        go_wp2_with (first
          | (refine wpList_load_at rfl _ _ rfl g (off + k * 5) rfl x.arr _ (unhide HC) Try.underlying42 rfl infoC ?_)
          | (refine wpList_storeC_new rfl x rfl _ _ rfl rfl rfl rfl ?_)
          | (at_builtin; refine wpList_append_lies _ rfl _ _ 23 rfl w.heap.size 3 i0 (.int .i64 0) 1 8 Try.underlying23 (unhide HI0) (unhide HZ0) (unhide HZ1) (unhide HZ2) rfl (by decide) _ _ _ rfl (unhide HO2) ⟨w1.heap.size, 0, none⟩ 1 1 [.int .i64 x.bag] rfl rfl (unhide HN) (fun u hu => by rw [List.mem_singleton.1 hu]; rfl) (by decide) (by unfold maxLen; omega) (by omega) hz2 _ rfl ?_))
        intro q cap' w6 hown hgrow hat hlt6
        have HB6 := hide ((unhide HB2).grown hgrow hz2 (fun k hk => ((unhide HO2).lt k hk).1))
        have HO6 := hide hown
        clear hown hgrow hat hlt6
        go_wp2
        go_roundw
        case rel => exact ⟨k + 1, some ⟨q, 0, none⟩, cap', by have := unhide HLT; omega, by rw [unhide HE, List.length_append]; rfl, by go_num, hide (by rw [unhide HE, List.length_append, List.map_append]; exact ⟨unhide HB6, unhide HO6⟩)⟩
        case measure => simp [intOf]; have := unhide HLT; omega
      · have tp : (x.st == 2) = false := by rw [beq_eq_false_iff_ne]; exact hp
        have HE := hide (show clrK s (k + 1) = clrK s k by rw [unhide HST, if_neg hp])
        clear hp
        go_wp2_with (first
          | (refine wpList_load_at rfl _ _ rfl g (off + k * 5) rfl x.arr _ (unhide HC) Try.underlying42 rfl infoC ?_)
          | (refine wpList_storeC_new rfl x rfl _ _ rfl rfl rfl rfl ?_))
        go_roundw
        case rel => exact ⟨k + 1, A', c', by have := unhide HLT; omega, by rw [unhide HE], by go_num, hide (by rw [unhide HE]; exact ⟨unhide HB1, unhide HO1⟩)⟩
        case measure => simp [intOf]; have := unhide HLT; omega
    · have kl : ¬ (k : Int) < (s.l.length : Int) := by omega
      obtain rfl : k = s.l.length := by omega
      have HA := hide (clrK_all s)
      go_wp2
      go_ret
      rw [← unhide HA]
      exact ⟨A', ⟨c', rfl⟩, fun b hb => nums_own (unhide HP).2 (.inl hb), (unhide HP).1⟩
end Go.Proofs.Ytdhkhkcijffbiaa
