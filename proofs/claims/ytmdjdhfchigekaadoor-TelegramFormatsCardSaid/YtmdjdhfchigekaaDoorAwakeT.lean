/-
  Contract of awake of chapter 3: the first example of the chapter holds.
-/
import Derived.Test.YtmdjdhfchigekaaDoorTelY
import Derived.Test.YtmdjdhfchigekaaDoorParD
import Derived.Test.YtmdjdhfchigekaaDoorParU
namespace Go.Proofs.YtmdjdhfchigekaaDoor
open Go.RowKit

def exT : Tel := ⟨⟨#[66, 83, 77]⟩, ⟨#[]⟩, [(⟨#[70]⟩, [⟨#[83, 75, 48, 49, 50, 51]⟩, ⟨#[48, 55]⟩])]⟩
def exX : ByteArray := ⟨#[66, 83, 77, 10, 46, 70, 47, 83, 75, 48, 49, 50, 51, 47, 48, 55, 10, 69, 78, 68, 66, 83, 77, 10]⟩
theorem exT_err : telE exT = 0 := by decide +kernel
theorem exT_txt : telS exT = exX := by
  apply ByteArray.ext
  decide +kernel
theorem exT_small : SmallT exT := by
  refine ⟨by decide, by decide, by decide, fun e he => ?_⟩
  rcases List.mem_singleton.1 he with rfl
  refine ⟨by decide, by decide, fun p hp => ?_⟩
  simp at hp
  rcases hp with rfl | rfl <;> decide

theorem exT_parse : parse exX = ⟨exT, 0, 0⟩ := by
  rw [← exT_txt]; exact parse_text exT_err
theorem format_ex (b : Nat) (A : Option Addr) (c : Nat) (w : World) (h : ElsIn b w A exT.els) :
    Calls Tryd.prog 14 #[.agg #[.string ⟨#[66, 83, 77]⟩, .string ⟨#[]⟩, .slice A 1 c]] w fun e w' => e = .returned (.tuple #[.string ⟨#[66, 83, 77, 10, 46, 70, 47, 83, 75, 48, 49, 50, 51, 47, 48, 55, 10, 69, 78, 68, 66, 83, 77, 10]⟩, .int .i64 0]) ∧ Below w.heap.size w w' := by
  have h := format_tel b exT A c w exT_small h
  rw [exT_txt, exT_err] at h
  exact h
theorem parse_ex (b : Nat) (w : World) (hb : b < w.heap.size) :
    Calls Tryd.prog 18 #[.string ⟨#[66, 83, 77, 10, 46, 70, 47, 83, 75, 48, 49, 50, 51, 47, 48, 55, 10, 69, 78, 68, 66, 83, 77, 10]⟩] w fun e w' => ∃ g off c A' c', e = .returned (.tuple #[.agg #[.string ⟨#[66, 83, 77]⟩, .string ⟨#[]⟩, .slice (some ⟨g, off, none⟩) 1 c], .int .i64 0, .int .i64 0]) ∧ w'.cell? ⟨g, off + 1, none⟩ = some (.slice A' 2 c') ∧ Below w.heap.size w w' := by
  refine (parse_any b exX w hb).mono ?_
  rintro e w' ⟨A, c, he, hels, hbel⟩
  rw [exT_parse] at he hels
  obtain ⟨g, off, rfl, _, hc⟩ := hels (by decide)
  obtain ⟨_, A', c', h1, _⟩ := hc 0 (by decide)
  exact ⟨g, off, c, A', c', he, h1, hbel⟩

set_option maxHeartbeats 2000000 in
theorem tawake_any (w : World) : Calls Tryd.prog 9 #[] w fun e w' => e = .returned (.bool true) ∧ Below w.heap.size w w' := by
  have b1 := (Below.refl w.heap.size w).alloc (Nat.le_refl _) (.cells #[.string ⟨#[83, 75, 48, 49, 50, 51]⟩, .string ⟨#[48, 55]⟩] 9)
  have b2 := b1.alloc b1.size (.cells #[.string ⟨#[70]⟩, .slice (some ⟨w.heap.size, 0, none⟩) 2 2] 34)
  have hE : ElsIn (w.heap.size + 2) ((w.alloc (.cells #[.string ⟨#[83, 75, 48, 49, 50, 51]⟩, .string ⟨#[48, 55]⟩] 9)).alloc (.cells #[.string ⟨#[70]⟩, .slice (some ⟨w.heap.size, 0, none⟩) 2 2] 34)) (some ⟨w.heap.size + 1, 0, none⟩) exT.els := fun _ =>
    ⟨w.heap.size + 1, 0, rfl, by omega, fun i hi => by
      obtain rfl : i = 0 := by have : exT.els.length = 1 := rfl; omega
      refine ⟨by simp [go_sem, exT], some ⟨w.heap.size, 0, none⟩, 2, by simp [go_sem, exT], fun _ => ⟨w.heap.size, 0, rfl, by omega, fun j hj => ?_⟩⟩
      match j, hj with
      | 0, _ | 1, _ => simp [go_sem, exT]⟩
  have hsz : w.heap.size < ((w.alloc (.cells #[.string ⟨#[83, 75, 48, 49, 50, 51]⟩, .string ⟨#[48, 55]⟩] 9)).alloc (.cells #[.string ⟨#[70]⟩, .slice (some ⟨w.heap.size, 0, none⟩) 2 2] 34)).heap.size := by rw [World.size_alloc, World.size_alloc]; omega
  have HE := hide hE
  have B2 := hide b2
  clear b1 b2 hE
  go_enter Tryd.func9, Tryd.ntmps9
  go_wp2_with fail
  refine (format_ex _ _ _ _ (unhide HE)).mono ?_
  rintro e w1 ⟨rfl, hb1⟩
  have HB1 := hide ((unhide B2).trans (hb1.mono (unhide B2).size))
  have hw1 : w.heap.size < w1.heap.size := Nat.lt_of_lt_of_le hsz hb1.size
  clear hb1 hsz HE B2
  go_wp2_with fail
  refine (parse_ex w.heap.size w1 hw1).mono ?_
  rintro e w2 ⟨g, off, c, A', c', rfl, hcell, hb2⟩
  have HB2 := hide ((unhide HB1).trans (hb2.mono (unhide HB1).size))
  have HB3 := hide ((unhide HB2).alloc (unhide HB2).size (.cells #[.string ⟨#[66, 83, 77]⟩, .string ⟨#[]⟩, .slice (some ⟨g, off, none⟩) 1 c] 24))
  have hc3 := kept ((Below.refl w2.heap.size w2).alloc (Nat.le_refl _) (.cells #[.string ⟨#[66, 83, 77]⟩, .string ⟨#[]⟩, .slice (some ⟨g, off, none⟩) 1 c] 24)) hcell
  clear hb2 hw1
  go_wp2
  go_ret
  exact ⟨rfl, unhide HB3⟩
end Go.Proofs.YtmdjdhfchigekaaDoor
