/-
  Custody (layer 16): slices.Delete of one seal.
-/
import Derived.Test.YtbjpcajhceapkaaCusE
import Derived.Test.YtbjpcajhceapkaaDelK
namespace Go.Proofs.Ytbjpcajhceapkaa
open Go.RowKit

theorem zeroQ (w : World) : (zeroValue 54).run Try.prog w = .ok (.agg #[.int .i64 0, .int .i64 0]) w := by kernel_rfl
set_option maxHeartbeats 4000000 in
set_option maxRecDepth 100000 in
theorem delQ_any (base g n c i : Nat) (xs : List Value) (w : World) (hown : w.ownsRow base 54 2 (.slice (some ⟨g, 0, none⟩) n c) n xs) (hi : i < n) (hn : n ≤ 1000) (h1x : ∀ v ∈ xs, v.oneCell' = true) :
    Calls Try.prog 29 #[.slice (some ⟨g, 0, none⟩) n c, .int .i64 i, .int .i64 ((i : Int) + 1)] w
      fun e w' => e = .returned (.slice (some ⟨g, 0, none⟩) (n - 1) c) ∧ w'.ownsRow base 54 2 (.slice (some ⟨g, 0, none⟩) (n - 1) c) (n - 1) (xs.take (i * 2) ++ xs.drop ((i + 1) * 2)) ∧ w.grownBy w' (some g) := by
  obtain ⟨i0, z0, hi0, hia, hib, hic, hid⟩ := info_size info_se
  have hnc : n ≤ c := own_cap hown
  have hxl : xs.length = n * 2 := hown.1
  have hcm : c ≤ 9223372036854775807 := by
    rcases hown.2 with ⟨h1, _⟩ | ⟨g', cap', cur, hv, hb, hg, h3, h4, _⟩
    · cases h1
    · injection hv with _ _ hc
      rw [hc]; exact h4
  have hd : w.drew.ownsRow base 54 2 (.slice (some ⟨g, 0, none⟩) n c) n xs := hown
  obtain ⟨news, hnews⟩ : ∃ news, news = xs.drop ((i + 1) * 2) := ⟨_, rfl⟩
  have hlen : news.length = (n - (i + 1)) * 2 := by rw [hnews, List.length_drop, hxl]; omega
  have hthere := own_there hd
  obtain ⟨A, hA, hsrc⟩ : ∃ A : Addr, (if c = i + 1 then some (⟨g, 0, none⟩ : Addr) else some ⟨g, (i + 1) * 2, none⟩) = some A ∧ Hid (∀ t u, news[t]? = some u → w.drew.cell? (A.add t) = some u) := by
    by_cases h : c = i + 1
    · refine ⟨⟨g, 0, none⟩, by simp [h], fun t u hu => ?_⟩
      have h0 : news.length = 0 := by rw [hlen]; omega
      rw [List.length_eq_zero_iff.1 h0] at hu
      simp at hu
    · refine ⟨⟨g, (i + 1) * 2, none⟩, by simp [h], fun t u hu => ?_⟩
      rw [hnews, List.getElem?_drop] at hu
      obtain ⟨g', cur, hA, _, hg, _, _, hat⟩ := own_cells hd (by omega)
      obtain rfl : g = g' := by injection hA with hA; injection hA
      rw [Addr.add_lit, Lib.cell_of_heap hg]
      exact hat _ _ hu
  have s1 : Hid (news.length = (n - (i + 1)) * 2) := hlen
  have s2 : Hid (∀ u ∈ news, u.oneCell' = true) := fun u hu => h1x u (by rw [hnews] at hu; exact List.mem_of_mem_drop hu)
  have s3 : Hid (∀ t, t < news.length → (w.drew.cell? ⟨g, 0 + i * 2 + t, none⟩).isSome = true ∧ w.drew.frozen? ⟨g, 0 + i * 2 + t, none⟩ = false) := fun t ht => by
    rw [hlen] at ht
    rw [Nat.zero_add]
    exact hthere _ (by omega)
  obtain ⟨W1, hW1⟩ : ∃ W1, W1 = w.drew.setCells g (0 + i * 2) news := ⟨_, rfl⟩
  have ho1 := own_setCells news (0 + i * 2) w.drew xs hd (by rw [hlen]; omega)
  rw [← hW1] at ho1
  have hg1 : w.grownBy W1 (some g) := by rw [hW1]; exact grown_setCells _ _ _ _ ⟨rfl, rfl, rfl, Nat.le_refl _, fun k _ _ => rfl⟩
  obtain ⟨zs, hzs⟩ : ∃ zs, (Builtin.zeroCells (Value.agg #[.int .i64 0, .int .i64 0]).cells (n - (i + (n - (i + 1))))).toList = zs := ⟨_, rfl⟩
  have hz1 : zs = [.int .i64 0, .int .i64 0] := by rw [← hzs, show n - (i + (n - (i + 1))) = 1 by omega]; simp [Builtin.zeroCells, Value.cells, Array.range_succ]
  have hzl : zs.length = 2 := by rw [hz1]; rfl
  have hth1 := own_there ho1
  have hrl := ho1.1
  have hcl : ∀ ty, (Builtin.clear_ #[25] ty #[.slice (some ⟨g, (i + (n - (i + 1))) * 2, none⟩) (n - (i + (n - (i + 1)))) (c - (i + (n - (i + 1))))]).run Try.prog W1 = .ok (.tuple #[]) (W1.setCells g ((i + (n - (i + 1))) * 2) zs) :=
    fun ty => run_clear_cells W1 25 54 ty _ Try.underlying25 (zeroQ _) g _ _ _ (by omega) zs hzs (by rw [hz1]; intro v hv; simp at hv; rw [hv]; rfl) (fun j hj => (hth1 _ (by rw [hrl]; omega)).1) (fun j hj => (hth1 _ (by rw [hrl]; omega)).2)
  have ho2 := own_setCells zs ((i + (n - (i + 1))) * 2) W1 _ ho1 (by rw [hzl, hrl]; omega)
  have ho3 := own_cut ho2 (show n - 1 ≤ n by omega)
  have HO := hide (show (W1.setCells g ((i + (n - (i + 1))) * 2) zs).ownsRow base 54 2 (.slice (some ⟨g, 0, none⟩) (n - 1) c) (n - 1) (xs.take (i * 2) ++ xs.drop ((i + 1) * 2)) from by
    rw [List.append_assoc, List.take_append_of_le_length (by rw [List.length_take, hrl]; omega), List.take_take, Nat.min_eq_left (by omega), List.append_assoc, Nat.zero_add,
      ← List.append_assoc, List.take_append_of_le_length (by rw [List.length_append, List.length_take, hxl, hlen]; omega), List.take_of_length_le (by rw [List.length_append, List.length_take, hxl, hlen]; omega), hnews] at ho3
    exact ho3)
  have HG := hide (grown_setCells zs ((i + (n - (i + 1))) * 2) W1 w hg1)
  have hW : Hid (W1 = w.drew.setCells g (0 + i * 2) news) := hW1
  have hw1 : IntKind.i64.wrap ((i : Int) + 1) = (i : Int) + 1 := by rw [IntKind.wrap_i64]; omega
  have hic' : i ≤ c := by omega
  have hjc : i + 1 ≤ c := by omega
  have hE := hide (show i + (n - (i + 1)) = n - 1 by omega)
  have hj0 : (0 : Int) ≤ (i : Int) + 1 := by omega
  have hjn : (i : Int) + 1 ≤ (n : Int) := by omega
  have hii : ¬ (i : Int) = (i : Int) + 1 := by omega
  clear hown hd hW1 hnews hlen hthere hth1 hrl ho1 ho2 ho3 hg1 hzs hz1 hzl hxl h1x hia hid
  go_enter Try.func29, Try.ntmps29
  have mixed : Try.prog.follows Departure.mixedOrders = true := by kernel_rfl
  go_wp2_with fail
  go_region_law_o (refine step_append_room rfl (.tmp 22) (.tmp 25) 25 rfl 54 i0 2 Try.underlying25 hi0 hib g 0 i c (by simp [Act.eval, Act.put]) A (n - (i + 1)) (c - (i + 1)) news (by simp [Act.eval, Act.put]) s1.out hsrc.out s2.out (by omega) s3.out ?_; rw [← hW.out])
  go_wp2
  go_ret
  exact ⟨by rw [unhide hE]; rfl, unhide HO, unhide HG⟩
end Go.Proofs.Ytbjpcajhceapkaa
