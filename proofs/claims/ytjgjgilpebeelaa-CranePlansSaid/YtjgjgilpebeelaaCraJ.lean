/-
  Crane (layer 18): the document's own byDue, Plan, Overload.
-/
import Derived.Test.YtjgjgilpebeelaaCraI
import Derived.Test.YtjgjgilpebeelaaCraC
namespace Go.Proofs.Ytjgjgilpebeelaa
open Go.RowKit

/-- The number i goes in at place k, behind all that are due no later. -/
theorem ins_by {jobs : List Jb} {o : List Int} {i k : Nat} (hl : o.length = i) (hp : o.Perm (upI i)) (hs : o.Pairwise (lexR (dueJ jobs))) (hk : k ≤ i) (hg : ∀ q, k ≤ q → q < i → dueJ jobs (i : Int) < dueJ jobs (o.getD q 0))
    (hst : k = 0 ∨ (0 < k ∧ ¬ dueJ jobs (i : Int) < dueJ jobs (o.getD (k - 1) 0))) : (o.take k ++ [(i : Int)] ++ o.drop k).Pairwise (lexR (dueJ jobs)) := by
  have hlt : ∀ x ∈ o, x < (i : Int) := fun x hx => (upI_mem.1 (hp.mem_iff.1 hx)).2
  rw [List.append_assoc, List.pairwise_append]
  refine ⟨hs.sublist (List.take_sublist _ _), ?_, fun x hx y hy => ?_⟩
  · rw [List.singleton_append, List.pairwise_cons]
    refine ⟨fun y hy => ?_, hs.sublist (List.drop_sublist _ _)⟩
    obtain ⟨q, hq, rfl⟩ := List.getElem_of_mem hy
    rw [List.length_drop] at hq
    have := hg (k + q) (by omega) (by omega)
    rw [at_k (by omega)] at this
    rw [List.getElem_drop]
    exact .inl this
  · rw [List.singleton_append, List.mem_cons] at hy
    have hxo := List.mem_of_mem_take hx
    rw [List.mem_take_iff_getElem] at hx
    obtain ⟨p, hp', rfl⟩ := hx
    have hxi : lexR (dueJ jobs) (o[p]) (i : Int) := by
      rcases hst with rfl | ⟨h0, h1⟩
      · omega
      · have h2 := hlt _ hxo
        have h3 : dueJ jobs (o[p]) ≤ dueJ jobs (o.getD (k - 1) 0) := by
          rw [at_k (by omega)]
          rcases Nat.lt_or_ge p (k - 1) with c | c
          · have := List.pairwise_iff_getElem.1 hs p (k - 1) (by omega) (by omega) c
            unfold lexR at this; omega
          · obtain rfl : p = k - 1 := by omega
            exact Int.le_refl _
        unfold lexR; omega
    rcases hy with rfl | hy
    · exact hxi
    · obtain ⟨q, hq, rfl⟩ := List.getElem_of_mem hy
      rw [List.length_drop] at hq
      rw [List.getElem_drop]
      exact List.pairwise_iff_getElem.1 hs p (k + q) (by omega) (by omega) (by omega)
set_option maxHeartbeats 4000000 in
set_option maxRecDepth 100000 in
theorem rbyDue_any (b : Nat) (jobs : List Jb) (A1 : Option Addr) (c1' : Nat) (w : World) (hz : jobs.length ≤ 1000) (h : JbsIn b w A1 jobs) :
    Calls Try.prog 31 #[.slice A1 jobs.length c1'] w fun e w' => ∃ (o : List Int) (A : Option Addr) (c : Nat), e = .returned (.slice A jobs.length c) ∧ IsBy jobs o ∧ w'.ownsRow w.heap.size 3 1 (.slice A jobs.length c) jobs.length (o.map (Value.int .i64)) ∧ Below w.heap.size w w' := by
  obtain ⟨i0, hi, hz0, hz1, hz2⟩ := info_parts linfo_int
  have HI0 := hide hi
  have HZ0 := hide hz0
  have HZ1 := hide hz1
  have HZ2 := hide hz2
  have HJb := hide h
  have H0 := hide (show Below w.heap.size w w ∧ w.ownsRow w.heap.size 3 1 (.slice none 0 0) 0 (([] : List Int).map (Value.int .i64)) from ⟨Below.refl _ _, World.ownsRow_nil _ _ _ _⟩)
  clear hi hz0 hz1 hz2 h
  go_enter Try.func31, Try.ntmps31
  go_wp2_with fail
  go_loopw [3, 4] (fun s3 s4 wr => ∃ (i : Nat) (o : List Int) (A : Option Addr) (c : Nat), i ≤ jobs.length ∧ s3 = .slice A i c ∧ s4 = .int .i64 i ∧ Hid (o.Perm (upI i) ∧ o.Pairwise (lexR (dueJ jobs))) ∧ Hid (Below w.heap.size w wr ∧ wr.ownsRow w.heap.size 3 1 (.slice A i c) i (o.map (Value.int .i64)))) (fun _ s4 _ => jobs.length - (intOf s4).toNat)
  case atStart => exact ⟨0, [], none, 0, Nat.zero_le _, rfl, rfl, hide ⟨List.Perm.refl _, List.Pairwise.nil⟩, H0⟩
  case round =>
    clear H0
    obtain ⟨i, o, A, c, hin, rfl, rfl, HBy, HP⟩ := hrel
    obtain ⟨wo, rfl⟩ : ∃ wo : World, wo = wr := ⟨_, rfl⟩
    by_cases hlt : i < jobs.length
    · have il : (i : Int) < (jobs.length : Int) := by omega
      have i0' : (0 : Int) ≤ (i : Int) := by omega
      have HL := hide (own_open (unhide HP).2).1
      go_wp2_with fail
      go_loopw [5] (fun s5 wr2 => ∃ k : Nat, k ≤ i ∧ s5 = .int .i64 k ∧ Hid (∀ q, k ≤ q → q < i → dueJ jobs (i : Int) < dueJ jobs (o.getD q 0)) ∧ Hid (Below w.heap.size w wr2 ∧ wr2.ownsRow w.heap.size 3 1 (.slice A i c) i (o.map (Value.int .i64)))) (fun s5 _ => (intOf s5).toNat)
      case atStart => exact ⟨i, Nat.le_refl _, rfl, hide fun q h1 h2 => absurd h2 (by omega), HP⟩
      case round =>
        clear HP
        obtain ⟨k, hki, rfl, HK, HJ⟩ := hrel
        obtain ⟨wq, rfl⟩ : ∃ wq : World, wq = wr := ⟨_, rfl⟩
        have HKi := hide hki
        by_cases hk0 : 0 < k
        · have q0 : (0 : Int) < (k : Int) := by omega
          obtain ⟨p, hp⟩ : ∃ p, k - 1 = p := ⟨_, rfl⟩
          have wp : IntKind.i64.wrap ((k : Int) - 1) = (p : Int) := by rw [IntKind.wrap_i64]; omega
          rcases own_open (unhide HJ).2 with ⟨hl, ⟨_, e0, _, _⟩ | ⟨q, rfl, hic, hcm, hcells0⟩⟩
          · omega
          have hpi : p < o.length := by omega
          have c0 := hcells0 p (.int .i64 (o.getD p 0)) (by rw [List.getElem?_map, List.getElem?_eq_getElem hpi, at_k hpi]; rfl)
          have hx := upI_mem.1 ((unhide HBy).1.mem_iff.1 (show o.getD p 0 ∈ o by rw [at_k hpi]; exact List.getElem_mem _))
          obtain ⟨j, hj⟩ := Int.eq_ofNat_of_zero_le hx.1
          have HD := hide (show dueJ jobs (o.getD (k - 1) 0) = dueJ jobs (j : Int) by rw [hp, hj])
          rw [hj] at c0 hx
          have jn : (j : Int) < (jobs.length : Int) := by omega
          have j0 : (0 : Int) ≤ (j : Int) := hx.1
          have p0 : (0 : Int) ≤ (p : Int) := by omega
          have pn : (p : Int) < (i : Int) := by omega
          obtain ⟨g, off, eA, _, d1⟩ := jbs_get ((unhide HJb).keep (unhide HJ).1) (j := j) (by omega)
          obtain ⟨g', off', eA', _, d2⟩ := jbs_get ((unhide HJb).keep (unhide HJ).1) (j := i) hlt
          rw [eA] at eA'
          injection eA' with eA'
          injection eA' with ea eb
          subst ea
          subst eb
          subst eA
          have HK2 := hide (show dueJ jobs (i : Int) < dueJ jobs (j : Int) → ∀ q, p ≤ q → q < i → dueJ jobs (i : Int) < dueJ jobs (o.getD q 0) from fun h9 q h1 h2 => by
            rcases Nat.lt_or_ge q k with c | c
            · obtain rfl : q = k - 1 := by omega
              rw [unhide HD]; exact h9
            · exact unhide HK q c h2)
          have HSt := hide (show ¬ dueJ jobs (i : Int) < dueJ jobs (j : Int) → 0 < k ∧ ¬ dueJ jobs (i : Int) < dueJ jobs (o.getD (k - 1) 0) from fun h9 => ⟨hk0, by rw [unhide HD]; exact h9⟩)
          have HI2 := hide (show IsBy jobs o → True from fun _ => trivial)
          have hpk : p < k := by omega
          obtain ⟨dj, hdj⟩ : ∃ dj, dueJ jobs (j : Int) = dj := ⟨_, rfl⟩
          obtain ⟨di, hdi⟩ : ∃ di, dueJ jobs (i : Int) = di := ⟨_, rfl⟩
          rw [hdj] at d1 HK2 HSt
          rw [hdi] at d2 HK2 HSt
          have HDi := hide hdi
          replace c0 := After.cell c0
          replace d1 := After.cell d1
          replace d2 := After.cell d2
          have hcells := hcells0
          clear hx hj hdj hdi hp hl hpi HI2 hcells0
          by_cases hd : di < dj
          · have HK3 := hide (unhide HK2 hd)
            clear HK2 HSt HKi hcells
            go_wp2_with fail
            refine wp_region_after (by kernel_rfl) (by kernel_rfl) ?_
            repeat (go_big_quiet_step (fail))
            refine wpQuiet_nil ?_
            rintro _ ⟨t, rfl⟩
            have HJ2 := hide (show Below w.heap.size w t.to ∧ t.to.ownsRow w.heap.size 3 1 (.slice (some ⟨q, 0, none⟩) i c) i (o.map (Value.int .i64)) from ⟨onward (unhide HJ).1 t.is, owns_later (unhide HJ).2 t.is⟩)
            generalize t.to = wz at HJ2 ⊢
            clear c0 d1 d2 t HJ
            go_wp2
            go_roundw
            case rel => exact ⟨p, by omega, by go_num, by rw [unhide HDi]; exact HK3, HJ2⟩
            case measure => simp [intOf]; omega
          · have HStop := hide (unhide HSt hd)
            clear HK2 HSt
            go_wp2_with fail
            refine wp_region_after (by kernel_rfl) (by kernel_rfl) ?_
            repeat (go_big_quiet_step (fail))
            refine wpQuiet_nil ?_
            rintro _ ⟨t, rfl⟩
            have hcells : ∀ j u, (o.map (Value.int .i64))[j]? = some u → t.to.cell? ⟨q, j, none⟩ = some u := fun j u hu => kept t.is (hcells j u hu)
            clear c0 d1 d2
            have HIn := hide (ins_by (unhide HL) (unhide HBy).1 (unhide HBy).2 (unhide HKi) (unhide HK) (.inr (by have := unhide HStop; rw [unhide HDi]; omega)))
            have HOn := hide (owns_later (unhide HJ).2 t.is)
            have HBn := hide (onward (unhide HJ).1 t.is)
            generalize t.to = wz at HOn HBn hcells ⊢
            clear t HJ
            clear HStop hpk wp q0 p0 pn jn j0
            have k1 : (k : Int) ≤ (i : Int) := by have := unhide HKi; omega
            have k2 : (k : Int) ≤ (c : Int) := by have := unhide HKi; omega
            have HCe := hide (show ∀ j u, (o.map (Value.int .i64))[j]? = some u → wz.cell? ⟨q, j, none⟩ = some u from hcells)
            have HQ := hide (show q < wz.heap.size from ((unhide HOn).lt q rfl).2)
            clear hcells
            rcases Nat.lt_or_ge k c with hkc | hkc
            · have hkc2 : (k : Int) < (c : Int) := by omega
              have bE := (Below.refl wz.heap.size wz).alloc (Nat.le_refl _) (.cells #[] 3)
              obtain ⟨WE, hWE⟩ : ∃ WE : World, wz.alloc (.cells #[] 3) = WE := ⟨_, rfl⟩
              obtain ⟨E, hE⟩ : ∃ E, wz.heap.size = E := ⟨_, rfl⟩
              have HEm := hide (show WE.ownsRow (w.heap.size) 3 1 (.slice (some ⟨E, 0, none⟩) 0 0) 0 [] from by
                rw [← hWE, ← hE]
                exact ⟨rfl, .inr ⟨wz.heap.size, 0, #[], rfl, by have := (unhide HBn).size; omega, heap_alloc_new wz _, Nat.le_refl _, Nat.zero_le _, rfl, rfl⟩⟩)
              have HX1 := hide (show Below wz.heap.size wz WE ∧ ∀ (a : Addr) (u : Value), wz.cell? a = some u → WE.cell? a = some u from by rw [← hWE]; exact ⟨bE, fun a u h => kept bE h⟩)
              have HBE := hide (show w.heap.size ≤ WE.heap.size ∧ E < WE.heap.size by rw [← hWE, ← hE, World.size_alloc]; have := (unhide HBn).size; omega)
              have HE := hide hE
              clear bE
              go_wp2_with (at_builtin; refine wpList_copyG (H := w.heap.size) (e := E) (A := some ⟨q, k, none⟩) (xs := (o.drop k).map (Value.int .i64)) rfl _ _ rfl rfl rfl rfl Try.underlying23 (unhide HI0) (unhide HZ0) (unhide HZ1) (unhide HZ2) rfl (by decide) (by rw [List.length_map, List.length_drop, unhide HL, Nat.mul_one]) (by unfold maxLen; omega) (by omega) ints_one (unhide HBE).1 (unhide HEm) (fun _ => ⟨q, k, rfl, fun j u hu => (unhide HX1).2 _ _ (unhide HCe (k + j) u (by rw [List.map_drop, List.getElem?_drop] at hu; exact hu))⟩) ?_)
              intro A1 c1 w2 hown1 hg1
              have HR1 := hide (show w2.ownsRow (w.heap.size) 3 1 (.slice A1 (i - k) c1) (i - k) ((o.drop k).map (Value.int .i64)) from by first | exact hown1 | (rw [List.map_drop]; exact hown1))
              have HG1 := hide (show ∀ (a : Addr) (u : Value), a.block ≠ E → wz.cell? a = some u → w2.cell? a = some u from fun a u hne hc => hg1.cell ((unhide HX1).2 a u hc) (by simpa using hne))
              have HB2 := hide ((onward (unhide HBn) (unhide HX1).1).grown hg1 (onward (unhide HBn) (unhide HX1).1).size (fun j e => by injection e with e; have := unhide HE; have := (unhide HBn).size; omega))
              clear hown1 hg1 HEm hWE hE
              obtain ⟨W3, hW3⟩ : ∃ W3 : World, w2.alloc (.cells #[.int .i64 i] 3) = W3 := ⟨_, rfl⟩
              have b3 := (Below.refl w2.heap.size w2).alloc (Nat.le_refl _) (.cells #[.int .i64 i] 3)
              have hn3 := World.news_of_block (heap_alloc_new w2 (.cells #[.int .i64 i] 3))
              rw [hW3] at b3 hn3
              obtain ⟨F, hF⟩ : ∃ F, w2.heap.size = F := ⟨_, rfl⟩
              rw [hF] at hn3
              have HN3 := hide hn3
              have HX3 := hide (show Below w2.heap.size w2 W3 ∧ ∀ (j : Nat) (u : Value), wz.cell? ⟨q, j, none⟩ = some u → W3.cell? ⟨q, j, none⟩ = some u from ⟨b3, fun j u hc => kept b3 (unhide HG1 _ _ (by have := unhide HQ; have := unhide HE; simp only []; omega) hc)⟩)
              have HB3 := hide (onward (unhide HB2) b3)
              have HR3 := hide (owns_later (unhide HR1) b3)
              clear b3 hn3 HR1
              go_wp2_with (first
                | (at_builtin; refine wpList_append_grows _ rfl _ _ 23 rfl 3 i0 (.int .i64 0) 1 8 Try.underlying23 (unhide HI0) (unhide HZ0) (unhide HZ1) (unhide HZ2) rfl (by decide) (some ⟨q, 0, none⟩) k k ((o.take k).map (Value.int .i64)) rfl (fun e => by cases e) (by rw [List.length_map, List.length_take, unhide HL, Nat.min_eq_left (unhide HKi), Nat.mul_one]) (fun b e j u hu => by injection e with e; subst e; rw [Addr.add_lit, Nat.zero_add]; exact (unhide HX3).2 _ _ (unhide HCe j u (by rw [List.map_take, List.getElem?_take] at hu; split at hu <;> first | exact hu | cases hu))) ⟨F, 0, none⟩ 1 1 [.int .i64 i] rfl rfl (unhide HN3) (fun u hu => by rw [List.mem_singleton.1 hu]; rfl) (by omega) (by have := unhide HKi; unfold maxLen; omega) (by have := unhide HKi; omega) ?_; intro v4 w4 hown4 hg4; have HO4 := hide (show w4.ownsRow (w.heap.size) 3 1 v4 (k + 1) ((o.take k ++ [(i : Int)]).map (Value.int .i64)) from by rw [List.map_append]; exact own_base hown4 (by have := (unhide HB3).size; omega)); have HB4 := hide ((unhide HB3).grown hg4 (unhide HB3).size (fun j e => by cases e)); have HR4 := hide ((unhide HR3).kept hg4 (Classical.em _)); have HL4 := hide (hown4.lt); clear hown4 hg4)
                | (at_builtin; refine wpList_append_any rfl _ _ 23 rfl (w.heap.size) 3 i0 (.int .i64 0) 1 8 Try.underlying23 (unhide HI0) (unhide HZ0) (unhide HZ1) (unhide HZ2) rfl (by decide) v4 (k + 1) _ rfl (unhide HO4) A1 (i - k) c1 ((o.drop k).map (Value.int .i64)) rfl (by rw [List.length_map, List.length_drop, unhide HL, Nat.mul_one]) (fun hp => by rcases own_open (unhide HR4) with ⟨_, ⟨_, e0, _, _⟩ | ⟨q1, e1, _, _, hc1⟩⟩ <;> first | omega | exact ⟨q1, 0, e1, fun j u hu => by rw [Nat.zero_add]; exact hc1 j u hu⟩) ints_one (by have := unhide HKi; unfold maxLen; omega) (by have := unhide HKi; omega) (by have := (unhide HB4).size; omega) ?_; intro v5 w5 hown5 hg5 _; have HZ := hide (show w5.ownsRow (w.heap.size) 3 1 v5 (i + 1) ((o.take k ++ [(i : Int)] ++ o.drop k).map (Value.int .i64)) from by rw [List.map_append]; have e9 : i + 1 = k + 1 + (i - k) := (by have := unhide HKi; omega); rw [e9]; exact hown5); have HBz := hide ((unhide HB4).grown hg5 (unhide HB4).size (fun j e => by have := ((unhide HO4).lt j e).1; omega)); clear hown5 hg5))
              clear hF hW3
              obtain ⟨A5, c5, rfl⟩ := own_form (unhide HZ)
              go_wp2
              go_roundw
              case rel => exact ⟨i + 1, o.take k ++ [(i : Int)] ++ o.drop k, A5, c5, by omega, rfl, by go_num, hide ⟨ins_perm (unhide HBy).1 (unhide HKi), unhide HIn⟩, hide ⟨unhide HBz, unhide HZ⟩⟩
              case measure => simp [intOf]; omega
            · have e1 : k = i := by have := unhide HKi; omega
              have e2 : k = c := by have := unhide HKi; omega
              subst e1
              subst e2
              have bE := (Below.refl wz.heap.size wz).alloc (Nat.le_refl _) (.cells #[] 3)
              obtain ⟨WE, hWE⟩ : ∃ WE : World, wz.alloc (.cells #[] 3) = WE := ⟨_, rfl⟩
              obtain ⟨E, hE⟩ : ∃ E, wz.heap.size = E := ⟨_, rfl⟩
              have HEm := hide (show WE.ownsRow (w.heap.size) 3 1 (.slice (some ⟨E, 0, none⟩) 0 0) 0 [] from by
                rw [← hWE, ← hE]
                exact ⟨rfl, .inr ⟨wz.heap.size, 0, #[], rfl, by have := (unhide HBn).size; omega, heap_alloc_new wz _, Nat.le_refl _, Nat.zero_le _, rfl, rfl⟩⟩)
              have HX1 := hide (show Below wz.heap.size wz WE ∧ ∀ (a : Addr) (u : Value), wz.cell? a = some u → WE.cell? a = some u from by rw [← hWE]; exact ⟨bE, fun a u h => kept bE h⟩)
              have HBE := hide (show w.heap.size ≤ WE.heap.size ∧ E < WE.heap.size by rw [← hWE, ← hE, World.size_alloc]; have := (unhide HBn).size; omega)
              have HE := hide hE
              clear bE
              have HR1 := hide (show WE.ownsRow (w.heap.size) 3 1 (.slice (some ⟨E, 0, none⟩) 0 0) 0 [] from unhide HEm)
              have HB2 := hide (onward (unhide HBn) (unhide HX1).1)
              have hDr : o.drop k = [] := List.drop_eq_nil_of_le (by rw [unhide HL]; exact Nat.le_refl _)
              have HDr := hide hDr
              clear hDr HEm
              obtain ⟨W3, hW3⟩ : ∃ W3 : World, WE.alloc (.cells #[.int .i64 k] 3) = W3 := ⟨_, rfl⟩
              have b3 := (Below.refl WE.heap.size WE).alloc (Nat.le_refl _) (.cells #[.int .i64 k] 3)
              have hn3 := World.news_of_block (heap_alloc_new WE (.cells #[.int .i64 k] 3))
              rw [hW3] at b3 hn3
              obtain ⟨F, hF⟩ : ∃ F, WE.heap.size = F := ⟨_, rfl⟩
              rw [hF] at hn3
              have HN3 := hide hn3
              have HX3 := hide (show Below WE.heap.size WE W3 ∧ ∀ (j : Nat) (u : Value), wz.cell? ⟨q, j, none⟩ = some u → W3.cell? ⟨q, j, none⟩ = some u from ⟨b3, fun j u hc => kept b3 ((unhide HX1).2 _ _ hc)⟩)
              have HB3 := hide (onward (unhide HB2) b3)
              have HR3 := hide (owns_later (unhide HR1) b3)
              clear b3 hn3 HR1
              go_wp2_with (first
                | (at_builtin; refine wpList_append_grows _ rfl _ _ 23 rfl 3 i0 (.int .i64 0) 1 8 Try.underlying23 (unhide HI0) (unhide HZ0) (unhide HZ1) (unhide HZ2) rfl (by decide) (some ⟨q, 0, none⟩) k k ((o.take k).map (Value.int .i64)) rfl (fun e => by cases e) (by rw [List.length_map, List.length_take, unhide HL, Nat.min_eq_left (unhide HKi), Nat.mul_one]) (fun b e j u hu => by injection e with e; subst e; rw [Addr.add_lit, Nat.zero_add]; exact (unhide HX3).2 _ _ (unhide HCe j u (by rw [List.map_take, List.getElem?_take] at hu; split at hu <;> first | exact hu | cases hu))) ⟨F, 0, none⟩ 1 1 [.int .i64 k] rfl rfl (unhide HN3) (fun u hu => by rw [List.mem_singleton.1 hu]; rfl) (by omega) (by have := unhide HKi; unfold maxLen; omega) (by have := unhide HKi; omega) ?_; intro v4 w4 hown4 hg4; have HO4 := hide (show w4.ownsRow (w.heap.size) 3 1 v4 (k + 1) ((o.take k ++ [(k : Int)]).map (Value.int .i64)) from by rw [List.map_append]; exact own_base hown4 (by have := (unhide HB3).size; omega)); have HB4 := hide ((unhide HB3).grown hg4 (unhide HB3).size (fun j e => by cases e)); have HL4 := hide (hown4.lt); clear hown4 hg4)
                | (at_builtin; refine wpList_append_any rfl _ _ 23 rfl (w.heap.size) 3 i0 (.int .i64 0) 1 8 Try.underlying23 (unhide HI0) (unhide HZ0) (unhide HZ1) (unhide HZ2) rfl (by decide) v4 (k + 1) _ rfl (unhide HO4) (some ⟨E, 0, none⟩) 0 0 [] rfl rfl (fun hp => absurd hp (Nat.lt_irrefl _)) (fun u hu => by cases hu) (by have := unhide HKi; unfold maxLen; omega) (by have := unhide HKi; omega) (by have := (unhide HB4).size; omega) ?_; intro v5 w5 hown5 hg5 _; have HZ := hide (show w5.ownsRow (w.heap.size) 3 1 v5 (k + 1) ((o.take k ++ [(k : Int)] ++ o.drop k).map (Value.int .i64)) from by rw [unhide HDr, List.append_nil]; simpa using hown5); have HBz := hide ((unhide HB4).grown hg5 (unhide HB4).size (fun j e => by have := ((unhide HO4).lt j e).1; omega)); clear hown5 hg5))
              clear hF hW3
              obtain ⟨A5, c5, rfl⟩ := own_form (unhide HZ)
              go_wp2
              go_roundw
              case rel => exact ⟨k + 1, o.take k ++ [(k : Int)] ++ o.drop k, A5, c5, by omega, rfl, by go_num, hide ⟨ins_perm (unhide HBy).1 (unhide HKi), unhide HIn⟩, hide ⟨unhide HBz, unhide HZ⟩⟩
              case measure => simp [intOf]; omega
        · have q0 : ¬ (0 : Int) < (k : Int) := by omega
          have HK0 := hide (show k = 0 by omega)
          go_wp2_with fail
          refine wp_region_after (by kernel_rfl) (by kernel_rfl) ?_
          repeat (go_big_quiet_step (fail))
          refine wpQuiet_nil ?_
          rintro _ ⟨t, rfl⟩
          have HIn := hide (ins_by (unhide HL) (unhide HBy).1 (unhide HBy).2 (unhide HKi) (unhide HK) (.inl (unhide HK0)))
          have HOn := hide (owns_later (unhide HJ).2 t.is)
          have HBn := hide (onward (unhide HJ).1 t.is)
          generalize t.to = wz at HOn HBn ⊢
          clear t HJ
          clear q0 hk0
          rcases own_open (unhide HOn) with ⟨hl, ⟨rfl, rfl, rfl, rfl⟩ | ⟨q, rfl, hic, hcm, hcells⟩⟩
          · obtain rfl : k = 0 := unhide HK0
            clear hl
            have bE := (Below.refl wz.heap.size wz).alloc (Nat.le_refl _) (.cells #[] 3)
            obtain ⟨WE, hWE⟩ : ∃ WE : World, wz.alloc (.cells #[] 3) = WE := ⟨_, rfl⟩
            obtain ⟨E, hE⟩ : ∃ E, wz.heap.size = E := ⟨_, rfl⟩
            have HEm := hide (show WE.ownsRow (w.heap.size) 3 1 (.slice (some ⟨E, 0, none⟩) 0 0) 0 [] from by
              rw [← hWE, ← hE]
              exact ⟨rfl, .inr ⟨wz.heap.size, 0, #[], rfl, by have := (unhide HBn).size; omega, heap_alloc_new wz _, Nat.le_refl _, Nat.zero_le _, rfl, rfl⟩⟩)
            have HX1 := hide (show Below wz.heap.size wz WE ∧ ∀ (a : Addr) (u : Value), wz.cell? a = some u → WE.cell? a = some u from by rw [← hWE]; exact ⟨bE, fun a u h => kept bE h⟩)
            have HBE := hide (show w.heap.size ≤ WE.heap.size ∧ E < WE.heap.size by rw [← hWE, ← hE, World.size_alloc]; have := (unhide HBn).size; omega)
            have HE := hide hE
            clear bE HEm
            have hge := grownCap_ge WE 1 0 3
            have hle := grownCap_le_maxLen WE 1 0 3 (by unfold maxLen; omega)
            have b4 := (Below.refl WE.heap.size WE).alloc (Nat.le_refl _) (.cells #[.int .i64 0] 3)
            have b5 := ((Below.refl (WE.alloc (.cells #[.int .i64 0] 3)).heap.size (WE.alloc (.cells #[.int .i64 0] 3))).alloc (Nat.le_refl _) (.cells (#[.int .i64 0] ++ Builtin.zeroCells #[.int .i64 0] (grownCap WE 1 0 3 - 1)) 3)).drew
            have HZ := hide (show ((((WE.alloc (.cells #[.int .i64 0] 3)).alloc (.cells (#[.int .i64 0] ++ Builtin.zeroCells #[.int .i64 0] (grownCap WE 1 0 3 - 1)) 3)).drew).ownsRow w.heap.size 3 1 (.slice (some ⟨WE.heap.size + 1, 0, none⟩) 1 (grownCap WE 1 0 3)) 1 (([0] : List Int).map (Value.int .i64))) from
              ⟨rfl, .inr ⟨WE.heap.size + 1, _, _, rfl, by have := (unhide HBE).1; omega, by
                have h := heap_alloc_new (WE.alloc (.cells #[.int .i64 0] 3)) (.cells (#[.int .i64 0] ++ Builtin.zeroCells #[.int .i64 0] (grownCap WE 1 0 3 - 1)) 3)
                rw [World.size_alloc] at h
                exact h, hge, hle, by rw [Array.size_append, size_zeroCells]; simp only [List.size_toArray, List.length_cons, List.length_nil]; omega, by simp⟩⟩)
            have HBz := hide (onward (onward (onward (unhide HBn) (unhide HX1).1) b4) b5)
            have hge' : 1 ≤ (Question.appendCap 1 0 3).cut (WE.tape WE.drawn (Question.appendCap 1 0 3)) := hge
            clear hge hle b4 b5
            go_wp2_with fail
            go_roundw
            case rel => exact ⟨1, [0], some ⟨WE.heap.size + 1, 0, none⟩, _, by omega, rfl, rfl, hide ⟨List.Perm.refl _, List.pairwise_singleton _ _⟩, hide ⟨unhide HBz, unhide HZ⟩⟩
            case measure => simp [intOf]; omega
          · clear hl
            have k1 : (k : Int) ≤ (i : Int) := by have := unhide HKi; omega
            have k2 : (k : Int) ≤ (c : Int) := by have := unhide HKi; omega
            have HCe := hide (show ∀ j u, (o.map (Value.int .i64))[j]? = some u → wz.cell? ⟨q, j, none⟩ = some u from hcells)
            have HQ := hide (show q < wz.heap.size from ((unhide HOn).lt q rfl).2)
            clear hcells
            rcases Nat.lt_or_ge k c with hkc | hkc
            · have hkc2 : (k : Int) < (c : Int) := by omega
              have bE := (Below.refl wz.heap.size wz).alloc (Nat.le_refl _) (.cells #[] 3)
              obtain ⟨WE, hWE⟩ : ∃ WE : World, wz.alloc (.cells #[] 3) = WE := ⟨_, rfl⟩
              obtain ⟨E, hE⟩ : ∃ E, wz.heap.size = E := ⟨_, rfl⟩
              have HEm := hide (show WE.ownsRow (w.heap.size) 3 1 (.slice (some ⟨E, 0, none⟩) 0 0) 0 [] from by
                rw [← hWE, ← hE]
                exact ⟨rfl, .inr ⟨wz.heap.size, 0, #[], rfl, by have := (unhide HBn).size; omega, heap_alloc_new wz _, Nat.le_refl _, Nat.zero_le _, rfl, rfl⟩⟩)
              have HX1 := hide (show Below wz.heap.size wz WE ∧ ∀ (a : Addr) (u : Value), wz.cell? a = some u → WE.cell? a = some u from by rw [← hWE]; exact ⟨bE, fun a u h => kept bE h⟩)
              have HBE := hide (show w.heap.size ≤ WE.heap.size ∧ E < WE.heap.size by rw [← hWE, ← hE, World.size_alloc]; have := (unhide HBn).size; omega)
              have HE := hide hE
              clear bE
              go_wp2_with (at_builtin; refine wpList_copyG (H := w.heap.size) (e := E) (A := some ⟨q, k, none⟩) (xs := (o.drop k).map (Value.int .i64)) rfl _ _ rfl rfl rfl rfl Try.underlying23 (unhide HI0) (unhide HZ0) (unhide HZ1) (unhide HZ2) rfl (by decide) (by rw [List.length_map, List.length_drop, unhide HL, Nat.mul_one]) (by unfold maxLen; omega) (by omega) ints_one (unhide HBE).1 (unhide HEm) (fun _ => ⟨q, k, rfl, fun j u hu => (unhide HX1).2 _ _ (unhide HCe (k + j) u (by rw [List.map_drop, List.getElem?_drop] at hu; exact hu))⟩) ?_)
              intro A1 c1 w2 hown1 hg1
              have HR1 := hide (show w2.ownsRow (w.heap.size) 3 1 (.slice A1 (i - k) c1) (i - k) ((o.drop k).map (Value.int .i64)) from by first | exact hown1 | (rw [List.map_drop]; exact hown1))
              have HG1 := hide (show ∀ (a : Addr) (u : Value), a.block ≠ E → wz.cell? a = some u → w2.cell? a = some u from fun a u hne hc => hg1.cell ((unhide HX1).2 a u hc) (by simpa using hne))
              have HB2 := hide ((onward (unhide HBn) (unhide HX1).1).grown hg1 (onward (unhide HBn) (unhide HX1).1).size (fun j e => by injection e with e; have := unhide HE; have := (unhide HBn).size; omega))
              clear hown1 hg1 HEm hWE hE
              obtain ⟨W3, hW3⟩ : ∃ W3 : World, w2.alloc (.cells #[.int .i64 i] 3) = W3 := ⟨_, rfl⟩
              have b3 := (Below.refl w2.heap.size w2).alloc (Nat.le_refl _) (.cells #[.int .i64 i] 3)
              have hn3 := World.news_of_block (heap_alloc_new w2 (.cells #[.int .i64 i] 3))
              rw [hW3] at b3 hn3
              obtain ⟨F, hF⟩ : ∃ F, w2.heap.size = F := ⟨_, rfl⟩
              rw [hF] at hn3
              have HN3 := hide hn3
              have HX3 := hide (show Below w2.heap.size w2 W3 ∧ ∀ (j : Nat) (u : Value), wz.cell? ⟨q, j, none⟩ = some u → W3.cell? ⟨q, j, none⟩ = some u from ⟨b3, fun j u hc => kept b3 (unhide HG1 _ _ (by have := unhide HQ; have := unhide HE; simp only []; omega) hc)⟩)
              have HB3 := hide (onward (unhide HB2) b3)
              have HR3 := hide (owns_later (unhide HR1) b3)
              clear b3 hn3 HR1
              go_wp2_with (first
                | (at_builtin; refine wpList_append_grows _ rfl _ _ 23 rfl 3 i0 (.int .i64 0) 1 8 Try.underlying23 (unhide HI0) (unhide HZ0) (unhide HZ1) (unhide HZ2) rfl (by decide) (some ⟨q, 0, none⟩) k k ((o.take k).map (Value.int .i64)) rfl (fun e => by cases e) (by rw [List.length_map, List.length_take, unhide HL, Nat.min_eq_left (unhide HKi), Nat.mul_one]) (fun b e j u hu => by injection e with e; subst e; rw [Addr.add_lit, Nat.zero_add]; exact (unhide HX3).2 _ _ (unhide HCe j u (by rw [List.map_take, List.getElem?_take] at hu; split at hu <;> first | exact hu | cases hu))) ⟨F, 0, none⟩ 1 1 [.int .i64 i] rfl rfl (unhide HN3) (fun u hu => by rw [List.mem_singleton.1 hu]; rfl) (by omega) (by have := unhide HKi; unfold maxLen; omega) (by have := unhide HKi; omega) ?_; intro v4 w4 hown4 hg4; have HO4 := hide (show w4.ownsRow (w.heap.size) 3 1 v4 (k + 1) ((o.take k ++ [(i : Int)]).map (Value.int .i64)) from by rw [List.map_append]; exact own_base hown4 (by have := (unhide HB3).size; omega)); have HB4 := hide ((unhide HB3).grown hg4 (unhide HB3).size (fun j e => by cases e)); have HR4 := hide ((unhide HR3).kept hg4 (Classical.em _)); have HL4 := hide (hown4.lt); clear hown4 hg4)
                | (at_builtin; refine wpList_append_any rfl _ _ 23 rfl (w.heap.size) 3 i0 (.int .i64 0) 1 8 Try.underlying23 (unhide HI0) (unhide HZ0) (unhide HZ1) (unhide HZ2) rfl (by decide) v4 (k + 1) _ rfl (unhide HO4) A1 (i - k) c1 ((o.drop k).map (Value.int .i64)) rfl (by rw [List.length_map, List.length_drop, unhide HL, Nat.mul_one]) (fun hp => by rcases own_open (unhide HR4) with ⟨_, ⟨_, e0, _, _⟩ | ⟨q1, e1, _, _, hc1⟩⟩ <;> first | omega | exact ⟨q1, 0, e1, fun j u hu => by rw [Nat.zero_add]; exact hc1 j u hu⟩) ints_one (by have := unhide HKi; unfold maxLen; omega) (by have := unhide HKi; omega) (by have := (unhide HB4).size; omega) ?_; intro v5 w5 hown5 hg5 _; have HZ := hide (show w5.ownsRow (w.heap.size) 3 1 v5 (i + 1) ((o.take k ++ [(i : Int)] ++ o.drop k).map (Value.int .i64)) from by rw [List.map_append]; have e9 : i + 1 = k + 1 + (i - k) := (by have := unhide HKi; omega); rw [e9]; exact hown5); have HBz := hide ((unhide HB4).grown hg5 (unhide HB4).size (fun j e => by have := ((unhide HO4).lt j e).1; omega)); clear hown5 hg5))
              clear hF hW3
              obtain ⟨A5, c5, rfl⟩ := own_form (unhide HZ)
              go_wp2
              go_roundw
              case rel => exact ⟨i + 1, o.take k ++ [(i : Int)] ++ o.drop k, A5, c5, by omega, rfl, by go_num, hide ⟨ins_perm (unhide HBy).1 (unhide HKi), unhide HIn⟩, hide ⟨unhide HBz, unhide HZ⟩⟩
              case measure => simp [intOf]; omega
            · have e1 : k = i := by have := unhide HKi; omega
              have e2 : k = c := by have := unhide HKi; omega
              subst e1
              subst e2
              have bE := (Below.refl wz.heap.size wz).alloc (Nat.le_refl _) (.cells #[] 3)
              obtain ⟨WE, hWE⟩ : ∃ WE : World, wz.alloc (.cells #[] 3) = WE := ⟨_, rfl⟩
              obtain ⟨E, hE⟩ : ∃ E, wz.heap.size = E := ⟨_, rfl⟩
              have HEm := hide (show WE.ownsRow (w.heap.size) 3 1 (.slice (some ⟨E, 0, none⟩) 0 0) 0 [] from by
                rw [← hWE, ← hE]
                exact ⟨rfl, .inr ⟨wz.heap.size, 0, #[], rfl, by have := (unhide HBn).size; omega, heap_alloc_new wz _, Nat.le_refl _, Nat.zero_le _, rfl, rfl⟩⟩)
              have HX1 := hide (show Below wz.heap.size wz WE ∧ ∀ (a : Addr) (u : Value), wz.cell? a = some u → WE.cell? a = some u from by rw [← hWE]; exact ⟨bE, fun a u h => kept bE h⟩)
              have HBE := hide (show w.heap.size ≤ WE.heap.size ∧ E < WE.heap.size by rw [← hWE, ← hE, World.size_alloc]; have := (unhide HBn).size; omega)
              have HE := hide hE
              clear bE
              have HR1 := hide (show WE.ownsRow (w.heap.size) 3 1 (.slice (some ⟨E, 0, none⟩) 0 0) 0 [] from unhide HEm)
              have HB2 := hide (onward (unhide HBn) (unhide HX1).1)
              have hDr : o.drop k = [] := List.drop_eq_nil_of_le (by rw [unhide HL]; exact Nat.le_refl _)
              have HDr := hide hDr
              clear hDr HEm
              obtain ⟨W3, hW3⟩ : ∃ W3 : World, WE.alloc (.cells #[.int .i64 k] 3) = W3 := ⟨_, rfl⟩
              have b3 := (Below.refl WE.heap.size WE).alloc (Nat.le_refl _) (.cells #[.int .i64 k] 3)
              have hn3 := World.news_of_block (heap_alloc_new WE (.cells #[.int .i64 k] 3))
              rw [hW3] at b3 hn3
              obtain ⟨F, hF⟩ : ∃ F, WE.heap.size = F := ⟨_, rfl⟩
              rw [hF] at hn3
              have HN3 := hide hn3
              have HX3 := hide (show Below WE.heap.size WE W3 ∧ ∀ (j : Nat) (u : Value), wz.cell? ⟨q, j, none⟩ = some u → W3.cell? ⟨q, j, none⟩ = some u from ⟨b3, fun j u hc => kept b3 ((unhide HX1).2 _ _ hc)⟩)
              have HB3 := hide (onward (unhide HB2) b3)
              have HR3 := hide (owns_later (unhide HR1) b3)
              clear b3 hn3 HR1
              go_wp2_with (first
                | (at_builtin; refine wpList_append_grows _ rfl _ _ 23 rfl 3 i0 (.int .i64 0) 1 8 Try.underlying23 (unhide HI0) (unhide HZ0) (unhide HZ1) (unhide HZ2) rfl (by decide) (some ⟨q, 0, none⟩) k k ((o.take k).map (Value.int .i64)) rfl (fun e => by cases e) (by rw [List.length_map, List.length_take, unhide HL, Nat.min_eq_left (unhide HKi), Nat.mul_one]) (fun b e j u hu => by injection e with e; subst e; rw [Addr.add_lit, Nat.zero_add]; exact (unhide HX3).2 _ _ (unhide HCe j u (by rw [List.map_take, List.getElem?_take] at hu; split at hu <;> first | exact hu | cases hu))) ⟨F, 0, none⟩ 1 1 [.int .i64 k] rfl rfl (unhide HN3) (fun u hu => by rw [List.mem_singleton.1 hu]; rfl) (by omega) (by have := unhide HKi; unfold maxLen; omega) (by have := unhide HKi; omega) ?_; intro v4 w4 hown4 hg4; have HO4 := hide (show w4.ownsRow (w.heap.size) 3 1 v4 (k + 1) ((o.take k ++ [(k : Int)]).map (Value.int .i64)) from by rw [List.map_append]; exact own_base hown4 (by have := (unhide HB3).size; omega)); have HB4 := hide ((unhide HB3).grown hg4 (unhide HB3).size (fun j e => by cases e)); have HL4 := hide (hown4.lt); clear hown4 hg4)
                | (at_builtin; refine wpList_append_any rfl _ _ 23 rfl (w.heap.size) 3 i0 (.int .i64 0) 1 8 Try.underlying23 (unhide HI0) (unhide HZ0) (unhide HZ1) (unhide HZ2) rfl (by decide) v4 (k + 1) _ rfl (unhide HO4) (some ⟨E, 0, none⟩) 0 0 [] rfl rfl (fun hp => absurd hp (Nat.lt_irrefl _)) (fun u hu => by cases hu) (by have := unhide HKi; unfold maxLen; omega) (by have := unhide HKi; omega) (by have := (unhide HB4).size; omega) ?_; intro v5 w5 hown5 hg5 _; have HZ := hide (show w5.ownsRow (w.heap.size) 3 1 v5 (k + 1) ((o.take k ++ [(k : Int)] ++ o.drop k).map (Value.int .i64)) from by rw [unhide HDr, List.append_nil]; simpa using hown5); have HBz := hide ((unhide HB4).grown hg5 (unhide HB4).size (fun j e => by have := ((unhide HO4).lt j e).1; omega)); clear hown5 hg5))
              clear hF hW3
              obtain ⟨A5, c5, rfl⟩ := own_form (unhide HZ)
              go_wp2
              go_roundw
              case rel => exact ⟨k + 1, o.take k ++ [(k : Int)] ++ o.drop k, A5, c5, by omega, rfl, by go_num, hide ⟨ins_perm (unhide HBy).1 (unhide HKi), unhide HIn⟩, hide ⟨unhide HBz, unhide HZ⟩⟩
              case measure => simp [intOf]; omega
    · obtain rfl : i = jobs.length := by omega
      have il : ¬ (jobs.length : Int) < (jobs.length : Int) := by omega
      go_wp2
      go_ret
      exact ⟨o, A, c, rfl, ⟨(unhide HBy).1, (unhide HBy).2⟩, (unhide HP).2, (unhide HP).1⟩
end Go.Proofs.Ytjgjgilpebeelaa
