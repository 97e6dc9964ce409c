/-
  Custody (layer 16): the program's Revoke; what the laws want of the program holds.
-/
import Derived.Test.YtbjpcajhceapkaaCusG
namespace Go.Proofs.Ytbjpcajhceapkaa
open Go.RowKit

theorem flat_del {α : Type} (f : α → List Value) (n : Nat) (hf : ∀ x, (f x).length = n) (l : List α) (k : Nat) (hk : k < l.length) : (l.flatMap f).take (k * n) ++ (l.flatMap f).drop ((k + 1) * n) = (l.take k ++ l.drop (k + 1)).flatMap f := by
  rw [(flat_take f n hf l k (by omega)).1, (flat_take f n hf l (k + 1) (by omega)).2, List.flatMap_append]
set_option maxHeartbeats 4000000 in
set_option maxRecDepth 100000 in
theorem prevoke_any (b : Nat) (l : List Se) (bag : Int) (A : Option Addr) (c : Nat) (w : World) (hv : ValQ l) (h : SesIn b w A l) :
    Calls Try.prog 13 #[cusV A l.length c, .int .i64 bag] w (GivesQ w (revL l bag) (revE l bag)) := by
  obtain ⟨W1, hW⟩ : ∃ W1 : World, (w.alloc (cusO A l.length c)).alloc (cusO none 0 0) = W1 := ⟨_, rfl⟩
  have HS := hide (show QS w b l A c W1 from by rw [← hW]; exact QS.start h)
  have HBX := hide (unhide HS).bx
  have HV := hide hv
  have HZ := hide hv.len
  clear hv h
  go_enter Try.func13, Try.ntmps13
  go_upto_region 2 with (first
    | (refine wpList_loadCu (unhide HBX) rfl _ rfl rfl ?_)
    | (go_at_call 25; refine (qfind_any b l bag A c _ (unhide HV) (unhide HS).ses).mono ?_; rintro e w1 ⟨rfl, hb1⟩; have HB1 := hide hb1; clear hb1))
  have HS1 := hide ((unhide HS).below (unhide HB1))
  clear HBX HB1 HS hW
  have HBX := hide (unhide HS1).bx
  have HRS := hide (unhide HS1).rs
  have z0 : w1.cell? ⟨w.heap.size, 0, none⟩ = some (.slice A l.length c) := by rw [Lib.cell_of_heap (unhide HBX)]; rfl
  cases hf : hasSe l bag with
  | false =>
    have HE := hide (show revE l bag = 6 from by unfold revE; rw [hf]; rfl)
    have HE2 := hide (show revL l bag = [] from by unfold revL; rw [unhide HE]; rfl)
    go_wp2_with (refine wpList_storeCu (A := none) (n := 0) (c := 0) (unhide HRS) rfl _ _ rfl rfl rfl ?_)
    refine bodyPost_ret (v := .tuple #[cusV none 0 0, .int .i64 6]) (results_row2' rfl _ _ (w.heap.size + 1) _ _ _ _ _ rfl rfl (setRow_heap w1 (w.heap.size + 1) _ #[.slice none 0 0] _ _ (unhide HRS)) Try.underlying27 rfl infoCu) rfl ?_
    exact givesQ_no (unhide HS1) (unhide HE2) (unhide HE)
  | true =>
    have HE := hide (show revE l bag = 0 from by unfold revE; rw [hf]; rfl)
    obtain ⟨hk, hcut⟩ := delq_cut (unhide HV).asc hf
    have HE2 := hide (show revL l bag = l.take (lbF (bagQ bag) l) ++ l.drop (lbF (bagQ bag) l + 1) from by unfold revL; rw [unhide HE, if_pos rfl]; exact hcut)
    have HFI := hide (flat_del Se.cs 2 Se.cs_len l _ hk)
    have HK := hide hk
    have HLT := hide (unhide HS1).lt
    obtain ⟨k, hkk⟩ : ∃ k, lbF (bagQ bag) l = k := ⟨_, rfl⟩
    rw [hkk] at HE2 HK HFI ⊢
    have hz40 := unhide HZ
    have hkl := unhide HK
    have hw1 : IntKind.i64.wrap ((k : Int) + 1) = (k : Int) + 1 := by rw [IntKind.wrap_i64]; omega
    clear hk hkk hcut hkl
    go_wp2_with (first
      | (go_at_call 28; refine (cloneQ_any b A c l _ (unhide HS1).ses (by have := unhide HZ; omega)).mono ?_; rintro e w2 ⟨A2, c2, rfl, ho2, hb2⟩
         obtain ⟨g2, cur2, rfl, -⟩ := own_cells ho2 (by have := unhide HK; omega)
         have HO2 := hide ho2; have HB2 := hide hb2; clear ho2 hb2)
      | (go_at_call 29; refine (delQ_any w1.heap.size g2 l.length c2 k (l.flatMap Se.cs) _ (unhide HO2) (unhide HK) (by have := unhide HZ; omega) se_one).mono ?_
         rintro e w4 ⟨rfl, ho4, hg4⟩; have HO4 := hide ho4; have HF4 := hide ((unhide HS1).after (unhide HB2) (unhide HO2) (Below.refl _ _) hg4); clear ho4 hg4)
      | (refine wpList_storeCu (A := some ⟨g2, 0, none⟩) (n := l.length - 1) (c := c2) (unhide HF4).2 rfl _ _ rfl rfl rfl ?_))
    refine bodyPost_ret (v := .tuple #[cusV (some ⟨g2, 0, none⟩) (l.length - 1) c2, .int .i64 0]) (results_row2' rfl _ _ (w.heap.size + 1) _ _ _ _ _ rfl rfl (setRow_heap w4 (w.heap.size + 1) _ #[.slice (some ⟨g2, 0, none⟩) (l.length - 1) c2] _ _ (unhide HF4).2) Try.underlying27 rfl infoCu) rfl ?_
    exact givesQ_yes (unhide HE2) (unhide HE) (unhide HF4).1 (unhide HLT) (by have := unhide HK; rw [List.length_append, List.length_take, List.length_drop]; omega) (by rw [← unhide HFI]; exact unhide HO4)
theorem cus_ok : CusOk where
  clear := fun b l bag im A c w hv h _ => pclear_any b l bag im A c w hv h
  revoke := fun b l bag A c w hv h _ => prevoke_any b l bag A c w hv h
  cleared := fun b l A c w hv h _ => qcleared_any b l A c w hv h
  openv := fun b t s X Y A A' c c' w hX hY h h' => popen_any b t s X Y A A' c c' w hX hY h h'
end Go.Proofs.Ytbjpcajhceapkaa
