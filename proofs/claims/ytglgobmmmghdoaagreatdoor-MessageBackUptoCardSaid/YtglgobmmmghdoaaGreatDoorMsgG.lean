/-
  Contracts of all and of Validate of messages.
-/
import Derived.Test.YtglgobmmmghdoaaGreatDoorMsgE
import Derived.Test.YtglgobmmmghdoaaGreatDoorMsgF
import Derived.Lib.OthersKept

/- MsgG: Contract of all: a predicate at each key of a message's kind. -/
namespace Go.Proofs.YtglgobmmmghdoaaGreatDoor
open Go.RowKit

/-- The keys of a kind, as the program's table has them. -/
def keyS (k : Nat) : ByteArray := if k = 1 then ⟨#[86, 70, 79, 78, 83, 87, 80, 88]⟩ else if k = 2 then ⟨#[86, 73, 70, 79, 78, 83, 87, 80, 88]⟩ else if k = 3 then ⟨#[86, 78, 74]⟩ else if k = 4 then ⟨#[86, 70, 78]⟩ else if k = 5 then ⟨#[86, 70, 66]⟩ else ⟨#[]⟩
/-- The program's table of keys. -/
def Keys (w : World) : Prop := ∀ i, i < 6 → w.cell? ⟨1, i, none⟩ = some (.string (keyS i))
theorem Keys.keep {w w1 : World} (h : Keys w) (hb : Below w.heap.size w w1) : Keys w1 := fun i hi => kept hb (h i hi)
theorem keys_list {k : Nat} (h1 : 1 ≤ k) (h5 : k ≤ 5) : keysL (k : Int) = (keyS k).data.toList.map (fun c => (c.toNat : Int)) := by
  have : k = 1 ∨ k = 2 ∨ k = 3 ∨ k = 4 ∨ k = 5 := by omega
  rcases this with rfl | rfl | rfl | rfl | rfl <;> decide +kernel
theorem keys_ascii {k : Nat} (h1 : 1 ≤ k) (h5 : k ≤ 5) : ∀ c ∈ (keyS k).data.toList, c.toNat < 128 := by
  have : k = 1 ∨ k = 2 ∨ k = 3 ∨ k = 4 ∨ k = 5 := by omega
  rcases this with rfl | rfl | rfl | rfl | rfl <;> decide +kernel
theorem keys_few {k : Nat} : (keyS k).size ≤ 9 := by
  unfold keyS; split <;> (try split) <;> (try split) <;> (try split) <;> (try split) <;> decide
theorem keys_mem {k : Nat} (h1 : 1 ≤ k) (h5 : k ≤ 5) : ∀ x ∈ keysL (k : Int), x ∈ [86, 73, 70, 79, 78, 83, 87, 80, 88, 74, 66] := by
  have : k = 1 ∨ k = 2 ∨ k = 3 ∨ k = 4 ∨ k = 5 := by omega
  rcases this with rfl | rfl | rfl | rfl | rfl <;> decide +kernel

/-- A predicate of messages and keys, in every world that holds the message's lists. -/
def HoldsAt (F : FuncId) (g : Msg → Int → Bool) (b : Nat) (m : Msg) (A L : Option Addr) (c d : Nat) : Prop :=
  ∀ (w : World) (x : Int), x ∈ [86, 73, 70, 79, 78, 83, 87, 80, 88, 74, 66] → LegsIn b w A m.onw → NumsIn b w L m.lst →
    Calls Tryz.prog F #[msgV m A c L d, .int .i32 x] w fun e w' => e = .returned (.bool (g m x)) ∧ Below w.heap.size w w'
theorem formed_at (b : Nat) (m : Msg) (A L : Option Addr) (c d : Nat) (hz : m.onw.length ≤ 1000000000) (hz2 : m.lst.length ≤ 1000000000) : HoldsAt 36 formB b m A L c d := fun w x hx h1 h2 => by
  simp only [List.mem_cons, List.not_mem_nil, or_false] at hx
  rcases hx with rfl | rfl | rfl | rfl | rfl | rfl | rfl | rfl | rfl | rfl | rfl
  · exact form_86 b m A L c d w hz hz2 h1 h2
  · exact form_73 b m A L c d w hz hz2 h1 h2
  · exact form_70 b m A L c d w hz hz2 h1 h2
  · exact form_79 b m A L c d w hz hz2 h1 h2
  · exact form_78 b m A L c d w hz hz2 h1 h2
  · exact form_83 b m A L c d w hz hz2 h1 h2
  · exact form_87 b m A L c d w hz hz2 h1 h2
  · exact form_80 b m A L c d w hz hz2 h1 h2
  · exact form_88 b m A L c d w hz hz2 h1 h2
  · exact form_74 b m A L c d w hz hz2 h1 h2
  · exact form_66 b m A L c d w hz hz2 h1 h2
theorem ranged_at (b : Nat) (m : Msg) (A L : Option Addr) (c d : Nat) (hz : m.onw.length ≤ 1000000000) (hz2 : m.lst.length ≤ 1000000000) : HoldsAt 38 rangB b m A L c d := fun w x hx h1 h2 => by
  simp only [List.mem_cons, List.not_mem_nil, or_false] at hx
  rcases hx with rfl | rfl | rfl | rfl | rfl | rfl | rfl | rfl | rfl | rfl | rfl
  · exact rang_86 b m A L c d w hz hz2 h1 h2
  · exact rang_73 b m A L c d w hz hz2 h1 h2
  · exact rang_70 b m A L c d w hz hz2 h1 h2
  · exact rang_79 b m A L c d w hz hz2 h1 h2
  · exact rang_78 b m A L c d w hz hz2 h1 h2
  · exact rang_83 b m A L c d w hz hz2 h1 h2
  · exact rang_87 b m A L c d w hz hz2 h1 h2
  · exact rang_80 b m A L c d w hz hz2 h1 h2
  · exact rang_88 b m A L c d w hz hz2 h1 h2
  · exact rang_74 b m A L c d w hz hz2 h1 h2
  · exact rang_66 b m A L c d w hz hz2 h1 h2

set_option maxHeartbeats 4000000 in
theorem all_form (b : Nat) (m : Msg) (A L : Option Addr) (c d : Nat) (w : World) (hk : kindB m = true) (hK : Keys w) (hF : HoldsAt 36 formB b m A L c d) (h1 : LegsIn b w A m.onw) (h2 : NumsIn b w L m.lst) :
    Calls Tryz.prog 35 #[msgV m A c L d, .func (.func 36) #[] #[]] w fun e w' => e = .returned (.bool ((keysL m.kind).all (formB m))) ∧ Below w.heap.size w w' := by
  obtain ⟨k0, k5⟩ := inB_iff.1 (show inB m.kind 1 5 = true from hk)
  obtain ⟨n, hn⟩ := Int.eq_ofNat_of_zero_le (show 0 ≤ m.kind by omega)
  have n1 : 1 ≤ n := by omega
  have n5 : n ≤ 5 := by omega
  obtain ⟨W1, hW⟩ : ∃ W1 : World, w.alloc (msgO m A c L d) = W1 := ⟨_, rfl⟩
  have b0 : Below w.heap.size w W1 := by rw [← hW]; exact (Below.refl _ _).alloc (Nat.le_refl _) _
  have hz : W1.heap.size = w.heap.size + 1 := by rw [← hW, World.size_alloc]
  have hbox : W1.heap[w.heap.size]? = some (msgO m A c L d) := by rw [← hW]; exact heap_alloc_new w _
  have z0 : W1.cell? ⟨w.heap.size, 0, none⟩ = some (.int .i64 (n : Int)) := by rw [Lib.cell_of_heap hbox, ← hn]; rfl
  have q := hK.keep b0 n (by omega)
  have t1 : (0 : Int) ≤ (n : Int) := by omega
  have t2 : (n : Int) < 6 := by omega
  have HK := hide (show keysL m.kind = (keyS n).data.toList.map (fun c => (c.toNat : Int)) by rw [hn]; exact keys_list n1 n5)
  have HA := hide (keys_ascii n1 n5)
  have HM := hide (show ∀ x ∈ keysL m.kind, x ∈ [86, 73, 70, 79, 78, 83, 87, 80, 88, 74, 66] by rw [hn]; exact keys_mem n1 n5)
  have hfew : (keyS n).size ≤ 9 := keys_few
  generalize keyS n = s at *
  have HF := hide hF
  have H1 := hide (h1.keep b0)
  have H2 := hide (h2.keep b0)
  have HB := hide b0
  have HZ := hide hz
  have HX := hide hbox
  clear hF h1 h2 b0 hz hbox hK hk k0 k5 hn
  go_enter Tryz.func35, Tryz.ntmps35
  go_wp2
  go_loopw [6] (fun _ wr => ∃ k : Nat, k ≤ s.size ∧ wr.heap[W1.heap.size]? = some (.stringIter s k) ∧ Below W1.heap.size W1 wr ∧ Hid (((keysL m.kind).take k).all (formB m) = true)) (fun _ wr => s.size - wr.iterPos W1.heap.size)
  case atStart => exact ⟨0, Nat.zero_le _, World.iter_heap _ _ _, (Below.refl _ _).alloc (Nat.le_refl _) _, Lib.hid rfl⟩
  case round =>
    obtain ⟨k, hk, hit, hb, hd⟩ := hrel
    obtain ⟨wo, rfl⟩ : ∃ wo : World, wo = wr := ⟨_, rfl⟩
    have hpos : wo.iterPos W1.heap.size = k := by unfold World.iterPos; rw [hit]
    have HP0 := hide hpos
    by_cases hlt : k < s.size
    · have ha : (s[k]'hlt).toNat < 128 := unhide HA _ (by rw [← byte_at hlt, at_k (by simpa using hlt)]; exact List.getElem_mem _)
      have hnx : ∀ ty, (Instr.next (.pointer (some ⟨W1.heap.size, 0, none⟩)) true ty).run Tryz.prog wo = _ := fun ty => Lib.run_next_ascii_at wo W1.heap.size s k ty hit hlt ha
      obtain ⟨wa, hwa⟩ : ∃ wa : World, wo.iterAt W1.heap.size s (k + 1) = wa := ⟨_, rfl⟩
      have hsz : W1.heap.size < wo.heap.size := by
        have := Array.getElem?_eq_some_iff.1 hit
        exact this.1
      have hia : wa.heap[W1.heap.size]? = some (.stringIter s (k + 1)) := by rw [← hwa]; exact Lib.iterAt_heap wo _ s k _ hit
      have hsa : W1.heap.size < wa.heap.size := by rw [← hwa, Lib.iterAt_size]; exact hsz
      have hba : Below W1.heap.size W1 wa := by rw [← hwa]; exact Lib.below_iterAt hb (Nat.le_refl _) _ _
      have hxa : wa.heap[w.heap.size]? = some (msgO m A c L d) := by rw [hba.block _ (by have := unhide HZ; omega)]; exact unhide HX
      have hlen : k < (keysL m.kind).length := by rw [unhide HK, List.length_map, size_list]; exact hlt
      have hat : (keysL m.kind).getD k 0 = ((s[k]'hlt).toNat : Int) := by
        rw [unhide HK, at_k (by rw [List.length_map, size_list]; exact hlt), List.getElem_map]
        rw [← byte_at hlt, at_k (by rw [size_list]; exact hlt)]
      have hmem : ((s[k]'hlt).toNat : Int) ∈ keysL m.kind := by rw [← hat, at_k hlen]; exact List.getElem_mem _
      have HIn := hide (unhide HM _ hmem)
      have HP := hide (show formB m ((s[k]'hlt).toNat : Int) = true → ((keysL m.kind).take (k + 1)).all (formB m) = true from fun h => all_step (d := (0 : Int)) hlen hd.out (by rw [hat]; exact h))
      have HQ := hide (show formB m ((s[k]'hlt).toNat : Int) = false → (keysL m.kind).all (formB m) = false from fun h => all_no (d := (0 : Int)) hlen (by rw [hat]; exact h))
      have L1 := hide ((unhide H1).keep hba)
      have L2 := hide ((unhide H2).keep hba)
      have HIA := hide hia
      have HSA := hide hsa
      have HBA := hide hba
      have HXA := hide hxa
      have HIT := hide hit
      clear hit hb hsz hia hsa hba hxa hlen hat hmem ha hpos
      generalize ((s[k]'hlt).toNat : Int) = x at *
      cases hp : formB m x with
      | true =>
        go_wp2_with (first
          | (refine wpList_loadM (unhide HXA) rfl _ rfl rfl ?_)
          | (go_at_call 36; refine (unhide HF wa x (unhide HIn) (unhide L1) (unhide L2)).mono ?_; rw [hp]; rintro e w1 ⟨rfl, hb1⟩; have HB1 := hide hb1; clear hb1))
        go_roundw
        case rel => exact ⟨k + 1, by omega, by rw [(unhide HB1).block _ (unhide HSA)]; exact unhide HIA, (unhide HBA).trans ((unhide HB1).mono (Nat.le_of_lt (unhide HSA))), Lib.hid (unhide HP hp)⟩
        case measure =>
          have e1 := unhide HP0
          have e2 : w1.iterPos W1.heap.size = k + 1 := by unfold World.iterPos; rw [(unhide HB1).block _ (unhide HSA), unhide HIA]
          rw [e1, e2]; omega
      | false =>
        go_wp2_with (first
          | (refine wpList_loadM (unhide HXA) rfl _ rfl rfl ?_)
          | (go_at_call 36; refine (unhide HF wa x (unhide HIn) (unhide L1) (unhide L2)).mono ?_; rw [hp]; rintro e w1 ⟨rfl, hb1⟩; have HB1 := hide hb1; clear hb1))
        go_ret
        exact ⟨ret_bool (unhide HQ hp).symm, (unhide HB).trans (((unhide HBA).trans ((unhide HB1).mono (Nat.le_of_lt (unhide HSA)))).mono (unhide HB).size)⟩
    · have hnx : ∀ ty, (Instr.next (.pointer (some ⟨W1.heap.size, 0, none⟩)) true ty).run Tryz.prog wo = _ := fun ty => Lib.run_next_end_at wo W1.heap.size s k ty hit hlt
      have HE := hide (show (keysL m.kind).all (formB m) = true from all_all (by rw [unhide HK, List.length_map, size_list]; omega) hd.out)
      have HBO := hide hb
      clear hb hit hpos
      go_wp2
      go_ret
      exact ⟨ret_bool (unhide HE).symm, (unhide HB).trans ((unhide HBO).mono (unhide HB).size)⟩

set_option maxHeartbeats 4000000 in
theorem all_rang (b : Nat) (m : Msg) (A L : Option Addr) (c d : Nat) (w : World) (hk : kindB m = true) (hK : Keys w) (hF : HoldsAt 38 rangB b m A L c d) (h1 : LegsIn b w A m.onw) (h2 : NumsIn b w L m.lst) :
    Calls Tryz.prog 35 #[msgV m A c L d, .func (.func 38) #[] #[]] w fun e w' => e = .returned (.bool ((keysL m.kind).all (rangB m))) ∧ Below w.heap.size w w' := by
  obtain ⟨k0, k5⟩ := inB_iff.1 (show inB m.kind 1 5 = true from hk)
  obtain ⟨n, hn⟩ := Int.eq_ofNat_of_zero_le (show 0 ≤ m.kind by omega)
  have n1 : 1 ≤ n := by omega
  have n5 : n ≤ 5 := by omega
  obtain ⟨W1, hW⟩ : ∃ W1 : World, w.alloc (msgO m A c L d) = W1 := ⟨_, rfl⟩
  have b0 : Below w.heap.size w W1 := by rw [← hW]; exact (Below.refl _ _).alloc (Nat.le_refl _) _
  have hz : W1.heap.size = w.heap.size + 1 := by rw [← hW, World.size_alloc]
  have hbox : W1.heap[w.heap.size]? = some (msgO m A c L d) := by rw [← hW]; exact heap_alloc_new w _
  have z0 : W1.cell? ⟨w.heap.size, 0, none⟩ = some (.int .i64 (n : Int)) := by rw [Lib.cell_of_heap hbox, ← hn]; rfl
  have q := hK.keep b0 n (by omega)
  have t1 : (0 : Int) ≤ (n : Int) := by omega
  have t2 : (n : Int) < 6 := by omega
  have HK := hide (show keysL m.kind = (keyS n).data.toList.map (fun c => (c.toNat : Int)) by rw [hn]; exact keys_list n1 n5)
  have HA := hide (keys_ascii n1 n5)
  have HM := hide (show ∀ x ∈ keysL m.kind, x ∈ [86, 73, 70, 79, 78, 83, 87, 80, 88, 74, 66] by rw [hn]; exact keys_mem n1 n5)
  have hfew : (keyS n).size ≤ 9 := keys_few
  generalize keyS n = s at *
  have HF := hide hF
  have H1 := hide (h1.keep b0)
  have H2 := hide (h2.keep b0)
  have HB := hide b0
  have HZ := hide hz
  have HX := hide hbox
  clear hF h1 h2 b0 hz hbox hK hk k0 k5 hn
  go_enter Tryz.func35, Tryz.ntmps35
  go_wp2
  go_loopw [6] (fun _ wr => ∃ k : Nat, k ≤ s.size ∧ wr.heap[W1.heap.size]? = some (.stringIter s k) ∧ Below W1.heap.size W1 wr ∧ Hid (((keysL m.kind).take k).all (rangB m) = true)) (fun _ wr => s.size - wr.iterPos W1.heap.size)
  case atStart => exact ⟨0, Nat.zero_le _, World.iter_heap _ _ _, (Below.refl _ _).alloc (Nat.le_refl _) _, Lib.hid rfl⟩
  case round =>
    obtain ⟨k, hk, hit, hb, hd⟩ := hrel
    obtain ⟨wo, rfl⟩ : ∃ wo : World, wo = wr := ⟨_, rfl⟩
    have hpos : wo.iterPos W1.heap.size = k := by unfold World.iterPos; rw [hit]
    have HP0 := hide hpos
    by_cases hlt : k < s.size
    · have ha : (s[k]'hlt).toNat < 128 := unhide HA _ (by rw [← byte_at hlt, at_k (by simpa using hlt)]; exact List.getElem_mem _)
      have hnx : ∀ ty, (Instr.next (.pointer (some ⟨W1.heap.size, 0, none⟩)) true ty).run Tryz.prog wo = _ := fun ty => Lib.run_next_ascii_at wo W1.heap.size s k ty hit hlt ha
      obtain ⟨wa, hwa⟩ : ∃ wa : World, wo.iterAt W1.heap.size s (k + 1) = wa := ⟨_, rfl⟩
      have hsz : W1.heap.size < wo.heap.size := by
        have := Array.getElem?_eq_some_iff.1 hit
        exact this.1
      have hia : wa.heap[W1.heap.size]? = some (.stringIter s (k + 1)) := by rw [← hwa]; exact Lib.iterAt_heap wo _ s k _ hit
      have hsa : W1.heap.size < wa.heap.size := by rw [← hwa, Lib.iterAt_size]; exact hsz
      have hba : Below W1.heap.size W1 wa := by rw [← hwa]; exact Lib.below_iterAt hb (Nat.le_refl _) _ _
      have hxa : wa.heap[w.heap.size]? = some (msgO m A c L d) := by rw [hba.block _ (by have := unhide HZ; omega)]; exact unhide HX
      have hlen : k < (keysL m.kind).length := by rw [unhide HK, List.length_map, size_list]; exact hlt
      have hat : (keysL m.kind).getD k 0 = ((s[k]'hlt).toNat : Int) := by
        rw [unhide HK, at_k (by rw [List.length_map, size_list]; exact hlt), List.getElem_map]
        rw [← byte_at hlt, at_k (by rw [size_list]; exact hlt)]
      have hmem : ((s[k]'hlt).toNat : Int) ∈ keysL m.kind := by rw [← hat, at_k hlen]; exact List.getElem_mem _
      have HIn := hide (unhide HM _ hmem)
      have HP := hide (show rangB m ((s[k]'hlt).toNat : Int) = true → ((keysL m.kind).take (k + 1)).all (rangB m) = true from fun h => all_step (d := (0 : Int)) hlen hd.out (by rw [hat]; exact h))
      have HQ := hide (show rangB m ((s[k]'hlt).toNat : Int) = false → (keysL m.kind).all (rangB m) = false from fun h => all_no (d := (0 : Int)) hlen (by rw [hat]; exact h))
      have L1 := hide ((unhide H1).keep hba)
      have L2 := hide ((unhide H2).keep hba)
      have HIA := hide hia
      have HSA := hide hsa
      have HBA := hide hba
      have HXA := hide hxa
      have HIT := hide hit
      clear hit hb hsz hia hsa hba hxa hlen hat hmem ha hpos
      generalize ((s[k]'hlt).toNat : Int) = x at *
      cases hp : rangB m x with
      | true =>
        go_wp2_with (first
          | (refine wpList_loadM (unhide HXA) rfl _ rfl rfl ?_)
          | (go_at_call 38; refine (unhide HF wa x (unhide HIn) (unhide L1) (unhide L2)).mono ?_; rw [hp]; rintro e w1 ⟨rfl, hb1⟩; have HB1 := hide hb1; clear hb1))
        go_roundw
        case rel => exact ⟨k + 1, by omega, by rw [(unhide HB1).block _ (unhide HSA)]; exact unhide HIA, (unhide HBA).trans ((unhide HB1).mono (Nat.le_of_lt (unhide HSA))), Lib.hid (unhide HP hp)⟩
        case measure =>
          have e1 := unhide HP0
          have e2 : w1.iterPos W1.heap.size = k + 1 := by unfold World.iterPos; rw [(unhide HB1).block _ (unhide HSA), unhide HIA]
          rw [e1, e2]; omega
      | false =>
        go_wp2_with (first
          | (refine wpList_loadM (unhide HXA) rfl _ rfl rfl ?_)
          | (go_at_call 38; refine (unhide HF wa x (unhide HIn) (unhide L1) (unhide L2)).mono ?_; rw [hp]; rintro e w1 ⟨rfl, hb1⟩; have HB1 := hide hb1; clear hb1))
        go_ret
        exact ⟨ret_bool (unhide HQ hp).symm, (unhide HB).trans (((unhide HBA).trans ((unhide HB1).mono (Nat.le_of_lt (unhide HSA)))).mono (unhide HB).size)⟩
    · have hnx : ∀ ty, (Instr.next (.pointer (some ⟨W1.heap.size, 0, none⟩)) true ty).run Tryz.prog wo = _ := fun ty => Lib.run_next_end_at wo W1.heap.size s k ty hit hlt
      have HE := hide (show (keysL m.kind).all (rangB m) = true from all_all (by rw [unhide HK, List.length_map, size_list]; omega) hd.out)
      have HBO := hide hb
      clear hb hit hpos
      go_wp2
      go_ret
      exact ⟨ret_bool (unhide HE).symm, (unhide HB).trans ((unhide HBO).mono (unhide HB).size)⟩
end Go.Proofs.YtglgobmmmghdoaaGreatDoor

/- MsgH: Contract of Validate of messages. -/
namespace Go.Proofs.YtglgobmmmghdoaaGreatDoor
open Go.RowKit

set_option maxRecDepth 100000 in
/-- A whole message is loaded in a region that draws its order. -/
theorem quiet_loadM {o : Oper} {a : Act} {C : World → Prop} {K : Act → Prop} {t : TypeId} {g : Nat} {fr : Nat × Nat} {m : Msg} {A : Option Addr} {c : Nat} {L : Option Addr} {d : Nat} (x : Operand) (ho : o.op = .load 35 x)
    (hx : a.eval x = .pointer (some ⟨g, 0, none⟩)) (hC : ∀ w, C w → w.heap[g]? = some (.cells (msgL m A c L d) t fr)) (hK : K (a.put o.dst (msgV m A c L d))) : o.quiet Tryz.prog a C K := by
  refine ⟨msgV m A c L d, fun w hw => ?_, hK⟩
  unfold Oper.quietAt execOp
  simp only [ho, hx, Instr.loadAt, Instr.sureAddr, Sem.run_bind, Sem.run_pure, Result.andThen_ok, run_loadVar_row w g t _ _ fr _ (hC w hw) undM' undM infoM]
  exact ⟨rfl, rfl⟩

theorem own_lens (m : Msg) : (ownM m).onw.length ≤ m.onw.length ∧ (ownM m).lst.length ≤ m.lst.length := by
  unfold ownM
  split
  · exact ⟨Nat.le_refl _, Nat.zero_le _⟩
  · split
    · exact ⟨Nat.le_refl _, Nat.zero_le _⟩
    · split
      · exact ⟨Nat.zero_le _, Nat.zero_le _⟩
      · split
        · exact ⟨Nat.zero_le _, Nat.zero_le _⟩
        · split
          · exact ⟨Nat.zero_le _, Nat.le_refl _⟩
          · exact ⟨Nat.zero_le _, Nat.zero_le _⟩

theorem own_all (b : Nat) (m : Msg) (A L : Option Addr) (c d : Nat) (hk : kindB m = true) : ∃ A' c' L' d', (∀ w, LegsIn b w A m.onw → NumsIn b w L m.lst →
    Calls Tryz.prog 34 #[msgV m A c L d] w (fun e w' => e = .returned (msgV (ownM m) A' c' L' d') ∧ Below w.heap.size w w')) ∧
    (∀ w, LegsIn b w A m.onw → LegsIn b w A' (ownM m).onw) ∧ (∀ w, NumsIn b w L m.lst → NumsIn b w L' (ownM m).lst) := by
  obtain ⟨k0, k1⟩ := inB_iff.1 (show inB m.kind 1 5 = true from hk)
  have : m.kind = 1 ∨ m.kind = 2 ∨ m.kind = 3 ∨ m.kind = 4 ∨ m.kind = 5 := by omega
  rcases this with h | h | h | h | h
  · have e : ownM m = { m with inn := lg0, node := ByteArray.empty, lst := [] } := by unfold ownM; rw [if_pos h]
    exact ⟨_, _, _, _, fun w h1 _ => (own_1 b m A L c d w h h1).mono fun _ _ g => ⟨g.1, g.2.2.2⟩, fun w g => by rw [e]; exact g, fun w _ => by rw [e]; exact NumsIn.nil _ _ _⟩
  · have e : ownM m = { m with node := ByteArray.empty, lst := [] } := by unfold ownM; rw [if_neg (by omega), if_pos h]
    exact ⟨_, _, _, _, fun w h1 _ => (own_2 b m A L c d w h h1).mono fun _ _ g => ⟨g.1, g.2.2.2⟩, fun w g => by rw [e]; exact g, fun w _ => by rw [e]; exact NumsIn.nil _ _ _⟩
  · have e : (ownM m).onw = [] ∧ (ownM m).lst = [] := by unfold ownM; rw [if_neg (by omega), if_neg (by omega), if_pos h]; exact ⟨rfl, rfl⟩
    exact ⟨_, _, _, _, fun w _ _ => (own_3 b m A L c d w h).mono fun _ _ g => ⟨g.1, g.2.2.2⟩, fun w _ => by rw [e.1]; exact LegsIn.nil _ _ _, fun w _ => by rw [e.2]; exact NumsIn.nil _ _ _⟩
  · have e : (ownM m).onw = [] ∧ (ownM m).lst = [] := by unfold ownM; rw [if_neg (by omega), if_neg (by omega), if_neg (by omega), if_pos h]; exact ⟨rfl, rfl⟩
    exact ⟨_, _, _, _, fun w _ _ => (own_4 b m A L c d w h).mono fun _ _ g => ⟨g.1, g.2.2.2⟩, fun w _ => by rw [e.1]; exact LegsIn.nil _ _ _, fun w _ => by rw [e.2]; exact NumsIn.nil _ _ _⟩
  · have e : (ownM m).onw = [] ∧ (ownM m).lst = m.lst := by unfold ownM; rw [if_neg (by omega), if_neg (by omega), if_neg (by omega), if_neg (by omega), if_pos h]; exact ⟨rfl, rfl⟩
    exact ⟨_, _, _, _, fun w _ h2 => (own_5 b m A L c d w h h2).mono fun _ _ g => ⟨g.1, g.2.2.2⟩, fun w _ => by rw [e.1]; exact LegsIn.nil _ _ _, fun w g => by rw [e.2]; exact g⟩

set_option maxHeartbeats 8000000 in
set_option maxRecDepth 100000 in
theorem val_own (b : Nat) (m : Msg) (A L : Option Addr) (c d : Nat) (w : World) (hz : m.onw.length ≤ 1000000000) (hz2 : m.lst.length ≤ 1000000000) (h1 : LegsIn b w A m.onw) (h2 : NumsIn b w L m.lst) (hk : kindB m = true) (hs : sameM m (ownM m) = false) :
    Calls Tryz.prog 12 #[msgV m A c L d] w fun e w' => e = .returned (.int .i64 (valE m)) ∧ Below w.heap.size w w' := by
  have HV := hide (show valE m = 7 by unfold valE; rw [if_pos hk, if_neg (by rw [hs]; exact Bool.false_ne_true)])
  obtain ⟨k0, k5⟩ := inB_iff.1 (show inB m.kind 1 5 = true from hk)
  obtain ⟨A', c', L', d', hO, hLg, hNm⟩ := own_all b m A L c d hk
  obtain ⟨W1, hW⟩ : ∃ W1 : World, w.alloc (msgO m A c L d) = W1 := ⟨_, rfl⟩
  have b0 : Below w.heap.size w W1 := by rw [← hW]; exact (Below.refl _ _).alloc (Nat.le_refl _) _
  have hsz : w.heap.size < W1.heap.size := by rw [← hW, World.size_alloc]; omega
  have hbox : W1.heap[w.heap.size]? = some (msgO m A c L d) := by rw [← hW]; exact heap_alloc_new w _
  have z0 : W1.cell? ⟨w.heap.size, 0, none⟩ = some (.int .i64 m.kind) := by rw [Lib.cell_of_heap hbox]; rfl
  have n1 : ¬ m.kind < 1 := by omega
  have n5 : ¬ 5 < m.kind := by omega
  have HD1 := hide (fun t : After W1 => hO t.to ((h1.keep b0).keep t.is) ((h2.keep b0).keep t.is))
  have HD2 := hide (fun t : After W1 => by
    have := same_any b m (ownM m) A A' L L' c c' d d' t.to hz hz2 ((h1.keep b0).keep t.is) (hLg _ ((h1.keep b0).keep t.is)) ((h2.keep b0).keep t.is) (hNm _ ((h2.keep b0).keep t.is))
    rw [hs] at this
    exact this)
  have HX := hide (fun (w' : World) (hw' : ∃ t : After W1, w' = t.to) => show w'.heap[w.heap.size]? = some (msgO m A c L d) by
    obtain ⟨t, rfl⟩ := hw'
    rw [t.is.block _ hsz]; exact hbox)
  have HB := hide b0
  clear hO hLg hNm b0 hsz hbox k0 k5 hk hs h1 h2 hz hz2
  go_enter Tryz.func12, Tryz.ntmps12
  go_wp2_with fail
  refine wp_region_after (by kernel_rfl) (by kernel_rfl) ?_
  refine BigFrame.wpQuiet_want rfl (fun K hK => ?_)
  refine quiet_loadM _ rfl rfl (unhide HX) (hK _ ?_)
  clear hK K
  refine BigFrame.wpQuiet_want rfl (fun K hK => ?_)
  refine quiet_loadM _ rfl rfl (unhide HX) (hK _ ?_)
  clear hK K
  simp only [Act.put, List.setIfInBounds_toArray, List.set_cons_succ, List.set_cons_zero]
  repeat (go_big_quiet_step ((first | (go_at_call 34; exact After.call (unhide HD1 _)) | (go_at_call 33; exact After.call (unhide HD2 _)))))
  refine wpQuiet_nil ?_
  rintro _ ⟨t, rfl⟩
  have HT := hide t.is
  generalize t.to = W2 at *
  go_wp2
  go_ret
  exact ⟨ret_int (unhide HV).symm, (unhide HB).trans ((unhide HT).mono (unhide HB).size)⟩
end Go.Proofs.YtglgobmmmghdoaaGreatDoor
