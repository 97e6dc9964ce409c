/-
  Contract of the program's text of a telegram.
-/
import Derived.Test.YtglgobmmmghdoaaGreatDoorTelR
import Derived.Test.YtglgobmmmghdoaaGreatDoorLibS
namespace Go.Proofs.YtglgobmmmghdoaaGreatDoor
open Go.RowKit

theorem bld_new {w : World} {B : Nat} (hB : B ≤ w.heap.size) : Bld B w.heap.size [] (w.alloc (.cells #[.pointer none, .slice none 0 0] 107)) :=
  Or.inl ⟨hB, .slice none 0 0, heap_alloc_new w _, World.ownsRow_nil _ _ _ _, by simp [Value.ownBlock]⟩

/-- A world in which the builder works: what was below block B stays. -/
structure At (W1 : World) (B b : Nat) (l : List UInt8) (w : World) : Prop where
  bld : Bld B b l w
  bel : Below B W1 w
  eq : W1.heap.size = B
theorem At.write {W1 w w' : World} {B b : Nat} {l l' : List UInt8} (h : At W1 B b l w) (h1 : Bld B b l' w') (h2 : Below B w w') : At W1 B b l' w' := ⟨h1, h.bel.trans h2, h.eq⟩
theorem At.room {W1 w : World} {B b : Nat} {l : List UInt8} (h : At W1 B b l w) : B ≤ w.heap.size := Nat.le_trans (Nat.le_of_eq h.eq.symm) h.bel.size
theorem bld_alloc {w : World} {B b : Nat} {l : List UInt8} (h : Bld B b l w) (o : Obj) : Bld B b l (w.alloc o) := by
  have key : ∀ p : Value, Lib.BuilderAt 107 5 B b p (Lib.byteCells l) w → Lib.BuilderAt 107 5 B b p (Lib.byteCells l) (w.alloc o) := fun p h => by
    have hlt := h.lt
    obtain ⟨hB, v, hb, hown, hne⟩ := h
    refine ⟨hB, v, (Lib.alloc_old w o b hlt).trans hb, hown.kept (row := none) (World.grownBy_alloc w o none) ?_, hne⟩
    cases v.ownBlock with
    | none => exact .inl rfl
    | some g => exact .inr (by simp)
  rcases h with h | h
  · exact .inl (key _ h)
  · exact .inr (key _ h)
theorem At.alloc {W1 w : World} {B b : Nat} {l : List UInt8} (h : At W1 B b l w) (o : Obj) : At W1 B b l (w.alloc o) := ⟨bld_alloc h.bld o, h.bel.alloc h.room o, h.eq⟩
theorem At.kept {W1 w : World} {B b : Nat} {l : List UInt8} (h : At W1 B b l w) : Below W1.heap.size W1 w := by rw [h.eq]; exact h.bel
theorem At.re {W1 w : World} {B b : Nat} {l l' : List UInt8} (h : At W1 B b l w) (e : l = l') : At W1 B b l' w := e ▸ h

set_option maxHeartbeats 4000000 in
theorem text_tel (b : Nat) (t : Tel) (A : Option Addr) (c : Nat) (w : World) (hS : SmallT t) (hlen : (telX t).length ≤ 5000) (h : ElsIn b w A t.els) :
    Calls Tryz.prog 28 #[.agg #[.string t.kind, .string t.change, .slice A t.els.length c]] w fun e w' => e = .returned (.string ⟨(telX t).toArray⟩) ∧ Below w.heap.size w w' := by
  have hz : t.els.length ≤ 3000 := hS.1
  have hK : t.kind.size ≤ 3000 := hS.2.1
  have hC : t.change.size ≤ 3000 := hS.2.2.1
  have HS := hide hS
  have HT1 := hide fun k => Nat.le_trans (tel_pre t k) hlen
  have HT2 := hide fun k (h : k < t.els.length) => Nat.le_trans (tel_pre2 t h) hlen
  have b0 := (Below.refl w.heap.size w).alloc (Nat.le_refl _) (.cells #[.string t.kind, .string t.change, .slice A t.els.length c] 25)
  have hb0 := bld_new (w := w.alloc (.cells #[.string t.kind, .string t.change, .slice A t.els.length c] 25)) (B := w.heap.size + 1) (by rw [World.size_alloc]; omega)
  have A0 := hide (show At (w.alloc (.cells #[.string t.kind, .string t.change, .slice A t.els.length c] 25)) (w.heap.size + 1) (w.heap.size + 1) [] ((w.alloc (.cells #[.string t.kind, .string t.change, .slice A t.els.length c] 25)).alloc (.cells #[.pointer none, .slice none 0 0] 107)) from
    ⟨by rw [World.size_alloc] at hb0; exact hb0, (Below.refl _ _).alloc (by rw [World.size_alloc]; omega) _, World.size_alloc _ _⟩)
  have X0 := hide (TBox.new w t.kind t.change (.slice A t.els.length c) 25)
  have HI0 := hide (h.keep b0)
  have HL := hide hlen
  have B0 := Lib.hid b0
  clear h hS hlen b0 hb0
  obtain ⟨K, C, es⟩ := t
  simp only [] at *
  have hTX : ∀ (l : List UInt8) (wr : World), At (w.alloc (.cells #[.string K, .string C, .slice A es.length c] 25)) (w.heap.size + 1) (w.heap.size + 1) l wr → TBox wr w.heap.size K C (.slice A es.length c) := fun _ _ h =>
    ⟨by rw [h.bel.cell (show w.heap.size < w.heap.size + 1 by omega)]; exact (unhide X0).1, by rw [h.bel.cell (show w.heap.size < w.heap.size + 1 by omega)]; exact (unhide X0).2.1, by rw [h.bel.cell (show w.heap.size < w.heap.size + 1 by omega)]; exact (unhide X0).2.2⟩
  have hFI : ∀ (l : List UInt8) (wr : World), At (w.alloc (.cells #[.string K, .string C, .slice A es.length c] 25)) (w.heap.size + 1) (w.heap.size + 1) l wr → Below w.heap.size w wr := fun _ _ h =>
    B0.out.trans (h.bel.mono (by omega))
  have HTX := hide hTX
  have HFI := hide hFI
  clear hTX hFI X0 B0
  go_enter Tryz.func28, Tryz.ntmps28
  go_wp2_with fail
  have e1 : (⟨#[10]⟩ : ByteArray).size = 1 := rfl
  refine (bwrite_any _ _ [] _ _ (unhide A0).bld (by simp only [List.length_nil, ByteArray.size_append, e1]; omega) (unhide A0).room).mono ?_
  rintro e w2 ⟨rfl, hB2, hb2, _⟩
  have A1 := (unhide A0).write hB2 hb2
  clear A0 hB2 hb2
  generalize w.alloc (.cells #[.string K, .string C, .slice A es.length c] 25) = W1 at *
  generalize hBB : w.heap.size + 1 = B at *
  obtain ⟨x0, x1, x2⟩ := unhide HTX _ _ A1
  have HA1 := hide (A1.re (l' := K.data.toList ++ [10]) (by simp [ByteArray.data_append]))
  clear A1
  have HX := hide (show headX ⟨K, C, es⟩ = K.data.toList ++ [10] ++ (if C.toList.isEmpty then [] else C.data.toList ++ [10]) from rfl)
  have HBB := Lib.hid hBB
  clear hBB
  cases hc : C.toList.isEmpty
  · have HX1 := hide (show headX ⟨K, C, es⟩ = K.data.toList ++ [10] ++ (C ++ ⟨#[10]⟩).data.toList by rw [unhide HX, hc]; simp [ByteArray.data_append])
    go_wp2_with fail
    refine (bwrite_any _ _ _ _ _ (unhide HA1).bld (by simp only [List.length_append, List.length_cons, List.length_nil, slen, ByteArray.size_append, e1]; omega) (unhide HA1).room).mono ?_
    rintro e wz ⟨rfl, hB2, hb2, _⟩
    have A1 := (unhide HA1).write hB2 hb2
    rw [← unhide HX1] at A1
    have HA := hide A1
    clear x0 x1 x2 hB2 hb2
    obtain ⟨x0, x1, x2⟩ := unhide HTX _ _ A1
    clear HA1 A1
    go_wp2_with fail
    go_loopw [22] (fun i wr => ∃ k : Nat, k ≤ es.length ∧ i = .int .i64 k ∧ At W1 B B (headX ⟨K, C, es⟩ ++ (es.take k).flatMap elX) wr) (fun i _ => es.length - (intOf i).toNat)
    case atStart => exact ⟨0, Nat.zero_le _, rfl, (unhide HA).re (by simp)⟩
    case round =>
      obtain ⟨k, hk2, rfl, hA⟩ := hrel
      obtain ⟨wo, rfl⟩ : ∃ wo : World, wo = wr := ⟨_, rfl⟩
      clear x0 x1 x2
      obtain ⟨x0, x1, x2⟩ := unhide HTX _ _ hA
      have hEls := unhide HI0
      have HAO := hide hA
      clear hA
      by_cases hlt : k < es.length
      · obtain ⟨g, off, rfl, hg, hcx⟩ := hEls (by omega)
        obtain ⟨q0, A', c', q1, hst⟩ := hcx k hlt
        replace q0 := kept (unhide HAO).kept q0
        replace q1 := kept (unhide HAO).kept q1
        clear hcx
        have kl : (k : Int) < (es.length : Int) := by omega
        have HP := hide (flat_step elX (d := el0) hlt)
        have HT3 := hide (unhide HT2 k hlt)
        have hsm := (unhide HS).at hlt
        generalize es.getD k el0 = x at *
        obtain ⟨key, ps⟩ := x
        simp only [] at q0 q1 hst
        have hkey : key.size ≤ 3000 := hsm.2.1
        have hpz : ps.length ≤ 3000 := hsm.1
        have HSM := hide hsm
        clear hsm
        have HA1 := hide ((unhide HAO).alloc (.cells #[.string key, .slice A' ps.length c'] 55))
        have HST := hide hst
        clear hst
        have hpre0 : ∀ j, (headX ⟨K, C, es⟩ ++ (es.take k).flatMap elX).length + (1 + key.size + ((ps.take j).flatMap partX).length + 1) ≤ 5000 := fun j => by
          have h1 := unhide HT3
          have h2 := el_pre (key, ps) j
          simp only [] at h2
          omega
        have HPRE := hide hpre0
        clear hpre0
        go_wp2_with fail
        have e46 : (⟨#[46]⟩ : ByteArray).size = 1 := rfl
        refine (bwrite_any _ _ _ _ _ (unhide HA1).bld (by have := unhide HPRE 0; rw [ByteArray.size_append, e46]; omega) (unhide HA1).room).mono ?_
        rintro e w3 ⟨rfl, hB2, hb2, ho2⟩
        have hbox : w3.heap[wo.heap.size]? = some (.cells #[.string key, .slice A' ps.length c'] 55 (0, 0)) :=
          ho2 _ _ (heap_alloc_new wo _) (by have := (unhide HAO).bld; intro e; injection e with e; rcases this with h | h <;> (have := h.lt; omega)) (fun _ _ e => by cases e)
        have y0 : w3.cell? ⟨wo.heap.size, 0, none⟩ = some (.string key) := by rw [Lib.cell_of_heap hbox]; rfl
        have y1 : w3.cell? ⟨wo.heap.size, 1, none⟩ = some (.slice A' ps.length c') := by rw [Lib.cell_of_heap hbox]; rfl
        have HA2 := hide (((unhide HA1).write hB2 hb2).re (l' := headX ⟨K, C, es⟩ ++ (es.take k).flatMap elX ++ (46 :: key.data.toList)) (by simp [ByteArray.data_append]))
        clear hB2 hb2 ho2 hbox q0 q1 x0 x1 x2
        go_wp2_with fail
        clear y0 y1
        go_loopw [33] (fun i wr => ∃ j : Nat, j ≤ ps.length ∧ i = .int .i64 j ∧ At W1 B B (headX ⟨K, C, es⟩ ++ (es.take k).flatMap elX ++ (46 :: key.data.toList) ++ (ps.take j).flatMap partX) wr) (fun i _ => ps.length - (intOf i).toNat)
        case atStart => exact ⟨0, Nat.zero_le _, rfl, (unhide HA2).re (by simp)⟩
        case round =>
          obtain ⟨j, hj2, rfl, hAj⟩ := hrel
          obtain ⟨wi, rfl⟩ : ∃ wi : World, wi = wr := ⟨_, rfl⟩
          have HAJ := hide hAj
          clear hAj
          by_cases hjl : j < ps.length
          · obtain ⟨g', off', rfl, hg', hc'⟩ := (unhide HST).keep (unhide HAJ).kept (by omega)
            have q := hc' j hjl
            clear hc'
            have sz := (unhide HSM).at hjl
            have jl : (j : Int) < (ps.length : Int) := by omega
            have HP' := hide (flat_step partX (d := ByteArray.empty) hjl)
            simp only [] at sz
            generalize ps.getD j ByteArray.empty = p at *
            go_wp2_with fail
            have e47 : (⟨#[47]⟩ : ByteArray).size = 1 := rfl
            refine (bwrite_any _ _ _ _ _ (unhide HAJ).bld (by have := unhide HPRE j; rw [ByteArray.size_append, e47]; simp only [List.length_append, List.length_cons, slen] at this ⊢; omega) (unhide HAJ).room).mono ?_
            rintro e w4 ⟨rfl, hB2, hb2, _⟩
            have HA3 := hide (((unhide HAJ).write hB2 hb2).re (l' := headX ⟨K, C, es⟩ ++ (es.take k).flatMap elX ++ (46 :: key.data.toList) ++ (ps.take (j + 1)).flatMap partX) (by rw [unhide HP']; simp [ByteArray.data_append, partX]))
            clear hB2 hb2 q
            go_wp2
            go_roundw
            case rel => exact ⟨j + 1, by omega, by go_num, unhide HA3⟩
            case measure => simp [intOf]; omega
          · have HF' := hide (flat_all partX (l := ps) (k := j) (by omega))
            have jl : ¬ (j : Int) < (ps.length : Int) := by omega
            go_wp2_with fail
            refine (bwrite_any _ _ _ _ _ (unhide HAJ).bld (by have := unhide HPRE j; rw [e1]; simp only [List.length_append, List.length_cons, slen] at this ⊢; omega) (unhide HAJ).room).mono ?_
            rintro e w4 ⟨rfl, hB2, hb2, _⟩
            have HA3 := hide (((unhide HAJ).write hB2 hb2).re (l' := headX ⟨K, C, es⟩ ++ (es.take (k + 1)).flatMap elX) (by rw [unhide HP, unhide HF']; simp [elX]))
            clear hB2 hb2
            go_wp2
            go_roundw
            case rel => exact ⟨k + 1, by omega, by go_num, unhide HA3⟩
            case measure => simp [intOf]; omega
      · have HF := hide (flat_all elX (l := es) (k := k) (by omega))
        have kl : ¬ (k : Int) < (es.length : Int) := by omega
        go_wp2_with fail
        have e69 : (⟨#[69, 78, 68]⟩ : ByteArray).size = 3 := rfl
        refine (bwrite_any _ _ _ _ _ (unhide HAO).bld (by have := unhide HT1 k; simp only [ByteArray.size_append, e69, e1]; omega) (unhide HAO).room).mono ?_
        rintro e w4 ⟨rfl, hB2, hb2, _⟩
        have HA3 := hide (((unhide HAO).write hB2 hb2).re (l' := telX ⟨K, C, es⟩) (by rw [unhide HF]; simp [telX, endX, ByteArray.data_append]))
        clear hB2 hb2 x0 x1 x2
        go_wp2_with fail
        refine (bstring_any _ _ _ _ (unhide HA3).bld (unhide HA3).room).mono ?_
        rintro e w5 ⟨rfl, hb5⟩
        have HFB := Lib.hid ((unhide HFI _ _ (unhide HA3)).trans (hb5.mono (by have := HBB.out; omega)))
        clear hb5
        go_wp2
        go_ret
        exact ⟨rfl, HFB.out⟩
  · have HX1 := hide (show headX ⟨K, C, es⟩ = K.data.toList ++ [10] by rw [unhide HX, hc]; simp)
    have A1 := unhide HA1
    rw [← unhide HX1] at A1
    have HA := hide A1
    clear HA1 A1
    obtain ⟨wz, rfl⟩ : ∃ wz : World, wz = w2 := ⟨_, rfl⟩
    go_wp2_with fail
    go_loopw [22] (fun i wr => ∃ k : Nat, k ≤ es.length ∧ i = .int .i64 k ∧ At W1 B B (headX ⟨K, C, es⟩ ++ (es.take k).flatMap elX) wr) (fun i _ => es.length - (intOf i).toNat)
    case atStart => exact ⟨0, Nat.zero_le _, rfl, (unhide HA).re (by simp)⟩
    case round =>
      obtain ⟨k, hk2, rfl, hA⟩ := hrel
      obtain ⟨wo, rfl⟩ : ∃ wo : World, wo = wr := ⟨_, rfl⟩
      clear x0 x1 x2
      obtain ⟨x0, x1, x2⟩ := unhide HTX _ _ hA
      have hEls := unhide HI0
      have HAO := hide hA
      clear hA
      by_cases hlt : k < es.length
      · obtain ⟨g, off, rfl, hg, hcx⟩ := hEls (by omega)
        obtain ⟨q0, A', c', q1, hst⟩ := hcx k hlt
        replace q0 := kept (unhide HAO).kept q0
        replace q1 := kept (unhide HAO).kept q1
        clear hcx
        have kl : (k : Int) < (es.length : Int) := by omega
        have HP := hide (flat_step elX (d := el0) hlt)
        have HT3 := hide (unhide HT2 k hlt)
        have hsm := (unhide HS).at hlt
        generalize es.getD k el0 = x at *
        obtain ⟨key, ps⟩ := x
        simp only [] at q0 q1 hst
        have hkey : key.size ≤ 3000 := hsm.2.1
        have hpz : ps.length ≤ 3000 := hsm.1
        have HSM := hide hsm
        clear hsm
        have HA1 := hide ((unhide HAO).alloc (.cells #[.string key, .slice A' ps.length c'] 55))
        have HST := hide hst
        clear hst
        have hpre0 : ∀ j, (headX ⟨K, C, es⟩ ++ (es.take k).flatMap elX).length + (1 + key.size + ((ps.take j).flatMap partX).length + 1) ≤ 5000 := fun j => by
          have h1 := unhide HT3
          have h2 := el_pre (key, ps) j
          simp only [] at h2
          omega
        have HPRE := hide hpre0
        clear hpre0
        go_wp2_with fail
        have e46 : (⟨#[46]⟩ : ByteArray).size = 1 := rfl
        refine (bwrite_any _ _ _ _ _ (unhide HA1).bld (by have := unhide HPRE 0; rw [ByteArray.size_append, e46]; omega) (unhide HA1).room).mono ?_
        rintro e w3 ⟨rfl, hB2, hb2, ho2⟩
        have hbox : w3.heap[wo.heap.size]? = some (.cells #[.string key, .slice A' ps.length c'] 55 (0, 0)) :=
          ho2 _ _ (heap_alloc_new wo _) (by have := (unhide HAO).bld; intro e; injection e with e; rcases this with h | h <;> (have := h.lt; omega)) (fun _ _ e => by cases e)
        have y0 : w3.cell? ⟨wo.heap.size, 0, none⟩ = some (.string key) := by rw [Lib.cell_of_heap hbox]; rfl
        have y1 : w3.cell? ⟨wo.heap.size, 1, none⟩ = some (.slice A' ps.length c') := by rw [Lib.cell_of_heap hbox]; rfl
        have HA2 := hide (((unhide HA1).write hB2 hb2).re (l' := headX ⟨K, C, es⟩ ++ (es.take k).flatMap elX ++ (46 :: key.data.toList)) (by simp [ByteArray.data_append]))
        clear hB2 hb2 ho2 hbox q0 q1 x0 x1 x2
        go_wp2_with fail
        clear y0 y1
        go_loopw [33] (fun i wr => ∃ j : Nat, j ≤ ps.length ∧ i = .int .i64 j ∧ At W1 B B (headX ⟨K, C, es⟩ ++ (es.take k).flatMap elX ++ (46 :: key.data.toList) ++ (ps.take j).flatMap partX) wr) (fun i _ => ps.length - (intOf i).toNat)
        case atStart => exact ⟨0, Nat.zero_le _, rfl, (unhide HA2).re (by simp)⟩
        case round =>
          obtain ⟨j, hj2, rfl, hAj⟩ := hrel
          obtain ⟨wi, rfl⟩ : ∃ wi : World, wi = wr := ⟨_, rfl⟩
          have HAJ := hide hAj
          clear hAj
          by_cases hjl : j < ps.length
          · obtain ⟨g', off', rfl, hg', hc'⟩ := (unhide HST).keep (unhide HAJ).kept (by omega)
            have q := hc' j hjl
            clear hc'
            have sz := (unhide HSM).at hjl
            have jl : (j : Int) < (ps.length : Int) := by omega
            have HP' := hide (flat_step partX (d := ByteArray.empty) hjl)
            simp only [] at sz
            generalize ps.getD j ByteArray.empty = p at *
            go_wp2_with fail
            have e47 : (⟨#[47]⟩ : ByteArray).size = 1 := rfl
            refine (bwrite_any _ _ _ _ _ (unhide HAJ).bld (by have := unhide HPRE j; rw [ByteArray.size_append, e47]; simp only [List.length_append, List.length_cons, slen] at this ⊢; omega) (unhide HAJ).room).mono ?_
            rintro e w4 ⟨rfl, hB2, hb2, _⟩
            have HA3 := hide (((unhide HAJ).write hB2 hb2).re (l' := headX ⟨K, C, es⟩ ++ (es.take k).flatMap elX ++ (46 :: key.data.toList) ++ (ps.take (j + 1)).flatMap partX) (by rw [unhide HP']; simp [ByteArray.data_append, partX]))
            clear hB2 hb2 q
            go_wp2
            go_roundw
            case rel => exact ⟨j + 1, by omega, by go_num, unhide HA3⟩
            case measure => simp [intOf]; omega
          · have HF' := hide (flat_all partX (l := ps) (k := j) (by omega))
            have jl : ¬ (j : Int) < (ps.length : Int) := by omega
            go_wp2_with fail
            refine (bwrite_any _ _ _ _ _ (unhide HAJ).bld (by have := unhide HPRE j; rw [e1]; simp only [List.length_append, List.length_cons, slen] at this ⊢; omega) (unhide HAJ).room).mono ?_
            rintro e w4 ⟨rfl, hB2, hb2, _⟩
            have HA3 := hide (((unhide HAJ).write hB2 hb2).re (l' := headX ⟨K, C, es⟩ ++ (es.take (k + 1)).flatMap elX) (by rw [unhide HP, unhide HF']; simp [elX]))
            clear hB2 hb2
            go_wp2
            go_roundw
            case rel => exact ⟨k + 1, by omega, by go_num, unhide HA3⟩
            case measure => simp [intOf]; omega
      · have HF := hide (flat_all elX (l := es) (k := k) (by omega))
        have kl : ¬ (k : Int) < (es.length : Int) := by omega
        go_wp2_with fail
        have e69 : (⟨#[69, 78, 68]⟩ : ByteArray).size = 3 := rfl
        refine (bwrite_any _ _ _ _ _ (unhide HAO).bld (by have := unhide HT1 k; simp only [ByteArray.size_append, e69, e1]; omega) (unhide HAO).room).mono ?_
        rintro e w4 ⟨rfl, hB2, hb2, _⟩
        have HA3 := hide (((unhide HAO).write hB2 hb2).re (l' := telX ⟨K, C, es⟩) (by rw [unhide HF]; simp [telX, endX, ByteArray.data_append]))
        clear hB2 hb2 x0 x1 x2
        go_wp2_with fail
        refine (bstring_any _ _ _ _ (unhide HA3).bld (unhide HA3).room).mono ?_
        rintro e w5 ⟨rfl, hb5⟩
        have HFB := Lib.hid ((unhide HFI _ _ (unhide HA3)).trans (hb5.mono (by have := HBB.out; omega)))
        clear hb5
        go_wp2
        go_ret
        exact ⟨rfl, HFB.out⟩
end Go.Proofs.YtglgobmmmghdoaaGreatDoor
