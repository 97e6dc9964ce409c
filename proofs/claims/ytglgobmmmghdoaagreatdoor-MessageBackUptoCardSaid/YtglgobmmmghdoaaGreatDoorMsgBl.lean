/-
  MessageBack: the telegram of a valid message is a valid telegram; the walk.
-/
import Derived.Test.YtglgobmmmghdoaaGreatDoorMsgWL
import Derived.Test.YtglgobmmmghdoaaGreatDoorMsgAA
import Derived.Test.YtglgobmmmghdoaaGreatDoorMsgAE
import Derived.Test.YtglgobmmmghdoaaGreatDoorTelOK
namespace Go.Proofs.YtglgobmmmghdoaaGreatDoor
open Go.RowKit

theorem enc_fits {m : Msg} (h : valE m = 0) : FitT (encT m) := by
  have hs := enc_small h
  refine ⟨by have := enc_els h; omega, fun e he => ?_, fun e he p hp => ?_⟩
  · have := (hs.2.2.2 e he).1; omega
  · have := (hs.2.2.2 e he).2.2 p hp; omega

theorem pc_byte {s : ByteArray} (f : UInt8 → Bool) (hf : ∀ c, f c = true → pcU c = true) (h : s.data.toList.all f = true) : pcB s = true := by
  unfold pcB
  exact List.all_eq_true.2 fun c hc => hf c (List.all_eq_true.1 h c hc)
theorem pc_isd {c : UInt8} (h : isD (c.toNat : Int) = true) : pcU c = true := by unfold pcU isPc; rw [h, Bool.true_or, Bool.or_true]
theorem pc_isl {c : UInt8} (h : isLe (c.toNat : Int) = true) : pcU c = true := by unfold pcU isPc; rw [h, Bool.true_or]
theorem pc_ld {c : UInt8} (h : (isLe (c.toNat : Int) || isD (c.toNat : Int)) = true) : pcU c = true := by
  rcases Bool.or_eq_true _ _ |>.mp h with h | h
  · exact pc_isl h
  · exact pc_isd h
theorem pc_dig {s : ByteArray} (h : allDig s.data.toList = true) : pcB s = true := pc_byte isDig (fun _ h => pc_isd h) h
theorem pc_let {s : ByteArray} (h : allLet s.data.toList = true) : pcB s = true := pc_byte isLet (fun _ h => pc_isl h) h
theorem pc_cat {a b : ByteArray} (ha : pcB a = true) (hb : pcB b = true) : pcB (a ++ b) = true := by
  unfold pcB at *
  rw [ByteArray.data_append, Array.toList_append, List.all_append, ha, hb]; rfl
theorem pc_letN {s : ByteArray} {n : Int} (h : letN s n = true) : pcB s = true := by
  unfold letN at h
  rw [Bool.and_eq_true] at h
  exact pc_let h.2
theorem pc_car {s : ByteArray} (h : carB s = true) : pcB s = true := by
  unfold carB at h
  rw [Bool.and_eq_true, decide_eq_true_eq, Bool.and_eq_true, Bool.and_eq_true] at h
  obtain ⟨h0, ⟨h1, h2⟩, -⟩ := h
  have hl : s.data.toList.length = 2 := by simpa using h0
  unfold bat at h1 h2
  unfold pcB
  generalize s.data.toList = l at *
  match l, hl with
  | [x, y], _ =>
    have h1 : (isLe (x.toNat : Int) || isD (x.toNat : Int)) = true := h1
    have h2 : (isLe (y.toNat : Int) || isD (y.toNat : Int)) = true := h2
    rw [List.all_cons, List.all_cons, pc_ld h1, pc_ld h2]; rfl
theorem pc_suf {s : ByteArray} (h : sufB s = true) : pcB s = true := by
  unfold sufB at h
  rcases Bool.or_eq_true _ _ |>.mp h with h | h
  · rw [ByteArray.toList_eq] at h
    unfold pcB
    rw [List.isEmpty_iff.1 h]; rfl
  · exact pc_letN h
theorem pc_leg {g : Lg} (h : lgB g = true) : ∀ p ∈ legP g, pcB p = true := by
  obtain ⟨h1, h2, h3⟩ := lgB_iff.1 h
  obtain ⟨c1, _, c3, _⟩ := fvl_iff.1 h1
  intro p hp
  simp only [legP, List.mem_cons, List.not_mem_nil, or_false] at hp
  rcases hp with rfl | rfl | rfl | rfl
  · rw [fdes_yes h1]
    exact pc_cat (pc_cat (pc_car c1) (pc_dig (dig_str _ _))) (pc_suf c3)
  · exact pc_dig (dig_str _ _)
  · exact pc_letN (show letN g.p 3 = true from h2)
  · unfold clsB at h3
    simp only [Bool.or_eq_true, beq_iff_eq] at h3
    unfold pcB
    rw [ByteArray.toList_eq] at h3
    rcases h3 with h3 | h3 | h3 <;> rw [h3] <;> decide
/-- The parts that a valid message gives are of permitted bytes. -/
theorem write_pc {m : Msg} (hv : valE m = 0) {x : Int} (hx : x ∈ keysL m.kind) : letN (one x) 1 = true ∧ ∀ ps ∈ writeP m x, ∀ p ∈ ps, pcB p = true := by
  obtain ⟨hk, -, -, hf, -, hr, -⟩ := valE_ok.1 hv
  have f1 : formB m x = true := List.all_eq_true.1 hf x hx
  have r1 : rangB m x = true := List.all_eq_true.1 hr x hx
  obtain ⟨k1, k5⟩ := inB_iff.1 (show inB m.kind 1 5 = true from hk)
  obtain ⟨n, hn⟩ := Int.eq_ofNat_of_zero_le (show 0 ≤ m.kind by omega)
  have hm := keys_mem (k := n) (by omega) (by omega) x (by rw [← hn]; exact hx)
  simp only [List.mem_cons, List.not_mem_nil, or_false] at hm
  rcases hm with rfl | rfl | rfl | rfl | rfl | rfl | rfl | rfl | rfl | rfl | rfl
  all_goals refine ⟨by decide +kernel, fun ps hps => ?_⟩
  · obtain rfl := List.mem_singleton.1 (show ps ∈ [[(⟨#[49, 76]⟩ : ByteArray) ++ m.port, decS m.num]] from hps)
    intro p hp
    simp only [List.mem_cons, List.not_mem_nil, or_false] at hp
    rcases hp with rfl | rfl
    · exact pc_cat (by decide +kernel) (pc_letN (show letN m.port 3 = true from f1))
    · exact pc_dig (decS_dig _)
  · obtain rfl := List.mem_singleton.1 (show ps ∈ [legP m.inn] from hps)
    exact pc_leg f1
  · obtain rfl := List.mem_singleton.1 (show ps ∈ [legP m.out] from hps)
    exact pc_leg f1
  · obtain ⟨g, hg, rfl⟩ := List.mem_map.1 (show ps ∈ m.onw.map legP from hps)
    exact pc_leg (List.all_eq_true.1 (show m.onw.all lgB = true from f1) g hg)
  · obtain rfl := List.mem_singleton.1 (show ps ∈ [[txt m.pl m.pa m.ps, three m.cnt]] from hps)
    have r2 : (vld m.pl m.pa m.ps && inB m.cnt 1 99) = true := r1
    rw [Bool.and_eq_true] at r2
    intro p hp
    simp only [List.mem_cons, List.not_mem_nil, or_false] at hp
    rcases hp with rfl | rfl
    · exact pc_dig (txt_dig r2.1)
    · exact pc_dig (three_dig _)
  · obtain rfl := List.mem_singleton.1 (show ps ∈ [[wLoad m.load, wSta m.sta, three m.sq]] from hps)
    intro p hp
    simp only [List.mem_cons, List.not_mem_nil, or_false] at hp
    rcases hp with rfl | rfl | rfl
    · cases m.load <;> decide +kernel
    · unfold wSta; repeat' split
      all_goals decide +kernel
    · exact pc_dig (three_dig _)
  · obtain rfl := List.mem_singleton.1 (show ps ∈ [[(⟨#[75]⟩ : ByteArray), decS m.wgt]] from hps)
    intro p hp
    simp only [List.mem_cons, List.not_mem_nil, or_false] at hp
    rcases hp with rfl | rfl
    · decide +kernel
    · exact pc_dig (decS_dig _)
  · obtain rfl := List.mem_singleton.1 (show ps ∈ [[m.sur, m.giv]] from hps)
    have f2 : (!m.sur.toList.isEmpty && (lettB m.sur && lettB m.giv)) = true := f1
    rw [Bool.and_eq_true, Bool.and_eq_true] at f2
    unfold lettB at f2
    rw [Bool.and_eq_true, Bool.and_eq_true] at f2
    intro p hp
    simp only [List.mem_cons, List.not_mem_nil, or_false] at hp
    rcases hp with rfl | rfl
    · exact pc_let f2.2.1.2
    · exact pc_let f2.2.2.2
  · have hps' : ps ∈ (if m.exc = 0 then ([] : List (List ByteArray)) else [[wExc m.exc]]) := hps
    split at hps'
    · cases hps'
    · obtain rfl := List.mem_singleton.1 hps'
      intro p hp
      obtain rfl := List.mem_singleton.1 hp
      unfold wExc; repeat' split
      all_goals decide +kernel
  · obtain rfl := List.mem_singleton.1 (show ps ∈ [[m.node]] from hps)
    intro p hp
    obtain rfl := List.mem_singleton.1 hp
    have f2 : nameB m.node = true := f1
    unfold nameB at f2
    rw [Bool.and_eq_true, Bool.and_eq_true] at f2
    exact pc_byte ldU (fun _ h => pc_ld h) f2.2.2
  · obtain ⟨x, hx2, rfl⟩ := List.mem_map.1 (show ps ∈ (chunks m.lst.length m.lst).map (fun x => x.map three) from hps)
    intro p hp
    obtain ⟨y, -, rfl⟩ := List.mem_map.1 hp
    exact pc_dig (three_dig _)
/-- Eleven elements at most. -/
theorem enc_few {m : Msg} (hv : valE m = 0) : (encT m).els.length ≤ 11 := by
  obtain ⟨hk, -, hl, -⟩ := valE_ok.1 hv
  unfold limB at hl
  rw [Bool.and_eq_true, decide_eq_true_eq, decide_eq_true_eq] at hl
  obtain ⟨k1, k5⟩ := inB_iff.1 (show inB m.kind 1 5 = true from hk)
  have e86 : (writeP m 86).length = 1 := rfl
  have e73 : (writeP m 73).length = 1 := rfl
  have e70 : (writeP m 70).length = 1 := rfl
  have e78 : (writeP m 78).length = 1 := rfl
  have e83 : (writeP m 83).length = 1 := rfl
  have e87 : (writeP m 87).length = 1 := rfl
  have e80 : (writeP m 80).length = 1 := rfl
  have e74 : (writeP m 74).length = 1 := rfl
  have e88 : (writeP m 88).length ≤ 1 := by
    show (if m.exc = 0 then ([] : List (List ByteArray)) else [[wExc m.exc]]).length ≤ 1
    split <;> simp
  have e79 : (writeP m 79).length ≤ 3 := by
    show (m.onw.map legP).length ≤ 3
    rw [List.length_map]; exact hl.1
  have e66 : (writeP m 66).length ≤ 5 := by
    show (lstP m.lst).length ≤ 5
    rw [lstP_eq, List.length_map, List.length_range]
    unfold nCh
    omega
  show ((keysL m.kind).flatMap (elsK m)).length ≤ 11
  have hc : m.kind = 1 ∨ m.kind = 2 ∨ m.kind = 3 ∨ m.kind = 4 ∨ m.kind = 5 := by omega
  have el : ∀ k, (elsK m k).length = (writeP m k).length := fun k => by unfold elsK; rw [List.length_map]
  rcases hc with h | h | h | h | h
  · rw [h, show keysL 1 = [86, 70, 79, 78, 83, 87, 80, 88] from rfl]
    simp only [List.flatMap_cons, List.flatMap_nil, List.length_append, List.length_nil, el]
    omega
  · rw [h, show keysL 2 = [86, 73, 70, 79, 78, 83, 87, 80, 88] from rfl]
    simp only [List.flatMap_cons, List.flatMap_nil, List.length_append, List.length_nil, el]
    omega
  · rw [h, show keysL 3 = [86, 78, 74] from rfl]
    simp only [List.flatMap_cons, List.flatMap_nil, List.length_append, List.length_nil, el]
    omega
  · rw [h, show keysL 4 = [86, 70, 78] from rfl]
    simp only [List.flatMap_cons, List.flatMap_nil, List.length_append, List.length_nil, el]
    omega
  · rw [h, show keysL 5 = [86, 70, 66] from rfl]
    simp only [List.flatMap_cons, List.flatMap_nil, List.length_append, List.length_nil, el]
    omega
theorem wKind_let {k : Int} (h1 : 1 ≤ k) (h5 : k ≤ 5) : letN (wKind k) 3 = true := by
  have hc : k = 1 ∨ k = 2 ∨ k = 3 ∨ k = 4 ∨ k = 5 := by omega
  rcases hc with rfl | rfl | rfl | rfl | rfl <;> decide +kernel
theorem wAct_ok (k : Int) : okCh (wAct k) = true ∧ (wAct k).size ≤ 3 := by
  unfold wAct; repeat' split
  all_goals decide +kernel
/-- An element of a valid message's telegram. -/
theorem enc_el {m : Msg} (hv : valE m = 0) {e : El} (he : e ∈ (encT m).els) : felB e = true ∧ belB e = true ∧ (elX e).length ≤ 171 := by
  obtain ⟨x, hx, hm⟩ := List.mem_flatMap.1 (show e ∈ (keysL m.kind).flatMap (elsK m) from he)
  obtain ⟨ps, hps, rfl⟩ := List.mem_map.1 (show e ∈ (writeP m x).map (fun ps => (one x, ps)) from hm)
  obtain ⟨⟨h0, h1⟩, h2⟩ := write_small hv hx ps hps
  obtain ⟨k1, h3⟩ := write_pc hv hx
  refine ⟨?_, ?_, ?_⟩
  · unfold felB
    rw [k1, Bool.and_eq_true, Bool.and_eq_true]
    refine ⟨rfl, ?_, List.all_eq_true.2 (h3 ps hps)⟩
    have : (ps.length == 0) = false := by rw [beq_eq_false_iff_ne]; omega
    show (!(ps.length == 0)) = true
    rw [this]; rfl
  · unfold belB
    rw [Bool.and_eq_true, decide_eq_true_eq]
    exact ⟨h1, List.all_eq_true.2 fun p hp => decide_eq_true (h2 p hp)⟩
  · unfold elX
    have hf := flat_lens partX 21 ps fun p hp => by
      have := h2 p hp
      unfold partX
      simp
      omega
    have ho : (one x).data.toList.length = 1 := by have := one_size x; simpa using this
    simp only [List.length_cons, List.length_append, List.length_nil]
    have : ps.length * 21 ≤ 8 * 21 := Nat.mul_le_mul_right _ h1
    omega
/-- The telegram of a valid message is valid. -/
theorem enc_tel {m : Msg} (hv : valE m = 0) : telE (encT m) = 0 := by
  obtain ⟨hk, -⟩ := valE_ok.1 hv
  obtain ⟨k1, k5⟩ := inB_iff.1 (show inB m.kind 1 5 = true from hk)
  have h11 := enc_few hv
  have hK := wKind_let k1 k5
  have hA := wAct_ok m.act
  refine telE_0 ?_ ?_ ?_
  · unfold telF
    rw [Bool.and_eq_true, Bool.and_eq_true]
    exact ⟨hK, hA.1, List.all_eq_true.2 fun e he => (enc_el hv he).1⟩
  · unfold telB
    rw [Bool.and_eq_true, decide_eq_true_eq]
    exact ⟨by omega, List.all_eq_true.2 fun e he => (enc_el hv he).2.1⟩
  · have hf := flat_lens elX 171 (encT m).els fun e he => (enc_el hv he).2.2
    have : (encT m).els.length * 171 ≤ 11 * 171 := Nat.mul_le_mul_right _ h11
    have s3 : (encT m).kind.data.toList.length = 3 := by
      have := letN_size hK
      have e : (encT m).kind = wKind m.kind := rfl
      rw [e]
      simp
      omega
    have a3 : (encT m).change.data.toList.length ≤ 3 := by
      have e : (encT m).change = wAct m.act := rfl
      rw [e]
      simpa using hA.2
    unfold telX headX endX
    simp only [List.length_append, List.length_cons, List.length_nil]
    have : (if (encT m).change.toList.isEmpty = true then ([] : List UInt8) else (encT m).change.data.toList ++ [10]).length ≤ 4 := by
      split
      · simp
      · simp only [List.length_append, List.length_cons, List.length_nil]; omega
    omega
/-- What Decode gives for the telegram of a valid message. -/
theorem enc_dec {m : Msg} (h : valE m = 0) : decM (encT m) = m ∧ decE (encT m) = 0 := by
  obtain ⟨hk, -⟩ := valE_ok.1 h
  obtain ⟨k1, k5⟩ := inB_iff.1 (show inB m.kind 1 5 = true from hk)
  have e : findW wKind (-1) (encT m).kind = m.kind := find_kind _ hk
  have ho : okD (encT m) = true := by
    unfold okD
    rw [read_enc h, decide_eq_true h, decide_eq_true rfl]; rfl
  unfold decM decE
  have hk : ¬ findW wKind (-1) (encT m).kind < 1 := by rw [e]; omega
  rw [if_neg hk, if_neg hk, ho, read_enc h]
  exact ⟨rfl, rfl⟩
/-- A telegram that is accepted. -/
theorem dec_yes {t : Tel} (h : decE t = 0) : decM t = readT t ∧ valE (readT t) = 0 ∧ encT (readT t) = t := by
  unfold decE at h
  unfold decM
  split at h
  · omega
  · rename_i h1
    split at h
    · rename_i h2
      rw [if_neg h1, if_pos h2]
      unfold okD at h2
      rw [Bool.and_eq_true, decide_eq_true_eq, decide_eq_true_eq] at h2
      exact ⟨rfl, h2⟩
    · omega
theorem valid_seq {m : Msg} (h : valE m = 0) : m.lst.length ≤ 40 ∧ m.onw.length ≤ 3 ∧ m.lst.all seqB = true := by
  obtain ⟨hk, ho, hl, -, -, hr, -⟩ := valE_ok.1 h
  unfold limB at hl
  rw [Bool.and_eq_true, decide_eq_true_eq, decide_eq_true_eq] at hl
  refine ⟨hl.2, hl.1, ?_⟩
  by_cases h5 : m.kind = 5
  · have := List.all_eq_true.1 hr 66 (by rw [h5]; decide)
    exact this
  · have : m.lst = [] := by
      obtain ⟨k1, k5⟩ := inB_iff.1 (show inB m.kind 1 5 = true from hk)
      have hc : m.kind = 1 ∨ m.kind = 2 ∨ m.kind = 3 ∨ m.kind = 4 := by omega
      rw [ho]
      unfold ownM
      rcases hc with h | h | h | h <;> rw [h] <;> rfl
    rw [this]; rfl
end Go.Proofs.YtglgobmmmghdoaaGreatDoor

namespace Go.Proofs.YtglgobmmmghdoaaGreatDoor
open Go.RowKit

theorem ints_on {w w' : World} {A : Option Addr} {n : Nat} (h : IntsIn w.heap.size w A n) (hb : Below w.heap.size w w') : IntsIn w'.heap.size w' A n := fun hn => by
  obtain ⟨g, off, hA, hg, hx⟩ := h hn
  have := hb.size
  refine ⟨g, off, hA, by omega, fun i hi => ?_⟩
  obtain ⟨x, hx⟩ := hx i hi
  exact ⟨x, kept hb hx⟩
abbrev telO (t : Tel) (A : Option Addr) (c : Nat) : Obj := .cells #[.string t.kind, .string t.change, .slice A t.els.length c] 25

/-- Some blocks, and what stands in them. -/
def Has (W : World) (l : List (Nat × Obj)) : Prop := ∀ x ∈ l, W.heap[x.1]? = some x.2
section
variable {W W' : World} {l : List (Nat × Obj)}
theorem Has.keep (h : Has W l) (hb : Below W.heap.size W W') : Has W' l := fun x hx => (hb.block _ (Array.getElem?_eq_some_iff.1 (h x hx)).1).trans (h x hx)
theorem Has.nil : Has W [] := fun _ h => by cases h
theorem Has.new (h : Has W l) (o : Obj) : Has (W.alloc o) ((W.heap.size, o) :: l) := fun x hx => by
  rcases List.mem_cons.1 hx with rfl | hx
  · exact heap_alloc_new W o
  · exact (h.keep ((Below.refl _ _).alloc (Nat.le_refl _) _)) x hx
theorem Has.tel {t : Tel} {A : Option Addr} {c g : Nat} (h : Has W l) (hg : (g, telO t A c) ∈ l) : W.cell? ⟨g, 0, none⟩ = some (.string t.kind) ∧ W.cell? ⟨g, 1, none⟩ = some (.string t.change) ∧ W.cell? ⟨g, 2, none⟩ = some (.slice A t.els.length c) := by
  have := h _ hg
  exact ⟨by rw [Lib.cell_of_heap this]; rfl, by rw [Lib.cell_of_heap this]; rfl, by rw [Lib.cell_of_heap this]; rfl⟩
end

theorem encode_tel (b : Nat) (m : Msg) (T : Tel) (hTm : encT m = T) (hv : valE m = 0) (A L : Option Addr) (c d : Nat) (w : World) (hb : b < w.heap.size) (h1 : LegsIn b w A m.onw) (h2 : NumsIn b w L m.lst) (hd : m.lst.length ≤ d) (hK : Keys w) (hT : Tabs w) :
    Calls Tryz.prog 7 #[msgV m A c L d] w fun e w' => ∃ A c, e = .returned (.tuple #[.agg #[.string T.kind, .string T.change, .slice A T.els.length c], .int .i64 0]) ∧ ElsIn b w' A T.els ∧ Below w.heap.size w w' := by
  subst hTm
  have hs := valid_seq hv
  exact enc_ok b m A L c d w hb h1 h2 hK hT hv (fun W _ h2 h3 _ => wr_66 b m A L c d W h2 (by omega) hs.2.2 h3 hd)
theorem decode_any (b : Nat) (t : Tel) (A : Option Addr) (c : Nat) (w : World) (hb : b < w.heap.size) (ht : FitT t) (hE : ElsIn b w A t.els) (hK : Keys w) (hT : Tabs w) :
    Calls Tryz.prog 8 #[.agg #[.string t.kind, .string t.change, .slice A t.els.length c]] w (DecodedC b w t) :=
  dec_cap b t A c w hb ht hE hK hT (fun W A c L d _ h2 h3 hv _ h5 => wr_66 b (readT t) A L c d W h2 (by have := (valid_seq hv).1; omega) (valid_seq hv).2.2 h3 h5)
theorem decode_tel (b : Nat) (m : Msg) (T : Tel) (hTm : encT m = T) (hv : valE m = 0) (A : Option Addr) (c : Nat) (w : World) (hb : b < w.heap.size) (hE : ElsIn b w A T.els) (hK : Keys w) (hT : Tabs w) :
    Calls Tryz.prog 8 #[.agg #[.string T.kind, .string T.change, .slice A T.els.length c]] w fun e w' => ∃ A c L d, e = .returned (.tuple #[msgV m A c L d, .int .i64 0]) ∧ LegsIn b w' A m.onw ∧ NumsIn b w' L m.lst ∧ Below w.heap.size w w' := by
  subst hTm
  refine (decode_any b (encT m) A c w hb (enc_fits hv) hE hK hT).mono ?_
  rintro e w' ⟨A', c', L', d', rfl, h1, h2, h3, _⟩
  rw [(enc_dec hv).1] at h1 h2
  exact ⟨A', c', L', d', by rw [(enc_dec hv).1, (enc_dec hv).2], h1, h2, h3⟩
theorem rsame_eq (b : Nat) (m : Msg) (hv : valE m = 0) (A A' L L' : Option Addr) (c c' d d' : Nat) (w : World) (h1 : LegsIn b w A m.onw) (h2 : LegsIn b w A' m.onw) (h3 : NumsIn b w L m.lst) (h4 : NumsIn b w L' m.lst) :
    Calls Tryz.prog 11 #[msgV m A c L d, msgV m A' c' L' d'] w fun e w' => e = .returned (.bool true) ∧ Below w.heap.size w w' := by
  have hs := valid_seq hv
  have h := rsame4_any b m m A A' L L' c c' d d' w (by omega) (by omega) h1 h2 h3 h4
  have e : sameM m m = true := decide_eq_true rfl
  rwa [e] at h
theorem val_zero (b : Nat) (m : Msg) (hv : valE m = 0) (A L : Option Addr) (c d : Nat) (w : World) (h1 : LegsIn b w A m.onw) (h2 : NumsIn b w L m.lst) (hK : Keys w) :
    Calls Tryz.prog 12 #[msgV m A c L d] w fun e w' => e = .returned (.int .i64 0) ∧ Below w.heap.size w w' := by
  have hs := valid_seq hv
  have h := val_any b m A L c d w (by omega) (by omega) h1 h2 hK
  rwa [hv] at h

set_option maxHeartbeats 1000000 in
set_option maxRecDepth 100000 in
theorem mback_any (A : Option Addr) (n c : Nat) (t : Tel) (P : Option Addr) (d : Nat) (w : World) (hc : n ≤ c) (hA : IntsIn w.heap.size w A n) (hP : ElsIn w.heap.size w P t.els) (hF : t.els.length ≤ 40 → FitT t) (hK : Keys w) (hT : Tabs w) :
    Calls Tryz.prog 3 #[.slice A n c, .agg #[.string t.kind, .string t.change, .slice P t.els.length d]] w fun e w' => e = .returned (.bool true) ∧ Below w.heap.size w w' := by
  have b1 : Below w.heap.size w (w.alloc (telO t P d)) := (Below.refl _ _).alloc (Nat.le_refl _) _
  have HI := hide (ints_on hA b1)
  have HH1 := hide ((Has.nil (W := w)).new (telO t P d))
  have HB1 := hide b1
  have HP := hide hP
  have HK := hide hK
  have HT := hide hT
  have HF := hide hF
  have hz1 : (w.alloc (telO t P d)).heap.size = w.heap.size + 1 := World.size_alloc _ _
  have HZ1 := hide hz1
  clear b1 hA hP hK hT hF hz1
  by_cases h40 : t.els.length ≤ 40
  · have h40i : (t.els.length : Int) ≤ 40 := by omega
    have HFit := hide (unhide HF h40)
    clear HF h40
    go_enter Tryz.func3, Tryz.ntmps3
    go_wp2_with fail
    refine (new_any A n c _ hc (unhide HI)).mono ?_
    rintro e w1 ⟨rfl, hs1, hb1⟩
    rw [World.size_alloc] at hs1
    have HH1' := hide ((unhide HH1).keep hb1)
    have HB1' := hide (onward (unhide HB1) hb1)
    have HS1 := hide hs1
    have HBb := hide hb1
    clear hb1 hs1 HI HH1
    go_wp2_with fail
    refine (message_cap _ _ _ (unhide HS1)).mono ?_
    rintro e w2 ⟨m, A2, c2, L2, d2, rfl, ⟨hv, -, -, -⟩, hl2, hn2, -, hg2, hd2⟩
    have hlt1 : w.heap.size < w1.heap.size := by have := (unhide HS1).lt; omega
    have k2 : w1.grownBy w2 (some (w.heap.size + 1)) := hg2
    have B2 := below_reads (unhide HB1') hg2 (by omega) (Nat.le_of_lt hlt1)
    have hH2 : Has w2 [(w.heap.size, telO t P d)] := fun x hx => by
      obtain rfl := List.mem_singleton.1 hx
      exact (k2.block _ hlt1 (fun e => by injection e with e; omega)).trans ((unhide HH1') _ (List.mem_singleton.2 rfl))
    have b3 := (Below.refl w2.heap.size w2).alloc (Nat.le_refl _) (msgO m A2 c2 L2 d2)
    have HB3 := hide (onward B2 b3)
    have HH3 := hide (hH2.new (msgO m A2 c2 L2 d2))
    have HL3 := hide ((hl2 w.heap.size hlt1).keep b3)
    have HN3 := hide ((hn2 w.heap.size hlt1).keep b3)
    have HV := hide hv
    have HD := hide hd2
    obtain ⟨T, hTm⟩ : ∃ T, encT m = T := ⟨_, rfl⟩
    have HTm := hide hTm
    have HTel := hide (show telE T = 0 by rw [← hTm]; exact enc_tel hv)
    have hltw : w.heap.size < (w2.alloc (msgO m A2 c2 L2 d2)).heap.size := by have := B2.size; rw [World.size_alloc]; omega
    have HEnc := hide (encode_tel w.heap.size m T hTm hv A2 L2 c2 d2 (w2.alloc (msgO m A2 c2 L2 d2)) hltw (unhide HL3) (unhide HN3) hd2 ((unhide HK).keep (unhide HB3)) ((unhide HT).keep (unhide HB3)))
    clear hv hl2 hn2 hg2 hd2 k2 B2 hH2 b3 hTm hltw HS1 HBb HB1' HH1' hlt1
    go_wp2_with (first
      | (refine wpList_storeM_new rfl m A2 c2 L2 d2 rfl _ _ rfl rfl rfl rfl ?_)
      | (refine wpList_loadM (heap_alloc_new w2 _) rfl _ rfl rfl ?_))
    refine (unhide HEnc).mono ?_
    rintro e w4 ⟨A4, c4, rfl, hE4, hb4⟩
    have b5 := (Below.refl w4.heap.size w4).alloc (Nat.le_refl _) (telO T A4 c4)
    have HB5 := hide (onward (onward (unhide HB3) hb4) b5)
    have HH5 := hide (((unhide HH3).keep hb4).new (telO T A4 c4))
    have HL5 := hide (((unhide HL3).keep hb4).keep b5)
    have HN5 := hide (((unhide HN3).keep hb4).keep b5)
    have HE5 := hide (hE4.keep b5)
    clear hE4 hb4 b5 HEnc HB3 HH3 HL3 HN3
    go_wp2_with fail
    refine (decode_tel w.heap.size m T (unhide HTm) (unhide HV) A4 c4 _ (Array.getElem?_eq_some_iff.1 ((unhide HH5) (w.heap.size, telO t P d) (by simp))).1 (unhide HE5) ((unhide HK).keep (unhide HB5)) ((unhide HT).keep (unhide HB5))).mono ?_
    rintro e w6 ⟨A6, c6, L6, d6, rfl, hL6, hN6, hb6⟩
    have b7 := (Below.refl w6.heap.size w6).alloc (Nat.le_refl _) (msgO m A6 c6 L6 d6)
    have HB7 := hide (onward (onward (unhide HB5) hb6) b7)
    have HH7 := hide (((unhide HH5).keep hb6).new (msgO m A6 c6 L6 d6))
    have HL7 := hide (((unhide HL5).keep hb6).keep b7)
    have HN7 := hide (((unhide HN5).keep hb6).keep b7)
    have HE7 := hide (((unhide HE5).keep hb6).keep b7)
    have HXL7 := hide (hL6.keep b7)
    have HXN7 := hide (hN6.keep b7)
    clear hL6 hN6 hb6 b7 HB5 HH5 HL5 HN5 HE5
    obtain ⟨t0, t1, t2⟩ := (unhide HH7).tel (t := T) (A := A4) (c := c4) (g := w4.heap.size) (by simp)
    go_wp2_with (refine wpList_storeM_new rfl m A6 c6 L6 d6 rfl _ _ rfl rfl rfl rfl ?_)
    refine (format_ok w.heap.size T A4 c4 _ (unhide HTel) (unhide HE7)).mono ?_
    rintro e w8 ⟨rfl, hb8⟩
    have HB8 := hide (onward (unhide HB7) hb8)
    have HH8 := hide ((unhide HH7).keep hb8)
    have HL8 := hide ((unhide HL7).keep hb8)
    have HN8 := hide ((unhide HN7).keep hb8)
    have HXL8 := hide ((unhide HXL7).keep hb8)
    have HXN8 := hide ((unhide HXN7).keep hb8)
    clear hb8 t0 t1 t2 HB7 HH7 HL7 HN7 HE7 HXL7 HXN7
    go_wp2_with fail
    refine (parse_ok w.heap.size (t := T) _ (unhide HTel) (by exact ((Array.getElem?_eq_some_iff.1 ((unhide HH8) (w.heap.size, telO t P d) (by simp))).1))).mono ?_
    rintro e w9 ⟨A9, c9, rfl, hE9, hb9⟩
    have b10 := (Below.refl w9.heap.size w9).alloc (Nat.le_refl _) (telO T A9 c9)
    have hb10 := onward hb9 b10
    have HB10 := hide (onward (unhide HB8) hb10)
    have HH10 := hide (((unhide HH8).keep hb9).new (telO T A9 c9))
    have HL10 := hide ((unhide HL8).keep hb10)
    have HN10 := hide ((unhide HN8).keep hb10)
    have HXL10 := hide ((unhide HXL8).keep hb10)
    have HXN10 := hide ((unhide HXN8).keep hb10)
    have HE10 := hide (hE9.keep b10)
    clear hE9 hb9 b10 hb10 HB8 HH8 HL8 HN8 HXL8 HXN8
    go_wp2_with fail
    refine (decode_tel w.heap.size m T (unhide HTm) (unhide HV) A9 c9 _ (by exact ((Array.getElem?_eq_some_iff.1 ((unhide HH10) (w.heap.size, telO t P d) (by simp))).1)) (unhide HE10) ((unhide HK).keep (unhide HB10)) ((unhide HT).keep (unhide HB10))).mono ?_
    rintro e w11 ⟨A11, c11, L11, d11, rfl, hL11, hN11, hb11⟩
    have b12 := (Below.refl w11.heap.size w11).alloc (Nat.le_refl _) (msgO m A11 c11 L11 d11)
    have hb12 := onward hb11 b12
    have HB12 := hide (onward (unhide HB10) hb12)
    have HH12 := hide (((unhide HH10).keep hb11).new (msgO m A11 c11 L11 d11))
    have HL12 := hide ((unhide HL10).keep hb12)
    have HN12 := hide ((unhide HN10).keep hb12)
    have HXL12 := hide ((unhide HXL10).keep hb12)
    have HXN12 := hide ((unhide HXN10).keep hb12)
    have HYL12 := hide (hL11.keep b12)
    have HYN12 := hide (hN11.keep b12)
    clear hL11 hN11 hb11 b12 hb12 HB10 HH10 HL10 HN10 HXL10 HXN10 HE10
    have HM12 := hide ((unhide HH12) (w2.heap.size, msgO m A2 c2 L2 d2) (by simp))
    have HX12 := hide ((unhide HH12) (w6.heap.size, msgO m A6 c6 L6 d6) (by simp))
    go_wp2_with (first
      | (refine wpList_storeM_new rfl m A11 c11 L11 d11 rfl _ _ rfl rfl rfl rfl ?_)
      | ((with_reducible show wpList _ _ _ _ _ (w11.alloc (msgO m A11 c11 L11 d11))); refine wpList_loadM_w (unhide HM12) _ rfl rfl rfl ?_)
      | ((with_reducible show wpList _ _ _ _ _ (w11.alloc (msgO m A11 c11 L11 d11))); refine wpList_loadM_w (unhide HX12) _ rfl rfl rfl ?_))
    refine (rsame_eq w.heap.size m (unhide HV) A2 A6 L2 L6 c2 c6 d2 d6 _ (unhide HL12) (unhide HXL12) (unhide HN12) (unhide HXN12)).mono ?_
    rintro e w13 ⟨rfl, hb13⟩
    have HB13 := hide (onward (unhide HB12) hb13)
    have HH13 := hide ((unhide HH12).keep hb13)
    have HL13 := hide ((unhide HL12).keep hb13)
    have HN13 := hide ((unhide HN12).keep hb13)
    have HYL13 := hide ((unhide HYL12).keep hb13)
    have HYN13 := hide ((unhide HYN12).keep hb13)
    clear hb13 HB12 HH12 HL12 HN12 HXL12 HXN12 HYL12 HYN12 HM12 HX12
    have HM13 := hide ((unhide HH13) (w2.heap.size, msgO m A2 c2 L2 d2) (by simp))
    have HY13 := hide ((unhide HH13) (w11.heap.size, msgO m A11 c11 L11 d11) (by simp))
    go_wp2_with (first
      | ((with_reducible show wpList _ _ _ _ _ w13); refine wpList_loadM_w (unhide HM13) _ rfl rfl rfl ?_)
      | ((with_reducible show wpList _ _ _ _ _ w13); refine wpList_loadM_w (unhide HY13) _ rfl rfl rfl ?_))
    refine (rsame_eq w.heap.size m (unhide HV) A2 A11 L2 L11 c2 c11 d2 d11 _ (unhide HL13) (unhide HYL13) (unhide HN13) (unhide HYN13)).mono ?_
    rintro e w14 ⟨rfl, hb14⟩
    have HB14 := hide (onward (unhide HB13) hb14)
    have HH14 := hide ((unhide HH13).keep hb14)
    have HL14 := hide ((unhide HL13).keep hb14)
    have HN14 := hide ((unhide HN13).keep hb14)
    clear hb14 HB13 HH13 HL13 HN13 HYL13 HYN13 HM13 HY13
    have HM14 := hide ((unhide HH14) (w2.heap.size, msgO m A2 c2 L2 d2) (by simp))
    go_wp2_with ((with_reducible show wpList _ _ _ _ _ w14); refine wpList_loadM_w (unhide HM14) _ rfl rfl rfl ?_)
    refine (val_zero w.heap.size m (unhide HV) A2 L2 c2 d2 _ (unhide HL14) (unhide HN14) ((unhide HK).keep (unhide HB14))).mono ?_
    rintro e w15 ⟨rfl, hb15⟩
    have HB15 := hide (onward (unhide HB14) hb15)
    have HH15 := hide ((unhide HH14).keep hb15)
    clear hb15 HB14 HH14 HL14 HN14 HM14
    obtain ⟨t0, t1, t2⟩ := (unhide HH15).tel (t := t) (A := P) (c := d) (g := w.heap.size) (by simp)
    go_wp2_with fail
    refine (decode_any w.heap.size t P d _ (by exact ((Array.getElem?_eq_some_iff.1 ((unhide HH15) (w.heap.size, telO t P d) (by simp))).1)) (unhide HFit) ((unhide HP).keep (unhide HB15)) ((unhide HK).keep (unhide HB15)) ((unhide HT).keep (unhide HB15))).mono ?_
    rintro e w16 ⟨A16, c16, L16, d16, rfl, hL16, hN16, hb16, hd16⟩
    by_cases hd : decE t = 0
    · obtain ⟨q1, q2, q3⟩ := dec_yes hd
      rw [q1] at hL16 hN16 hd16 ⊢
      rw [hd]
      generalize readT t = z at *
      have b17 := (Below.refl w16.heap.size w16).alloc (Nat.le_refl _) (msgO z A16 c16 L16 d16)
      have hb17 := onward hb16 b17
      have HB17 := hide (onward (unhide HB15) hb17)
      have HH17 := hide (((unhide HH15).keep hb16).new (msgO z A16 c16 L16 d16))
      have HSm := hide (show SmallT t by rw [← q3]; exact enc_small q2)
      have HEnc := hide (encode_tel w.heap.size z t q3 q2 A16 L16 c16 d16 (w16.alloc (msgO z A16 c16 L16 d16)) (Array.getElem?_eq_some_iff.1 ((unhide HH17) (w.heap.size, telO t P d) (by simp))).1 (hL16.keep b17) (hN16.keep b17) hd16 ((unhide HK).keep (unhide HB17)) ((unhide HT).keep (unhide HB17)))
      clear hL16 hN16 hb16 hd16 b17 hb17 HB15 HH15 t0 t1 t2 q1 q2 q3 hd
      go_wp2_with (first
        | (refine wpList_storeM_new rfl z A16 c16 L16 d16 rfl _ _ rfl rfl rfl rfl ?_)
        | (refine wpList_loadM (heap_alloc_new w16 _) rfl _ rfl rfl ?_))
      refine (unhide HEnc).mono ?_
      rintro e w18 ⟨A18, c18, rfl, hE18, hb18⟩
      have b19 := (Below.refl w18.heap.size w18).alloc (Nat.le_refl _) (telO t A18 c18)
      have hb19 := onward hb18 b19
      have HB19 := hide (onward (unhide HB17) hb19)
      have HH19 := hide (((unhide HH17).keep hb18).new (telO t A18 c18))
      have HE19 := hide (hE18.keep b19)
      clear hE18 hb18 b19 hb19 HB17 HH17 HEnc
      obtain ⟨t0, t1, t2⟩ := (unhide HH19).tel (t := t) (A := P) (c := d) (g := w.heap.size) (by simp)
      go_wp2_with fail
      refine (rsame_ok w.heap.size t A18 P c18 d _ (unhide HSm) (unhide HE19) ((unhide HP).keep (unhide HB19))).mono ?_
      rintro e w20 ⟨rfl, hb20⟩
      have HB20 := hide (onward (unhide HB19) hb20)
      clear hb20 t0 t1 t2 HB19 HH19 HE19
      go_wp2_with (go_at_call 4; refine (awake_msg _ ((unhide HK).keep (unhide HB20)) ((unhide HT).keep (unhide HB20))).mono ?_; rintro e wz ⟨rfl, hbz⟩; have HBZ := hide (onward (unhide HB20) hbz); clear hbz)
      go_ret
      exact ⟨rfl, unhide HBZ⟩
    · have hne : (decE t != 0) = true := by rw [bne_iff_ne]; exact hd
      have b17 := (Below.refl w16.heap.size w16).alloc (Nat.le_refl _) (msgO (decM t) A16 c16 L16 d16)
      have HB17 := hide (onward (onward (unhide HB15) hb16) b17)
      clear hL16 hN16 hb16 hd16 b17 HB15 HH15 t0 t1 t2 hd
      generalize decE t = ev at *
      generalize decM t = z at *
      go_wp2_with (first
        | (refine wpList_storeM_new rfl z A16 c16 L16 d16 rfl _ _ rfl rfl rfl rfl ?_)
        | (go_at_call 4; refine (awake_msg _ ((unhide HK).keep (unhide HB17)) ((unhide HT).keep (unhide HB17))).mono ?_; rintro e wz ⟨rfl, hbz⟩; have HBZ := hide (onward (unhide HB17) hbz); clear hbz))
      go_ret
      exact ⟨rfl, unhide HBZ⟩
  · have h40i : ¬ (t.els.length : Int) ≤ 40 := by omega
    have h41 : (40 : Int) < (t.els.length : Int) := by omega
    clear HF h40
    go_enter Tryz.func3, Tryz.ntmps3
    go_wp2_with (go_at_call 4; refine (awake_msg _ ((unhide HK).keep (unhide HB1)) ((unhide HT).keep (unhide HB1))).mono ?_; rintro e wz ⟨rfl, hbz⟩; have HBZ := hide (onward (unhide HB1) hbz); clear hbz)
    go_ret
    exact ⟨rfl, unhide HBZ⟩
end Go.Proofs.YtglgobmmmghdoaaGreatDoor
