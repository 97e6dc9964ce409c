/-
  Messages: Plates (both), light; awake of the messages' statements.
-/
import Derived.Test.YtglgobmmmghdoaaGreatDoorMsgAD
import Derived.Test.YtglgobmmmghdoaaGreatDoorLibP
import Derived.Test.YtglgobmmmghdoaaGreatDoorMsgD

/- MsgAE: Contracts of Plates (both) and of light. -/
namespace Go.Proofs.YtglgobmmmghdoaaGreatDoor
open Go.RowKit

/-- How many plates a message has. -/
def platesN (m : Msg) : Nat := if vld m.pl m.pa m.ps && inB m.cnt 1 99 then m.cnt.toNat else 0
/-- A run of plates in memory. -/
def PlatesAt (w : World) (P : Option Addr) (n : Nat) (l a s : Int) : Prop :=
  0 < n → ∃ g, P = some ⟨g, 0, none⟩ ∧ ∀ j, j < n * 3 → w.cell? ⟨g, j, none⟩ = some (.int .i64 (runC l a s j))
theorem PlatesAt.keep {w w1 : World} {P : Option Addr} {n : Nat} {l a s : Int} (h : PlatesAt w P n l a s) (hb : Below w.heap.size w w1) : PlatesAt w1 P n l a s := fun hn => by
  obtain ⟨g, hP, hc⟩ := h hn
  exact ⟨g, hP, fun j hj => kept hb (hc j hj)⟩
def GivesP (m : Msg) (W : World) (e : Ending) (w' : World) : Prop :=
  ∃ P c, e = .returned (.slice P (platesN m) c) ∧ PlatesAt w' P (platesN m) m.pl m.pa m.ps ∧ Below W.heap.size W w'
theorem platesN_le (m : Msg) : platesN m ≤ 99 := by
  unfold platesN
  split
  · rename_i h
    rw [Bool.and_eq_true] at h
    have := inB_iff.1 h.2
    omega
  · omega
theorem run_gives {F : FuncId} (hok : ∀ (l a s : Int) (n : Nat) (w : World), vld l a s = true → 1 ≤ n → n ≤ 99 → Calls Tryz.prog F #[.agg #[.int .i64 l, .int .i64 a, .int .i64 s], .int .i64 n] w (RunOk l a s n w))
    (hbad : ∀ (l a s n : Int) (w : World), vld l a s = false ∨ n < 1 ∨ 99 < n → Calls Tryz.prog F #[.agg #[.int .i64 l, .int .i64 a, .int .i64 s], .int .i64 n] w fun e w' => e = .returned (.tuple #[.slice none 0 0, .int .i64 1]) ∧ Below w.heap.size w w') (m : Msg) (w : World) :
    Calls Tryz.prog F #[.agg #[.int .i64 m.pl, .int .i64 m.pa, .int .i64 m.ps], .int .i64 m.cnt] w fun e w' => ∃ P c x, e = .returned (.tuple #[.slice P (platesN m) c, .int .i64 x]) ∧ PlatesAt w' P (platesN m) m.pl m.pa m.ps ∧ Below w.heap.size w w' := by
  by_cases h : (vld m.pl m.pa m.ps && inB m.cnt 1 99) = true
  · have hn : platesN m = m.cnt.toNat := by unfold platesN; rw [if_pos h]
    rw [Bool.and_eq_true] at h
    obtain ⟨h1, h2⟩ := h
    obtain ⟨q1, q2⟩ := inB_iff.1 h2
    obtain ⟨k, hk⟩ := Int.eq_ofNat_of_zero_le (show 0 ≤ m.cnt by omega)
    rw [hn, hk]
    have := hok m.pl m.pa m.ps k w h1 (by omega) (by omega)
    refine this.mono ?_
    rintro e w' ⟨b, c, rfl, hb, -, -, hc⟩
    exact ⟨some ⟨b, 0, none⟩, c, 0, rfl, fun _ => ⟨b, rfl, hc⟩, hb⟩
  · have hn : platesN m = 0 := by unfold platesN; rw [if_neg h]
    rw [hn]
    have hx : vld m.pl m.pa m.ps = false ∨ m.cnt < 1 ∨ 99 < m.cnt := by
      cases hv : vld m.pl m.pa m.ps with
      | false => exact .inl rfl
      | true =>
        right
        rw [hv, Bool.true_and] at h
        by_cases h1 : m.cnt < 1
        · exact .inl h1
        · right
          apply Int.not_le.1
          intro h2
          exact h (inB_iff.2 ⟨by omega, h2⟩)
    refine (hbad m.pl m.pa m.ps m.cnt w hx).mono ?_
    rintro e w' ⟨rfl, hb⟩
    exact ⟨none, 0, 1, rfl, fun h => absurd h (Nat.lt_irrefl 0), hb⟩

/-- A message is small. -/
def lightB (m : Msg) : Bool := decide (m.onw.length ≤ 20) && (decide (m.lst.length ≤ 100) && (decide (m.port.size ≤ 60) && (decide (m.sur.size ≤ 60) && (decide (m.giv.size ≤ 60) && decide (m.node.size ≤ 60)))))
theorem light_iff {m : Msg} : lightB m = true ↔ (m.onw.length ≤ 20 ∧ m.lst.length ≤ 100 ∧ m.port.size ≤ 60 ∧ m.sur.size ≤ 60 ∧ m.giv.size ≤ 60 ∧ m.node.size ≤ 60) := by
  unfold lightB; simp only [Bool.and_eq_true, decide_eq_true_eq]
end Go.Proofs.YtglgobmmmghdoaaGreatDoor

/- MsgAF: Contract of awake of messages. -/
namespace Go.Proofs.YtglgobmmmghdoaaGreatDoor
open Go.RowKit

def gA : Lg := ⟨⟨#[83, 75]⟩, 123, ⟨#[]⟩, 7, ⟨#[67, 80, 72]⟩, ⟨#[89]⟩⟩
def mA : Msg := { msg0 with kind := 4, port := ⟨#[65, 82, 78]⟩, num := 12, out := gA, pa := 117, ps := 5, cnt := 2 }
theorem mA_valid : valE mA = 0 := by decide +kernel
theorem mA_els : (encT mA).els = [(one 86, [⟨#[49, 76, 65, 82, 78]⟩, ⟨#[49, 50]⟩]), (one 70, legP gA), (one 78, [⟨#[48, 49, 49, 55, 48, 48, 48, 48, 48, 53]⟩, ⟨#[48, 48, 50]⟩])] := by decide +kernel
theorem mA_len : (encT mA).els.length = 3 := by rw [mA_els]; rfl
theorem mA_dec : decM (encT mA) = mA ∧ decE (encT mA) = 0 := by
  have hk : ¬ findW wKind (-1) (encT mA).kind < 1 := by decide +kernel
  have ho : okD (encT mA) = true := by
    unfold okD
    rw [read_enc mA_valid, decide_eq_true mA_valid, decide_eq_true rfl]; rfl
  unfold decM decE
  rw [if_neg hk, if_neg hk, ho, read_enc mA_valid]
  exact ⟨rfl, rfl⟩
theorem mA_fit : FitT (encT mA) := by
  have hs := enc_small mA_valid
  refine ⟨by have := enc_els mA_valid; omega, fun e he => ?_, fun e he p hp => ?_⟩
  · have := (hs.2.2.2 e he).1; omega
  · have := (hs.2.2.2 e he).2.2 p hp; omega
theorem mA_66 : (66 : Int) ∉ keysL mA.kind := by decide +kernel
theorem mA_enc (w : World) (hb : 0 < w.heap.size) (hK : Keys w) (hT : Tabs w) :
    Calls Tryz.prog 7 #[msgV mA none 0 none 0] w fun e w' => ∃ A c, e = .returned (.tuple #[.agg #[.string ⟨#[66, 85, 77]⟩, .string ⟨#[]⟩, .slice A 3 c], .int .i64 0]) ∧ ElsIn 0 w' A (encT mA).els ∧ Below w.heap.size w w' := by
  have h := enc_ok 0 mA none none 0 0 w hb (LegsIn.nil _ _ _) (NumsIn.nil _ _ _) hK hT mA_valid (fun _ _ _ _ h => absurd h mA_66)
  refine h.mono ?_
  rintro e w' ⟨A, c, rfl, h1, h2⟩
  refine ⟨A, c, ?_, h1, h2⟩
  rw [mA_len]; rfl
theorem mA_decode (A : Option Addr) (c : Nat) (w : World) (hb : 0 < w.heap.size) (hE : ElsIn 0 w A (encT mA).els) (hK : Keys w) (hT : Tabs w) :
    Calls Tryz.prog 8 #[.agg #[.string ⟨#[66, 85, 77]⟩, .string ⟨#[]⟩, .slice A 3 c]] w fun e w' => ∃ A c L d, e = .returned (.tuple #[msgV mA A c L d, .int .i64 0]) ∧ LegsIn 0 w' A mA.onw ∧ NumsIn 0 w' L mA.lst ∧ Below w.heap.size w w' := by
  have h := dec_ok 0 (encT mA) A c w hb mA_fit hE hK hT (fun _ _ _ _ _ _ _ _ _ h _ => by rw [read_enc mA_valid] at h; exact absurd h mA_66)
  rw [mA_len] at h
  refine h.mono ?_
  rintro e w' ⟨A', c', L', d', rfl, h1, h2, h3⟩
  rw [mA_dec.1] at h1 h2
  refine ⟨A', c', L', d', ?_, h1, h2, h3⟩
  rw [mA_dec.1, mA_dec.2]

abbrev telZ (A : Option Addr) (c : Nat) : Obj := .cells #[.string ⟨#[66, 85, 77]⟩, .string ⟨#[]⟩, .slice A 3 c] 25
theorem two_strs {b : Nat} {W : World} (hb : b < W.heap.size) (x y : ByteArray) : StrsIn b (W.alloc (.cells #[.string x, .string y] 9)) (some ⟨W.heap.size, 0, none⟩) [x, y] := (strs_new hb [x, y]).strs

set_option maxHeartbeats 4000000 in
set_option maxRecDepth 100000 in
theorem awake_msg (w : World) (hK : Keys w) (hT : Tabs w) :
    Calls Tryz.prog 4 #[] w fun e w' => e = .returned (.bool true) ∧ Below w.heap.size w w' := by
  have hlt := hT.lt
  obtain ⟨W1, hW⟩ : ∃ W1 : World, w.alloc (.cells #[.string ⟨#[83, 75]⟩, .int .i64 123, .string ⟨#[]⟩, .int .i64 7, .string ⟨#[67, 80, 72]⟩, .string ⟨#[89]⟩] 30) = W1 := ⟨_, rfl⟩
  have b1 : Below w.heap.size w W1 := by rw [← hW]; exact (Below.refl _ _).alloc (Nat.le_refl _) _
  have hz1 : W1.heap.size = w.heap.size + 1 := by rw [← hW, World.size_alloc]
  have hg : ∀ k v, (#[.string ⟨#[83, 75]⟩, .int .i64 123, .string ⟨#[]⟩, .int .i64 7, .string ⟨#[67, 80, 72]⟩, .string ⟨#[89]⟩] : Array Value)[k]? = some v → W1.cell? ⟨w.heap.size, k, none⟩ = some v := fun k v hk => by rw [← hW, Lib.cell_of_heap (heap_alloc_new w _)]; exact hk
  have z0 := hg 0 _ rfl
  have z1 := hg 1 _ rfl
  have z2 := hg 2 _ rfl
  have z3 := hg 3 _ rfl
  have z4 := hg 4 _ rfl
  have z5 := hg 5 _ rfl
  have b2 := below_new b1 (msgO mA none 0 none 0)
  have HEnc := hide (mA_enc (W1.alloc (msgO mA none 0 none 0)) (by rw [World.size_alloc]; omega) (hK.keep b2) (hT.keep b2))
  have HB2 := hide b2
  have HK := hide hK
  have HT := hide hT
  have HLT := hide hlt
  have HZ1 := hide hz1
  clear hg b1 b2 hK hT hlt hz1
  go_enter Tryz.func4, Tryz.ntmps4
  go_wp2_with (first
    | (refine wpList_storeM_new rfl mA none 0 none 0 rfl _ _ rfl rfl rfl rfl ?_)
    | (refine wpList_loadM (heap_alloc_new W1 _) rfl _ rfl rfl ?_))
  refine (unhide HEnc).mono ?_
  rintro e w3 ⟨A3, c3, rfl, hE3, hb3⟩
  have HB3 := hide (onward (unhide HB2) hb3)
  have HM3 := hide ((hb3.block W1.heap.size (by rw [World.size_alloc]; exact Nat.lt_succ_self _)).trans (heap_alloc_new W1 (msgO mA none 0 none 0)))
  have HE3 := hide hE3
  clear hb3 hE3 z0 z1 z2 z3 z4 z5 hW
  have b4 := (Below.refl w3.heap.size w3).alloc (Nat.le_refl _) (telZ A3 c3)
  have HB4 := hide (onward (unhide HB3) b4)
  have HM4 := hide ((b4.block W1.heap.size (Array.getElem?_eq_some_iff.1 (unhide HM3)).1).trans (unhide HM3))
  have HE4 := hide ((unhide HE3).keep b4)
  have HT4 := hide (heap_alloc_new w3 (telZ A3 c3))
  have HDec := hide (mA_decode A3 c3 (w3.alloc (telZ A3 c3)) (by have := (unhide HB4).size; have := unhide HLT; omega) (unhide HE4) ((unhide HK).keep (unhide HB4)) ((unhide HT).keep (unhide HB4)))
  clear b4
  go_wp2_with fail
  refine (unhide HDec).mono ?_
  rintro e w4 ⟨A4, c4, L4, d4, rfl, hL4, hN4, hb4⟩
  have b5 := onward hb4 ((Below.refl w4.heap.size w4).alloc (Nat.le_refl _) (msgO mA A4 c4 L4 d4))
  have b45 := (Below.refl w4.heap.size w4).alloc (Nat.le_refl _) (msgO mA A4 c4 L4 d4)
  have HB5 := hide (onward (unhide HB4) b5)
  have HM5 := hide ((b5.block W1.heap.size (Array.getElem?_eq_some_iff.1 (unhide HM4)).1).trans (unhide HM4))
  have HE5 := hide ((unhide HE4).keep b5)
  have HT5 := hide ((b5.block w3.heap.size (Array.getElem?_eq_some_iff.1 (unhide HT4)).1).trans (unhide HT4))
  have HSame := hide (show Calls Tryz.prog 11 #[msgV mA none 0 none 0, msgV mA A4 c4 L4 d4] (w4.alloc (msgO mA A4 c4 L4 d4)) fun e w' => e = .returned (.bool true) ∧ Below (w4.alloc (msgO mA A4 c4 L4 d4)).heap.size (w4.alloc (msgO mA A4 c4 L4 d4)) w' by
    have h := rsame4_any 0 mA mA none A4 none L4 0 c4 0 d4 (w4.alloc (msgO mA A4 c4 L4 d4)) (Nat.zero_le _) (Nat.zero_le _) (LegsIn.nil _ _ _) (hL4.keep b45) (NumsIn.nil _ _ _) (hN4.keep b45)
    have e : sameM mA mA = true := decide_eq_true rfl
    rw [e] at h
    exact h)
  clear hL4 hN4 hb4 b5 b45 HM4 HM3 HE3 HE4 HT4 HB3 HB2
  go_wp2_with (first
    | (refine wpList_storeM_new rfl mA A4 c4 L4 d4 rfl _ _ rfl rfl rfl rfl ?_)
    | ((with_reducible show wpList _ _ _ _ _ (w4.alloc (msgO mA A4 c4 L4 d4))); refine wpList_loadM_w (unhide HM5) _ rfl rfl rfl ?_)
    | ((with_reducible show wpList _ _ _ _ _ (w4.alloc (msgO mA A4 c4 L4 d4))); refine wpList_loadM_w (heap_alloc_new w4 _) _ rfl rfl rfl ?_))
  refine (unhide HSame).mono ?_
  rintro e w6 ⟨rfl, hb6⟩
  have HB6 := hide (onward (unhide HB5) hb6)
  have t2 : w6.cell? ⟨w3.heap.size, 2, none⟩ = some (.slice A3 3 c3) := by rw [Lib.cell_of_heap ((hb6.block w3.heap.size (Array.getElem?_eq_some_iff.1 (unhide HT5)).1).trans (unhide HT5))]; rfl
  have HE6 := hide ((unhide HE5).keep hb6)
  have h0 := dec_els (k := 0) (unhide HE6) (by rw [mA_len]; omega)
  have h2 := dec_els (k := 2) (unhide HE6) (by rw [mA_len]; omega)
  rw [mA_els] at h0 h2
  obtain ⟨g, off, P0, q0, rfl, -, p0, s0⟩ := h0
  obtain ⟨g', off', P2, q2, hA, -, p2, s2⟩ := h2
  obtain ⟨rfl, rfl⟩ : g = g' ∧ off = off' := by injection hA with hA; injection hA with h1 h2; exact ⟨h1, h2⟩
  have p0' : w6.cell? ⟨g, off + 1, none⟩ = some (.slice P0 2 q0) := p0
  have p2' : w6.cell? ⟨g, off + 5, none⟩ = some (.slice P2 2 q2) := p2
  have HS0 := hide (show StrsIn 0 w6 P0 [⟨#[49, 76, 65, 82, 78]⟩, ⟨#[49, 50]⟩] from s0)
  have HS2 := hide (show StrsIn 0 w6 P2 [⟨#[48, 49, 49, 55, 48, 48, 48, 48, 48, 53]⟩, ⟨#[48, 48, 50]⟩] from s2)
  have hw6 : 0 < w6.heap.size := by have := (unhide HB6).size; have := unhide HLT; omega
  have b7 := (Below.refl w6.heap.size w6).alloc (Nat.le_refl _) (.cells #[.string ⟨#[49, 76, 65, 82, 78]⟩, .string ⟨#[49, 50]⟩] 9)
  have HC1 := hide (show Calls Tryz.prog 14 #[.slice P0 2 q0, .slice (some ⟨w6.heap.size, 0, none⟩) 2 2] (w6.alloc (.cells #[.string ⟨#[49, 76, 65, 82, 78]⟩, .string ⟨#[49, 50]⟩] 9)) fun e w' => e = .returned (.bool true) ∧ Below (w6.alloc (.cells #[.string ⟨#[49, 76, 65, 82, 78]⟩, .string ⟨#[49, 50]⟩] 9)).heap.size (w6.alloc (.cells #[.string ⟨#[49, 76, 65, 82, 78]⟩, .string ⟨#[49, 50]⟩] 9)) w' by
    have h := kstr_any 0 [⟨#[49, 76, 65, 82, 78]⟩, ⟨#[49, 50]⟩] [⟨#[49, 76, 65, 82, 78]⟩, ⟨#[49, 50]⟩] P0 (some ⟨w6.heap.size, 0, none⟩) q0 2 (w6.alloc (.cells #[.string ⟨#[49, 76, 65, 82, 78]⟩, .string ⟨#[49, 50]⟩] 9)) (by decide) ((unhide HS0).keep b7) (two_strs hw6 _ _)
    rw [decide_eq_true rfl] at h
    exact h)
  have HB7 := hide (onward (unhide HB6) b7)
  have HS7 := hide ((unhide HS2).keep b7)
  have t2b := kept b7 t2
  have p2b := kept b7 p2'
  clear p0 p2 s0 s2 hA hb6 b7 hw6
  go_wp2_with fail
  refine (unhide HC1).mono ?_
  rintro e w8 ⟨rfl, hb8⟩
  have HB8 := hide (onward (unhide HB7) hb8)
  have hw8 : 0 < w8.heap.size := by have := (unhide HB8).size; have := unhide HLT; omega
  have b9 := (Below.refl w8.heap.size w8).alloc (Nat.le_refl _) (.cells #[.string ⟨#[48, 49, 49, 55, 48, 48, 48, 48, 48, 53]⟩, .string ⟨#[48, 48, 50]⟩] 9)
  have HC2 := hide (show Calls Tryz.prog 14 #[.slice P2 2 q2, .slice (some ⟨w8.heap.size, 0, none⟩) 2 2] (w8.alloc (.cells #[.string ⟨#[48, 49, 49, 55, 48, 48, 48, 48, 48, 53]⟩, .string ⟨#[48, 48, 50]⟩] 9)) fun e w' => e = .returned (.bool true) ∧ Below (w8.alloc (.cells #[.string ⟨#[48, 49, 49, 55, 48, 48, 48, 48, 48, 53]⟩, .string ⟨#[48, 48, 50]⟩] 9)).heap.size (w8.alloc (.cells #[.string ⟨#[48, 49, 49, 55, 48, 48, 48, 48, 48, 53]⟩, .string ⟨#[48, 48, 50]⟩] 9)) w' by
    have h := kstr_any 0 [⟨#[48, 49, 49, 55, 48, 48, 48, 48, 48, 53]⟩, ⟨#[48, 48, 50]⟩] [⟨#[48, 49, 49, 55, 48, 48, 48, 48, 48, 53]⟩, ⟨#[48, 48, 50]⟩] P2 (some ⟨w8.heap.size, 0, none⟩) q2 2 (w8.alloc (.cells #[.string ⟨#[48, 49, 49, 55, 48, 48, 48, 48, 48, 53]⟩, .string ⟨#[48, 48, 50]⟩] 9)) (by decide) (((unhide HS7).keep hb8).keep b9) (two_strs hw8 _ _)
    rw [decide_eq_true rfl] at h
    exact h)
  have HB9 := hide (onward (unhide HB8) b9)
  have t2c := kept hb8 t2b
  have p2c := kept hb8 p2b
  clear hb8 b9 hw8 t2 t2b p0' p2' p2b
  go_wp2_with fail
  refine (unhide HC2).mono ?_
  rintro e w10 ⟨rfl, hb10⟩
  have HB10 := hide (onward (unhide HB9) hb10)
  clear hb10
  go_wp2
  go_ret
  exact ⟨rfl, unhide HB10⟩
end Go.Proofs.YtglgobmmmghdoaaGreatDoor
