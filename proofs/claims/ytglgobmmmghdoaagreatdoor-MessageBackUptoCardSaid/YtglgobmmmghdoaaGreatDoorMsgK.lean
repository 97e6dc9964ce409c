/-
  Contracts of messages: readLeg, Itoa, write at all keys but O and F; the state of Encode.
-/
import Derived.Test.YtglgobmmmghdoaaGreatDoorMsgJ
import Derived.Test.YtglgobmmmghdoaaGreatDoorItoa
import Derived.Test.YtglgobmmmghdoaaGreatDoorParseF
import Derived.Test.YtglgobmmmghdoaaGreatDoorTelA
import Derived.Lib.OthersKept

/- MsgK: Contracts of messages: readLeg, Itoa. -/
namespace Go.Proofs.YtglgobmmmghdoaaGreatDoor
open Go.RowKit

abbrev zeroG : Array Value := #[.string ⟨#[]⟩, .int .i64 0, .string ⟨#[]⟩, .int .i64 0, .string ⟨#[]⟩, .string ⟨#[]⟩]
theorem alloc_cell {w : World} {a : Addr} {v : Value} (h : w.cell? a = some v) (o : Obj) : (w.alloc o).cell? a = some v := kept ((Below.refl _ _).alloc (Nat.le_refl _) o) h

set_option maxHeartbeats 4000000 in
theorem rdleg_any (a b x k : ByteArray) (w : World) (ha : a.size ≤ 1000000000000) (hb : b.size ≤ 1000000000000) :
    Calls Tryz.prog 52 #[.agg #[.string a, .string b, .string x, .string k]] w fun e w' => e = .returned (lgV (readLg a b x k)) ∧ Below w.heap.size w w' := by
  obtain ⟨W1, hW⟩ : ∃ W1 : World, (w.alloc (.cells #[.string a, .string b, .string x, .string k] 95)).alloc (.cells zeroG 30) = W1 := ⟨_, rfl⟩
  have hA : ∀ i v, (#[.string a, .string b, .string x, .string k] : Array Value)[i]? = some v → W1.cell? ⟨w.heap.size, i, none⟩ = some v := fun i v hk => by rw [← hW]; exact box_cell hk
  have hN : ∀ i v, zeroG[i]? = some v → W1.cell? ⟨w.heap.size + 1, i, none⟩ = some v := fun i v hk => by rw [← hW]; exact box_cell2 hk
  have hF : ∀ i, W1.frozen? ⟨w.heap.size + 1, i, none⟩ = false := fun i => by rw [← hW]; simp [go_sem]
  have b0 : Below w.heap.size w W1 := by rw [← hW]; exact ((Below.refl _ _).alloc (Nat.le_refl _) _).alloc (by rw [World.size_alloc]; omega) _
  have hz : W1.heap.size = w.heap.size + 1 + 1 := by rw [← hW, World.size_alloc, World.size_alloc]
  have z0 := hA 0 _ rfl
  have z1 := hA 1 _ rfl
  have hs1 : (a ++ ⟨#[47]⟩).size ≤ 2000000000000 := by rw [ByteArray.size_append]; show a.size + 1 ≤ _; omega
  have hs2 : (slash2 a b).size ≤ maxLen := by unfold slash2 maxLen; rw [ByteArray.size_append, ByteArray.size_append]; show a.size + 1 + b.size ≤ _; omega
  have HS := hide hs2
  have HA := hide hA
  have HN := hide hN
  have HF := hide hF
  have HB := hide b0
  have HZ := hide hz
  clear hA hN hF b0 hz hs2
  go_enter Tryz.func52, Tryz.ntmps52
  go_wp2_with fail
  refine (fparse_any (slash2 a b) _ (unhide HS)).mono ?_
  rintro e w2 ⟨rfl, hb2⟩
  have y2 := fun o => alloc_cell (kept hb2 (unhide HA 2 _ rfl)) o
  have y3 := fun o => alloc_cell (kept hb2 (unhide HA 3 _ rfl)) o
  have u0 := fun o => alloc_cell (kept hb2 (unhide HN 0 _ rfl)) o
  have u1 := fun o => alloc_cell (kept hb2 (unhide HN 1 _ rfl)) o
  have u2 := fun o => alloc_cell (kept hb2 (unhide HN 2 _ rfl)) o
  have u3 := fun o => alloc_cell (kept hb2 (unhide HN 3 _ rfl)) o
  have u4 := fun o => alloc_cell (kept hb2 (unhide HN 4 _ rfl)) o
  have u5 := fun o => alloc_cell (kept hb2 (unhide HN 5 _ rfl)) o
  have hf : ∀ o i, (w2.alloc o).frozen? ⟨w.heap.size + 1, i, none⟩ = false := fun o i => by
    rw [((hb2.trans ((Below.refl w2.heap.size w2).alloc (Nat.le_refl _) o |>.mono hb2.size))).frozen (by have := unhide HZ; simp only []; omega)]; exact unhide HF i
  have f0 := fun o => hf o 0
  have f1 := fun o => hf o 1
  have f2 := fun o => hf o 2
  have f3 := fun o => hf o 3
  have f4 := fun o => hf o 4
  have f5 := fun o => hf o 5
  have HB2 := hide ((unhide HB).trans (hb2.mono (unhide HB).size))
  clear hb2 hf z0 z1 HA HN HF
  go_wp2
  refine bodyPost_ret (v := .agg #[.string (fC (slash2 a b)), .int .i64 (fN (slash2 a b)), .string (fS (slash2 a b)), .int .i64 (fD (slash2 a b)), .string x, .string k]) (by simp [results, go_sem, u0, u1, u2, u3, u4, u5]) rfl ⟨rfl, ?_⟩
  exact ((((((below_new (unhide HB2) _).setCell (p := ⟨w.heap.size + 1, 0, none⟩) (Nat.le_succ _) _).setCell (p := ⟨w.heap.size + 1, 1, none⟩) (Nat.le_succ _) _).setCell (p := ⟨w.heap.size + 1, 2, none⟩) (Nat.le_succ _) _).setCell (p := ⟨w.heap.size + 1, 3, none⟩) (Nat.le_succ _) _).setCell (p := ⟨w.heap.size + 1, 4, none⟩) (Nat.le_succ _) _).setCell (p := ⟨w.heap.size + 1, 5, none⟩) (Nat.le_succ _) _

end Go.Proofs.YtglgobmmmghdoaaGreatDoor

/- MsgL: The parts that write returns, in memory; contracts of write at the keys P and J. -/
namespace Go.Proofs.YtglgobmmmghdoaaGreatDoor
open Go.RowKit

/-- Some lists of strings, in a row of slices known whole, each list in a row of its own. -/
def PartsIn (b : Nat) (w : World) (A : Option Addr) (pss : List (List ByteArray)) : Prop :=
  0 < pss.length → ∃ g cs fz, A = some ⟨g, 0, none⟩ ∧ g ≠ b ∧ w.heap[g]? = some (.cells cs 53 fz) ∧ ∀ i, i < pss.length → ∃ A' c', cs[i]? = some (.slice A' (pss.getD i []).length c') ∧ StrRow b w A' (pss.getD i [])
theorem PartsIn.step {b : Nat} {w w1 : World} {A : Option Addr} {pss : List (List ByteArray)} (h : PartsIn b w A pss) (k1 : KeepTy 9 w w1) (k2 : KeepTy 53 w w1) : PartsIn b w1 A pss := fun hn => by
  obtain ⟨g, cs, fz, hA, hg, hh, hc⟩ := h hn
  refine ⟨g, cs, fz, hA, hg, k2 _ _ _ hh, fun i hi => ?_⟩
  obtain ⟨A', c', h1, h2⟩ := hc i hi
  exact ⟨A', c', h1, h2.step (k1.s b)⟩
theorem PartsIn.keep {b : Nat} {w w1 : World} {A : Option Addr} {pss : List (List ByteArray)} (h : PartsIn b w A pss) (hb : Below w.heap.size w w1) : PartsIn b w1 A pss := h.step (KeepTy.below hb) (KeepTy.below hb)
theorem PartsIn.nil (b : Nat) (w : World) (A : Option Addr) : PartsIn b w A [] := fun h => absurd h (Nat.lt_irrefl 0)
/-- A list of strings in a new block. -/
theorem strs_new {b : Nat} {W : World} (hb : b < W.heap.size) (ps : List ByteArray) : StrRow b (W.alloc (.cells (ps.map Value.string).toArray 9)) (some ⟨W.heap.size, 0, none⟩) ps := fun _ => by
  refine ⟨W.heap.size, _, _, rfl, by omega, heap_alloc_new W _, fun j hj => ?_⟩
  simp [hj]
/-- One list of strings in a new block, its slice in the next one. -/
theorem parts_one {b : Nat} {W : World} (hb : b < W.heap.size) (ps : List ByteArray) (t u : TypeId) (ht : t = 9 := by rfl) (hu : u = 53 := by rfl) :
    PartsIn b ((W.alloc (.cells (ps.map Value.string).toArray t)).alloc (.cells #[.slice (some ⟨W.heap.size, 0, none⟩) ps.length ps.length] u)) (some ⟨W.heap.size + 1, 0, none⟩) [ps] := fun _ => by
  subst ht hu
  have e := heap_alloc_new (W.alloc (.cells (ps.map Value.string).toArray 9)) (.cells #[.slice (some ⟨W.heap.size, 0, none⟩) ps.length ps.length] 53)
  rw [World.size_alloc] at e
  refine ⟨W.heap.size + 1, _, _, rfl, by omega, e, fun i hi => ?_⟩
  obtain rfl : i = 0 := by simpa using hi
  exact ⟨some ⟨W.heap.size, 0, none⟩, ps.length, rfl, (strs_new hb ps).step ((KeepTy.below (below_new (Below.refl _ _) _)).s b)⟩
/-- What write gives. -/
def Writes (b : Nat) (W : World) (pss : List (List ByteArray)) (e : Ending) (w' : World) : Prop :=
  ∃ A c, e = .returned (.slice A pss.length c) ∧ PartsIn b w' A pss ∧ Below W.heap.size W w'

set_option maxHeartbeats 4000000 in
set_option maxRecDepth 100000 in
theorem wr_80 (b : Nat) (m : Msg) (A L : Option Addr) (c d : Nat) (w : World) (hb : b < w.heap.size) :
    Calls Tryz.prog 22 #[msgV m A c L d, .int .i32 80] w (Writes b w (writeP m 80)) := by
  have HP := hide (parts_one (b := b) (W := w.alloc (msgO m A c L d)) (by rw [World.size_alloc]; omega) [m.sur, m.giv] 9 53)
  have HV := hide (show writeP m 80 = [[m.sur, m.giv]] from rfl)
  clear hb
  go_enter Tryz.func22, Tryz.ntmps22
  go_wp2
  go_ret
  rw [unhide HV]
  have h := unhide HP
  rw [World.size_alloc] at h
  exact ⟨_, 1, rfl, h, below_new (below_new ((Below.refl _ _).alloc (Nat.le_refl _) _) _) _⟩

set_option maxHeartbeats 4000000 in
set_option maxRecDepth 100000 in
theorem wr_74 (b : Nat) (m : Msg) (A L : Option Addr) (c d : Nat) (w : World) (hb : b < w.heap.size) :
    Calls Tryz.prog 22 #[msgV m A c L d, .int .i32 74] w (Writes b w (writeP m 74)) := by
  have HP := hide (parts_one (b := b) (W := w.alloc (msgO m A c L d)) (by rw [World.size_alloc]; omega) [m.node] 9 53)
  have HV := hide (show writeP m 74 = [[m.node]] from rfl)
  clear hb
  go_enter Tryz.func22, Tryz.ntmps22
  go_wp2
  go_ret
  rw [unhide HV]
  have h := unhide HP
  rw [World.size_alloc] at h
  exact ⟨_, 1, rfl, h, below_new (below_new ((Below.refl _ _).alloc (Nat.le_refl _) _) _) _⟩
end Go.Proofs.YtglgobmmmghdoaaGreatDoor

/- MsgO: Contracts of writeException, and of write at the keys W and X. -/
namespace Go.Proofs.YtglgobmmmghdoaaGreatDoor
open Go.RowKit

/-- What write asks of the world: its tables. -/
structure Tabs (w : World) : Prop where
  words : Words w
  pow : Pow10 w
  lt : 6 ≤ w.heap.size
theorem Tabs.keep {w w1 : World} (h : Tabs w) (hb : Below w.heap.size w w1) : Tabs w1 :=
  ⟨h.words.keep hb, h.pow.keep hb (by have := h.lt; omega), Nat.le_trans h.lt hb.size⟩
theorem Tabs.alloc {w : World} (h : Tabs w) (o : Obj) : Tabs (w.alloc o) := h.keep ((Below.refl _ _).alloc (Nat.le_refl _) o)

set_option maxHeartbeats 4000000 in
set_option maxRecDepth 100000 in
theorem wr_87 (b : Nat) (m : Msg) (A L : Option Addr) (c d : Nat) (w : World) (hb : b < w.heap.size) (hT : Tabs w) (hr : inB m.wgt 0 999 = true) :
    Calls Tryz.prog 22 #[msgV m A c L d, .int .i32 87] w (Writes b w (writeP m 87)) := by
  obtain ⟨r0, r1⟩ := inB_iff.1 hr
  have HV := hide (show writeP m 87 = [[⟨#[75]⟩, decS m.wgt]] from rfl)
  have HP := hide (hT.alloc (msgO m A c L d)).pow
  have HB0 := hide ((Below.refl w.heap.size w).alloc (Nat.le_refl _) (msgO m A c L d))
  have HBB := hide hb
  clear hb hr hT
  go_enter Tryz.func22, Tryz.ntmps22
  go_wp2_with (go_at_call 43; refine (itoa_any m.wgt _ (unhide HP) (by omega) (by omega)).mono ?_; rintro e w2 ⟨rfl, hb2⟩; have HB2 := hide ((unhide HB0).trans (hb2.mono (unhide HB0).size)); clear hb2)
  go_ret
  rw [unhide HV]
  have hlt : b < w2.heap.size := Nat.lt_of_lt_of_le (unhide HBB) (unhide HB2).size
  exact ⟨_, 1, rfl, parts_one hlt [⟨#[75]⟩, decS m.wgt] 9 53, below_new (below_new (unhide HB2) _) _⟩

set_option maxHeartbeats 4000000 in
set_option maxRecDepth 100000 in
theorem wexc_any (b : Nat) (n : Int) (w : World) (hb : b < w.heap.size) (hT : Tabs w) (hr : inB n 0 3 = true) :
    Calls Tryz.prog 48 #[.int .i64 n] w (Writes b w (if n = 0 then [] else [[wExc n]])) := by
  obtain ⟨r0, r1⟩ := inB_iff.1 hr
  have hn : n = 0 ∨ n = 1 ∨ n = 2 ∨ n = 3 := by omega
  have c1 := hT.words 3 1 (by omega) (by omega)
  have c2 := hT.words 3 2 (by omega) (by omega)
  have c3 := hT.words 3 3 (by omega) (by omega)
  simp only [Nat.reduceMul, Nat.reduceAdd] at c1 c2 c3
  have HP1 := hide (parts_one hb [wExc 1] 9 53)
  have HP2 := hide (parts_one hb [wExc 2] 9 53)
  have HP3 := hide (parts_one hb [wExc 3] 9 53)
  clear hT hb hr r0 r1
  rcases hn with rfl | rfl | rfl | rfl
  · rw [if_pos rfl]
    go_enter Tryz.func48, Tryz.ntmps48
    go_wp2
    go_ret
    exact ⟨none, 0, rfl, PartsIn.nil _ _ _, Below.refl _ _⟩
  · rw [if_neg (by decide)]
    go_enter Tryz.func48, Tryz.ntmps48
    go_wp2
    go_ret
    exact ⟨_, 1, rfl, unhide HP1, below_new ((Below.refl _ _).alloc (Nat.le_refl _) _) _⟩
  · rw [if_neg (by decide)]
    go_enter Tryz.func48, Tryz.ntmps48
    go_wp2
    go_ret
    exact ⟨_, 1, rfl, unhide HP2, below_new ((Below.refl _ _).alloc (Nat.le_refl _) _) _⟩
  · rw [if_neg (by decide)]
    go_enter Tryz.func48, Tryz.ntmps48
    go_wp2
    go_ret
    exact ⟨_, 1, rfl, unhide HP3, below_new ((Below.refl _ _).alloc (Nat.le_refl _) _) _⟩
end Go.Proofs.YtglgobmmmghdoaaGreatDoor

/- MsgP: Contract of write at the key X. -/
namespace Go.Proofs.YtglgobmmmghdoaaGreatDoor
open Go.RowKit

set_option maxHeartbeats 4000000 in
set_option maxRecDepth 100000 in
theorem wr_88 (b : Nat) (m : Msg) (A L : Option Addr) (c d : Nat) (w : World) (hb : b < w.heap.size) (hT : Tabs w) (hr : inB m.exc 0 3 = true) :
    Calls Tryz.prog 22 #[msgV m A c L d, .int .i32 88] w (Writes b w (writeP m 88)) := by
  have HV := hide (show writeP m 88 = (if m.exc = 0 then [] else [[wExc m.exc]]) from rfl)
  have HC := hide (wexc_any b m.exc (w.alloc (msgO m A c L d)) (by rw [World.size_alloc]; omega) (hT.alloc _) hr)
  generalize (if m.exc = 0 then [] else [[wExc m.exc]]) = ps at HV HC
  have HB0 := hide ((Below.refl w.heap.size w).alloc (Nat.le_refl _) (msgO m A c L d))
  clear hb hr hT
  go_enter Tryz.func22, Tryz.ntmps22
  go_wp2_with (go_at_call 48; refine (unhide HC).mono ?_; rintro e w2 ⟨A2, c2, rfl, hp2, hb2⟩; have HB2 := hide ((unhide HB0).trans (hb2.mono (unhide HB0).size)); have HP2 := hide hp2; clear hb2 hp2)
  go_ret
  rw [unhide HV]
  exact ⟨_, _, rfl, unhide HP2, unhide HB2⟩
end Go.Proofs.YtglgobmmmghdoaaGreatDoor

/- MsgQ: Contract of write at the key V. -/
namespace Go.Proofs.YtglgobmmmghdoaaGreatDoor
open Go.RowKit

set_option maxHeartbeats 4000000 in
set_option maxRecDepth 100000 in
theorem wr_86 (b : Nat) (m : Msg) (A L : Option Addr) (c d : Nat) (w : World) (hb : b < w.heap.size) (hT : Tabs w) (r0 : 0 ≤ m.num) (r1 : m.num ≤ 9999) (hz : m.port.size ≤ 1000000) :
    Calls Tryz.prog 22 #[msgV m A c L d, .int .i32 86] w (Writes b w (writeP m 86)) := by
  have HV := hide (show writeP m 86 = [[⟨#[49, 76]⟩ ++ m.port, decS m.num]] from rfl)
  have hA : ∀ k v, (msgL m A c L d)[k]? = some v → (w.alloc (msgO m A c L d)).cell? ⟨w.heap.size, k, none⟩ = some v := fun k v hk => by rw [Lib.cell_of_heap (heap_alloc_new w _)]; exact hk
  have hT1 := hT.alloc (msgO m A c L d)
  have HB0 := hide ((Below.refl w.heap.size w).alloc (Nat.le_refl _) (msgO m A c L d))
  have HBB := hide hb
  have z2 := hA 2 (.string m.port) rfl
  have z3 := hA 3 (.int .i64 m.num) rfl
  obtain ⟨W1, hW⟩ : ∃ W1 : World, w.alloc (msgO m A c L d) = W1 := ⟨_, rfl⟩
  rw [hW] at hT1 HB0 z2 z3
  have m2 := After.cell z2
  have m3 := After.cell z3
  have HI := hide (fun t : After W1 => itoa_any m.num t.to (hT1.keep t.is).pow r0 r1)
  have hs1 : ((⟨#[49, 76]⟩ : ByteArray) ++ m.port).size ≤ 2000000000000 := by rw [ByteArray.size_append]; show 2 + m.port.size ≤ _; omega
  clear hb hT hA hT1
  go_enter Tryz.func22, Tryz.ntmps22
  go_wp2
  refine wp_region_after_tail 6 (by kernel_rfl) (by kernel_rfl) ?_
  simp only [List.take_succ_cons, List.take_zero, List.drop_succ_cons, List.drop_zero]
  repeat (go_big_quiet_step ((first | (go_at_call 43; exact After.call (unhide HI _)))))
  refine wpQuiet_nil ?_
  rintro _ ⟨t, rfl⟩
  have HB2 := hide (onward (unhide HB0) t.is)
  go_wp2
  go_ret
  rw [unhide HV]
  have hlt : b < t.to.heap.size := Nat.lt_of_lt_of_le (unhide HBB) (unhide HB2).size
  exact ⟨_, 1, rfl, parts_one hlt [(⟨#[49, 76]⟩ : ByteArray) ++ m.port, decS m.num] 9 53, below_new (below_new (unhide HB2) _) _⟩
end Go.Proofs.YtglgobmmmghdoaaGreatDoor

/- MsgR: Contract of write at the key N. -/
namespace Go.Proofs.YtglgobmmmghdoaaGreatDoor
open Go.RowKit

set_option maxHeartbeats 4000000 in
set_option maxRecDepth 100000 in
theorem wr_78 (b : Nat) (m : Msg) (A L : Option Addr) (c d : Nat) (w : World) (hb : b < w.heap.size) (r0 : 0 ≤ m.cnt) (r1 : m.cnt ≤ 1000000) :
    Calls Tryz.prog 22 #[msgV m A c L d, .int .i32 78] w (Writes b w (writeP m 78)) := by
  have HV := hide (show writeP m 78 = [[txt m.pl m.pa m.ps, three m.cnt]] from rfl)
  have hA : ∀ k v, (msgL m A c L d)[k]? = some v → (w.alloc (msgO m A c L d)).cell? ⟨w.heap.size, k, none⟩ = some v := fun k v hk => by rw [Lib.cell_of_heap (heap_alloc_new w _)]; exact hk
  have HB0 := hide ((Below.refl w.heap.size w).alloc (Nat.le_refl _) (msgO m A c L d))
  have HBB := hide hb
  have z0 := hA 17 (.int .i64 m.pl) rfl
  have z1 := hA 18 (.int .i64 m.pa) rfl
  have z2 := hA 19 (.int .i64 m.ps) rfl
  have z3 := hA 20 (.int .i64 m.cnt) rfl
  obtain ⟨W1, hW⟩ : ∃ W1 : World, w.alloc (msgO m A c L d) = W1 := ⟨_, rfl⟩
  rw [hW] at HB0 z0 z1 z2 z3
  have m0 := After.cell z0
  have m1 := After.cell z1
  have m2 := After.cell z2
  have m3 := After.cell z3
  clear hb hA
  go_enter Tryz.func22, Tryz.ntmps22
  go_wp2
  refine wp_region_after_tail 6 (by kernel_rfl) (by kernel_rfl) ?_
  simp only [List.take_succ_cons, List.take_zero, List.drop_succ_cons, List.drop_zero]
  repeat (go_big_quiet_step ((first | (go_at_call 45; exact After.call (format_any _ _ _ _)) | (go_at_call 46; exact After.call (three_any _ _ r0 r1)))))
  refine wpQuiet_nil ?_
  rintro _ ⟨t, rfl⟩
  have HB2 := hide (onward (unhide HB0) t.is)
  go_wp2
  go_ret
  rw [unhide HV]
  have hlt : b < t.to.heap.size := Nat.lt_of_lt_of_le (unhide HBB) (unhide HB2).size
  exact ⟨_, 1, rfl, parts_one hlt [txt m.pl m.pa m.ps, three m.cnt] 9 53, below_new (below_new (unhide HB2) _) _⟩
end Go.Proofs.YtglgobmmmghdoaaGreatDoor

/- MsgS: Contract of write at the key S. -/
namespace Go.Proofs.YtglgobmmmghdoaaGreatDoor
open Go.RowKit

set_option maxHeartbeats 4000000 in
set_option maxRecDepth 100000 in
theorem wr_83 (b : Nat) (m : Msg) (A L : Option Addr) (c d : Nat) (w : World) (hb : b < w.heap.size) (hT : Tabs w) (k : Nat) (hk : m.sta = (k : Int)) (hk4 : k = 1 ∨ k = 2 ∨ k = 3 ∨ k = 4) (r0 : 0 ≤ m.sq) (r1 : m.sq ≤ 1000000) :
    Calls Tryz.prog 22 #[msgV m A c L d, .int .i32 83] w (Writes b w (writeP m 83)) := by
  have HV := hide (show writeP m 83 = [[wLoad m.load, wSta m.sta, three m.sq]] from rfl)
  have hA : ∀ k v, (msgL m A c L d)[k]? = some v → (w.alloc (msgO m A c L d)).cell? ⟨w.heap.size, k, none⟩ = some v := fun k v hk => by rw [Lib.cell_of_heap (heap_alloc_new w _)]; exact hk
  have HB0 := hide ((Below.refl w.heap.size w).alloc (Nat.le_refl _) (msgO m A c L d))
  have HBB := hide hb
  have z0 := hA 21 (.bool m.load) rfl
  have z1 := hA 22 (.int .i64 m.sta) rfl
  have z2 := (hT.alloc (msgO m A c L d)).words 2 k (by omega) (by omega)
  have z3 := hA 23 (.int .i64 m.sq) rfl
  have HK := hide hk
  obtain ⟨W1, hW⟩ : ∃ W1 : World, w.alloc (msgO m A c L d) = W1 := ⟨_, rfl⟩
  rw [hW] at HB0 z0 z1 z2 z3
  have m0 := After.cell z0
  have m1 := After.cell z1
  have m2 := After.cell z2
  have m3 := After.cell z3
  clear hb hA hT
  rw [hk] at HV m1
  clear z0 z1 z2 z3 HK hk
  rcases hk4 with rfl | rfl | rfl | rfl
  · simp only [Nat.reduceMul, Nat.reduceAdd] at m2
    go_enter Tryz.func22, Tryz.ntmps22
    go_wp2
    refine wp_region_after_tail 11 (by kernel_rfl) (by kernel_rfl) ?_
    simp only [List.take_succ_cons, List.take_zero, List.drop_succ_cons, List.drop_zero]
    repeat (go_big_quiet_step ((first | (go_at_call 47; exact After.same (wload_any _ _)) | (go_at_call 46; exact After.call (three_any _ _ r0 r1)))))
    refine wpQuiet_nil ?_
    rintro _ ⟨t, rfl⟩
    have HB2 := hide (onward (unhide HB0) t.is)
    go_wp2
    go_ret
    rw [unhide HV]
    have hlt : b < t.to.heap.size := Nat.lt_of_lt_of_le (unhide HBB) (unhide HB2).size
    exact ⟨_, 1, rfl, parts_one hlt [wLoad m.load, wSta 1, three m.sq] 9 53, below_new (below_new (unhide HB2) _) _⟩
  · simp only [Nat.reduceMul, Nat.reduceAdd] at m2
    go_enter Tryz.func22, Tryz.ntmps22
    go_wp2
    refine wp_region_after_tail 11 (by kernel_rfl) (by kernel_rfl) ?_
    simp only [List.take_succ_cons, List.take_zero, List.drop_succ_cons, List.drop_zero]
    repeat (go_big_quiet_step ((first | (go_at_call 47; exact After.same (wload_any _ _)) | (go_at_call 46; exact After.call (three_any _ _ r0 r1)))))
    refine wpQuiet_nil ?_
    rintro _ ⟨t, rfl⟩
    have HB2 := hide (onward (unhide HB0) t.is)
    go_wp2
    go_ret
    rw [unhide HV]
    have hlt : b < t.to.heap.size := Nat.lt_of_lt_of_le (unhide HBB) (unhide HB2).size
    exact ⟨_, 1, rfl, parts_one hlt [wLoad m.load, wSta 2, three m.sq] 9 53, below_new (below_new (unhide HB2) _) _⟩
  · simp only [Nat.reduceMul, Nat.reduceAdd] at m2
    go_enter Tryz.func22, Tryz.ntmps22
    go_wp2
    refine wp_region_after_tail 11 (by kernel_rfl) (by kernel_rfl) ?_
    simp only [List.take_succ_cons, List.take_zero, List.drop_succ_cons, List.drop_zero]
    repeat (go_big_quiet_step ((first | (go_at_call 47; exact After.same (wload_any _ _)) | (go_at_call 46; exact After.call (three_any _ _ r0 r1)))))
    refine wpQuiet_nil ?_
    rintro _ ⟨t, rfl⟩
    have HB2 := hide (onward (unhide HB0) t.is)
    go_wp2
    go_ret
    rw [unhide HV]
    have hlt : b < t.to.heap.size := Nat.lt_of_lt_of_le (unhide HBB) (unhide HB2).size
    exact ⟨_, 1, rfl, parts_one hlt [wLoad m.load, wSta 3, three m.sq] 9 53, below_new (below_new (unhide HB2) _) _⟩
  · simp only [Nat.reduceMul, Nat.reduceAdd] at m2
    go_enter Tryz.func22, Tryz.ntmps22
    go_wp2
    refine wp_region_after_tail 11 (by kernel_rfl) (by kernel_rfl) ?_
    simp only [List.take_succ_cons, List.take_zero, List.drop_succ_cons, List.drop_zero]
    repeat (go_big_quiet_step ((first | (go_at_call 47; exact After.same (wload_any _ _)) | (go_at_call 46; exact After.call (three_any _ _ r0 r1)))))
    refine wpQuiet_nil ?_
    rintro _ ⟨t, rfl⟩
    have HB2 := hide (onward (unhide HB0) t.is)
    go_wp2
    go_ret
    rw [unhide HV]
    have hlt : b < t.to.heap.size := Nat.lt_of_lt_of_le (unhide HBB) (unhide HB2).size
    exact ⟨_, 1, rfl, parts_one hlt [wLoad m.load, wSta 4, three m.sq] 9 53, below_new (below_new (unhide HB2) _) _⟩
end Go.Proofs.YtglgobmmmghdoaaGreatDoor

/- MsgT: Encode under way: what is kept while the elements of a telegram grow. -/
namespace Go.Proofs.YtglgobmmmghdoaaGreatDoor
open Go.RowKit

/-- An iterator's block is no row's. -/
theorem own_ne_it {w : World} {base x size n : Nat} {t : TypeId} {v : Value} {xs : List Value} {s : ByteArray} {k : Nat} (ho : w.ownsRow base t size v n xs) (h : w.heap[x]? = some (.stringIter s k)) : some x ≠ v.ownBlock := fun e => by
  rcases ho.2 with ⟨rfl, _⟩ | ⟨g, cap, cur, rfl, _, hgg, _⟩
  · cases e
  · have e' : x = g := by injection e
    subst e'
    rw [h] at hgg; cases hgg
/-- Encode under way: its message's box M, the iterator's block I, the telegram's box T, the elements so far. -/
structure Enc (w0 : World) (b base M I T R : Nat) (L : Array Value) (s : ByteArray) (k : Nat) (K C : ByteArray) (A : Option Addr) (c : Nat) (xs : List ElS) (W : World) : Prop where
  bel : Below w0.heap.size w0 W
  mb : W.heap[M]? = some (.cells L 35 (0, 0))
  it : W.heap[I]? = some (.stringIter s k)
  tb : W.heap[T]? = some (.cells #[.string K, .string C, .slice A xs.length c] 25 (0, 0))
  rb : W.heap[R]? = some (.cells #[.string ⟨#[]⟩, .string ⟨#[]⟩, .slice none 0 0] 25 (0, 0))
  own : W.ownsRow base 55 2 (.slice A xs.length c) xs.length (xs.flatMap elCells)
  fin : Fin b W xs
  sz : base ≤ W.heap.size
  lT : w0.heap.size ≤ T
  lI : w0.heap.size ≤ I
  lB : w0.heap.size ≤ base
  hM : M < base
  hI : I < base
  hT : T < base
  hb : b < base
  hR : R < base
  hRT : R ≠ T

section
variable {w0 W W' : World} {b base M I T R : Nat} {L : Array Value} {s : ByteArray} {k : Nat} {K C : ByteArray} {A : Option Addr} {c : Nat} {xs : List ElS}
theorem Enc.below (h : Enc w0 b base M I T R L s k K C A c xs W) (hb : Below W.heap.size W W') : Enc w0 b base M I T R L s k K C A c xs W' := by
  have hs := h.sz
  have hz := hb.size
  have h1 := h.hM
  have h2 := h.hI
  have h3 := h.hT
  exact ⟨onward h.bel hb, (hb.block _ (by omega)).trans h.mb, (hb.block _ (by omega)).trans h.it, (hb.block _ (by omega)).trans h.tb, (hb.block _ (by have := h.hR; omega)).trans h.rb, owns_below h.own hb, h.fin.step (KeepS.below hb), by omega, h.lT, h.lI, h.lB, h1, h2, h3, h.hb, h.hR, h.hRT⟩
theorem Enc.next (h : Enc w0 b base M I T R L s k K C A c xs W) (k' : Nat) : Enc w0 b base M I T R L s k' K C A c xs (W.iterAt I s k') := by
  have hne : ∀ g cs t fz, W.heap[g]? = some (.cells cs t fz) → g ≠ I := fun g cs t fz hg e => by subst e; rw [h.it] at hg; cases hg
  have hg : W.grownBy (W.iterAt I s k') (some I) := ⟨rfl, rfl, rfl, by rw [Lib.iterAt_size]; exact Nat.le_refl _, fun j hj hne => Lib.iterAt_other W I j s k' (by simpa using hne)⟩
  refine ⟨Lib.below_iterAt h.bel h.lI _ _, (Lib.iterAt_other _ _ _ _ _ (hne _ _ _ _ h.mb)).trans h.mb, Lib.iterAt_heap _ _ _ _ _ h.it, (Lib.iterAt_other _ _ _ _ _ (hne _ _ _ _ h.tb)).trans h.tb, (Lib.iterAt_other _ _ _ _ _ (hne _ _ _ _ h.rb)).trans h.rb, h.own.kept hg (Or.inr fun e => own_ne_it h.own h.it e.symm), h.fin.step fun g cs fz hgg _ => (Lib.iterAt_other _ _ _ _ _ (hne _ _ _ _ hgg)).trans hgg, by rw [Lib.iterAt_size]; exact h.sz, h.lT, h.lI, h.lB, h.hM, h.hI, h.hT, h.hb, h.hR, h.hRT⟩
/-- Behind an append: the old row's block, or a new one. -/
theorem Enc.push (h : Enc w0 b base M I T R L s k K C A c xs W) {g cap : Nat} {x : ElS} (hx : StrRow b W x.2.1 x.1.2)
    (hown : W'.ownsRow base 55 2 (.slice (some ⟨g, 0, none⟩) (xs.length + 1) cap) (xs.length + 1) (xs.flatMap elCells ++ elCells x)) (hgrow : W.grownBy W' (Value.slice A xs.length c).ownBlock) :
    Enc w0 b base M I T R L s k K C (some ⟨g, 0, none⟩) cap (xs ++ [x]) (W'.setCell ⟨T, 2, none⟩ (.slice (some ⟨g, 0, none⟩) (xs.length + 1) cap)) := by
  have hs := h.sz
  have h1 := h.hM
  have h2 := h.hI
  have h3 := h.hT
  have hz := hgrow.size
  have hrow := fun k hk => (h.own.lt k hk).1
  have hMb := (hgrow.block _ (by omega) (own_ne h.own h.mb (by decide))).trans h.mb
  have hTb := (hgrow.block _ (by omega) (own_ne h.own h.tb (by decide))).trans h.tb
  have hRb := (hgrow.block _ (by have := h.hR; omega) (own_ne h.own h.rb (by decide))).trans h.rb
  have hIb := (hgrow.block _ (by omega) (own_ne_it h.own h.it)).trans h.it
  have hg := Lib.grownBy_setB (World.grownBy.refl W' (some T)) 2 (.slice (some ⟨g, 0, none⟩) (xs.length + 1) cap)
  have hMT : M ≠ T := fun e => by
    have := h.mb; rw [e, h.tb] at this; injection this with this; injection this with _ this _; exact absurd this (by decide)
  have hIT : I ≠ T := fun e => by
    have := h.it; rw [e, h.tb] at this; cases this
  have hlB := h.lB
  have hbz := h.bel.size
  have hlT := h.lT
  have hK := (KeepS.grow (b := b) h.own (by decide) hgrow).trans (KeepS.other hg hTb (by decide))
  refine ⟨(h.bel.grown hgrow hbz (fun k e => by have := hrow k e; omega)).grown hg (by omega) (fun k e => by injection e with e; omega), (hg.block _ (by omega) (by simpa using hMT)).trans hMb, (hg.block _ (by omega) (by simpa using hIT)).trans hIb, ?_, (hg.block _ (by have := h.hR; omega) (by simpa using h.hRT)).trans hRb, ?_, (h.fin.step hK).snoc (hx.step hK), Nat.le_trans (Nat.le_trans hs hz) hg.size, h.lT, h.lI, h.lB, h1, h2, h3, h.hb, h.hR, h.hRT⟩
  · rw [List.length_append, List.length_singleton]; exact heap_set2 hTb
  · rw [List.length_append, List.length_singleton, List.flatMap_append]
    have := hown.kept hg (Or.inr fun e => own_ne hown hTb (by decide) e.symm)
    simpa using this
/-- What else is kept behind an append. -/
theorem Enc.pushes (h : Enc w0 b base M I T R L s k K C A c xs W) {g cap n : Nat} {t : TypeId} (h1 : 55 ≠ t) (h2 : 25 ≠ t)
    (hgrow : W.grownBy W' (Value.slice A xs.length c).ownBlock) : KeepTy t W (W'.setCell ⟨T, 2, none⟩ (.slice (some ⟨g, 0, none⟩) n cap)) := by
  have hTb := (hgrow.block _ (by have := h.sz; have := h.hT; omega) (own_ne h.own h.tb (by decide))).trans h.tb
  have hg := Lib.grownBy_setB (World.grownBy.refl W' (some T)) 2 (.slice (some ⟨g, 0, none⟩) n cap)
  exact (KeepTy.grow h.own h1 hgrow).trans (KeepTy.other hg hTb h2)
theorem Enc.done (h : Enc w0 b base M I T R L s k K C A c xs W) (hg : W.grownBy W' (some R)) : ElsIn b W' A (xs.map (·.1)) :=
  (h.fin.step (KeepS.other hg h.rb (by decide))).els (h.own.kept hg (Or.inr fun e => own_ne h.own h.rb (by decide) e.symm)) h.hb
theorem Enc.els (h : Enc w0 b base M I T R L s k K C A c xs W) : ElsIn b W A (xs.map (·.1)) := h.fin.els h.own h.hb
end
end Go.Proofs.YtglgobmmmghdoaaGreatDoor
