/-
  Contract of the reader's Message: a valid message of some kind.
-/
import Derived.Test.YtglgobmmmghdoaaGreatDoorMsgAC
namespace Go.Proofs.YtglgobmmmghdoaaGreatDoor
open Go.RowKit

def fewPort (i : Nat) : ByteArray := if i = 0 then ⟨#[65, 82, 78]⟩ else ⟨#[67, 80, 72]⟩
theorem fewPort_ok (i : Nat) : portB (fewPort i) = true := by unfold fewPort; split <;> decide +kernel
theorem two_ports {w : World} {t : TypeId} : ∀ i, i < 2 → (w.alloc (.cells #[.string ⟨#[65, 82, 78]⟩, .string ⟨#[67, 80, 72]⟩] t)).cell? ⟨w.heap.size, i, none⟩ = some (.string (fewPort i)) := by
  intro i hi
  rw [Lib.cell_of_heap (heap_alloc_new w _)]
  match i, hi with
  | 0, _ | 1, _ => rfl
theorem Mk.res {w0 W : World} {B b base M : Nat} {m : Msg} {A L : Option Addr} {c d : Nat} (h : Mk w0 B b base M m A c L d W) {R : Nat} {o : Obj} (hR : R < w0.heap.size) (hb : b < R) (ho : w0.heap[R]? = some o) : W.heap[R]? = some o :=
  (h.rd.gr.block R hR (by simp; omega)).trans ho
theorem Mk.finish {a w0 W : World} {B b base M : Nat} {m : Msg} {A L : Option Addr} {c d : Nat} (h : Mk w0 B b base M m A c L d W) {R : Nat} (cs : Array Value) (hR : R < w0.heap.size) (hb : b < R) (ha : a.heap.size ≤ R) (hg : a.grownBy w0 (some b)) :
    (∀ b', b' < a.heap.size → LegsIn b' (W.setRow R cs) A m.onw) ∧ (∀ b', b' < a.heap.size → NumsIn b' (W.setRow R cs) L m.lst) ∧ Src B b (W.setRow R cs) ∧ a.grownBy (W.setRow R cs) (some b) ∧ m.lst.length ≤ d := by
  have hg7 : W.grownBy (W.setRow R cs) (some R) := ⟨rfl, rfl, rfl, by simp [World.setRow], fun k hk hne => setRow_other _ _ _ _ (by simpa using hne)⟩
  have hlB := h.rd.lB
  exact ⟨fun b' hb' => legs_own (owns_other h.rd.legs hg7 (fun k e => by injection e with e; omega)) (by omega), fun b' hb' => nums_own (owns_other h.rd.nums hg7 (fun k e => by injection e with e; omega)) (by omega),
    h.src.grown hg7 (fun k e => by injection e with e; omega), gr_grow (Lib.grownBy_trans hg h.rd.gr) hg7 (fun k e => by injection e with e; omega), own_le h.rd.nums⟩
theorem few_lg {c s p k : ByteArray} {n d : Int} (h : Few c n s d) (h' : FewP p k) : lgB ⟨c, n, s, d, p, k⟩ = true := by
  have h1 := few_valid h
  unfold lgB legB
  unfold FewP at h'
  rw [h1, Bool.true_and]
  rcases h' with ⟨h2 | h2 | h2, h3 | h3 | h3⟩ <;> rw [h2, h3] <;> dsimp only <;> decide +kernel
theorem name_few {S : ByteArray} (h1 : 1 ≤ (S.size : Int)) (h2 : (S.size : Int) ≤ 4) (h3 : allLet S.data.toList = true) : nameB S = true := by
  have h0 : 0 < S.size := by omega
  have hl : 0 < S.data.toList.length := by rw [size_list]; exact h0
  unfold nameB
  rw [decide_eq_true (by omega), Bool.true_and, Bool.and_eq_true]
  unfold allLet at h3
  rw [List.all_eq_true] at h3
  constructor
  · rw [← bat_at S 0 h0]
    have := h3 (S.data.toList[0]'hl) (List.getElem_mem _)
    exact this
  · rw [List.all_eq_true]
    intro x hx
    have := h3 x hx
    unfold isLet at this
    unfold ldU
    rw [this]; rfl
theorem lett_few {S : ByteArray} (h2 : (S.size : Int) ≤ 6) (h3 : allLet S.data.toList = true) : lettB S = true := by
  unfold lettB
  rw [h3, Bool.and_true, decide_eq_true_eq]
  omega

/-- What the reader's Message gives. -/
def GivesV (B b : Nat) (W : World) (e : Ending) (w' : World) : Prop :=
  ∃ m A c L d, e = .returned (msgV m A c L d) ∧ valE m = 0 ∧ LegsIn b w' A m.onw ∧ NumsIn b w' L m.lst ∧ Src B b w' ∧ W.grownBy w' (some b)

/-- What the reader's Message gives, in memory of its own; one of two ports, a number up to twelve. -/
def GivesF (B b : Nat) (W : World) (e : Ending) (w' : World) : Prop :=
  ∃ m A c L d, e = .returned (msgV m A c L d) ∧ (valE m = 0 ∧ 1 ≤ m.num ∧ m.num ≤ 12 ∧ ∃ i, m.port = fewPort i) ∧ (∀ b', b' < W.heap.size → LegsIn b' w' A m.onw) ∧ (∀ b', b' < W.heap.size → NumsIn b' w' L m.lst) ∧ Src B b w' ∧ W.grownBy w' (some b)

/-- .. and its list within its capacity. -/
def GivesC (B b : Nat) (W : World) (e : Ending) (w' : World) : Prop :=
  ∃ m A c L d, e = .returned (msgV m A c L d) ∧ (valE m = 0 ∧ 1 ≤ m.num ∧ m.num ≤ 12 ∧ ∃ i, m.port = fewPort i) ∧ (∀ b', b' < W.heap.size → LegsIn b' w' A m.onw) ∧ (∀ b', b' < W.heap.size → NumsIn b' w' L m.lst) ∧ Src B b w' ∧ W.grownBy w' (some b) ∧ m.lst.length ≤ d

theorem valid3 {prt S : ByteArray} {num l a s cnt : Int} (h1 : portB prt = true) (h2 : 1 ≤ num) (h3 : num ≤ 12) (h4 : vld l a s = true) (h5 : 1 ≤ cnt) (h6 : cnt ≤ 3) (h7 : nameB S = true) : valE { msg0 with kind := 3, port := prt, num := num, pl := l, pa := a, ps := s, cnt := cnt, node := S } = 0 := by
  have e1 : inB num 1 9999 = true := inB_iff.2 (by omega)
  have e2 : inB cnt 1 99 = true := inB_iff.2 (by omega)
  refine valE_ok.2 ⟨rfl, by unfold ownM; rw [if_neg (show ¬ (3 : Int) = 1 by decide), if_neg (show ¬ (3 : Int) = 2 by decide), if_pos rfl], rfl, ?_, rfl, ?_, rfl⟩
  · show (portB prt && (true && (nameB S && true))) = true
    rw [h1, h7]; rfl
  · show (inB num 1 9999 && ((vld l a s && inB cnt 1 99) && (true && true))) = true
    rw [e1, h4, e2]; rfl

theorem valid4 {prt : ByteArray} {num l a s cnt : Int} {g : Lg} (h1 : portB prt = true) (h2 : 1 ≤ num) (h3 : num ≤ 12) (h4 : vld l a s = true) (h5 : 1 ≤ cnt) (h6 : cnt ≤ 3) (h7 : lgB g = true) : valE { msg0 with kind := 4, port := prt, num := num, pl := l, pa := a, ps := s, cnt := cnt, out := g } = 0 := by
  have e1 : inB num 1 9999 = true := inB_iff.2 (by omega)
  have e2 : inB cnt 1 99 = true := inB_iff.2 (by omega)
  refine valE_ok.2 ⟨rfl, by unfold ownM; rw [if_neg (show ¬ (4 : Int) = 1 by decide), if_neg (show ¬ (4 : Int) = 2 by decide), if_neg (show ¬ (4 : Int) = 3 by decide), if_pos rfl], rfl, ?_, rfl, ?_, rfl⟩
  · show (portB prt && (lgB g && (true && true))) = true
    rw [h1, h7]; rfl
  · show (inB num 1 9999 && (true && ((vld l a s && inB cnt 1 99) && true))) = true
    rw [e1, h4, e2]; rfl

theorem asc_snoc : ∀ (l : List Int) (y : Int), ascB l = true → (∀ x ∈ l, x < y) → ascB (l ++ [y]) = true
  | [], _, _, _ => rfl
  | [a], y, _, h => by
    show (decide (a < y) && true) = true
    rw [decide_eq_true (h a (List.mem_cons_self ..))]; rfl
  | a :: b :: l, y, h1, h2 => by
    have h1' : (decide (a < b) && ascB (b :: l)) = true := h1
    rw [Bool.and_eq_true] at h1'
    show (decide (a < b) && ascB (b :: l ++ [y])) = true
    rw [h1'.1, asc_snoc (b :: l) y h1'.2 (fun x hx => h2 x (List.mem_cons_of_mem _ hx))]; rfl
/-- Ascending numbers up to n. -/
def UpTo (ls : List Int) (n : Int) : Prop := ascB ls = true ∧ ls.all seqB = true ∧ ∀ x ∈ ls, x ≤ n
theorem UpTo.snoc {ls : List Int} {n x : Int} (h : UpTo ls n) (h0 : 0 ≤ n) (h1 : 1 ≤ x) (h2 : n + x ≤ 999) : UpTo (ls ++ [n + x]) (n + x) := by
  obtain ⟨a, b, c⟩ := h
  refine ⟨asc_snoc _ _ a (fun y hy => by have := c y hy; omega), ?_, fun y hy => ?_⟩
  · rw [List.all_append, b]
    show (true && (inB (n + x) 1 999 && true)) = true
    rw [inB_iff.2 ⟨by omega, h2⟩]; rfl
  · rcases List.mem_append.1 hy with hy | hy
    · have := c y hy; omega
    · rw [List.mem_singleton.1 hy]; omega
theorem valid5 {prt : ByteArray} {num n : Int} {g : Lg} {ls : List Int} (h1 : portB prt = true) (h2 : 1 ≤ num) (h3 : num ≤ 12) (h4 : lgB g = true) (h5 : UpTo ls n) (h6 : ls.length ≤ 11) : valE { msg0 with kind := 5, port := prt, num := num, out := g, lst := ls } = 0 := by
  have e1 : inB num 1 9999 = true := inB_iff.2 (by omega)
  refine valE_ok.2 ⟨rfl, by unfold ownM; rw [if_neg (show ¬ (5 : Int) = 1 by decide), if_neg (show ¬ (5 : Int) = 2 by decide), if_neg (show ¬ (5 : Int) = 3 by decide), if_neg (show ¬ (5 : Int) = 4 by decide), if_pos rfl], ?_, ?_, rfl, ?_, h5.1⟩
  · show (decide (0 ≤ 3) && decide (ls.length ≤ 40)) = true
    rw [decide_eq_true (show ls.length ≤ 40 by omega)]; rfl
  · show (portB prt && (lgB g && (true && true))) = true
    rw [h1, h4]; rfl
  · show (inB num 1 9999 && (true && (ls.all seqB && true))) = true
    rw [e1, h5.2.1]; rfl

theorem valid1 {prt S1 S2 : ByteArray} {act num l a s cnt st sq wg ex : Int} {lb : Bool} {g : Lg} {gs : List Lg} (h1 : portB prt = true) (h2 : 1 ≤ num) (h3 : num ≤ 12) (h4 : 0 ≤ act) (h5 : act ≤ 2) (h6 : lgB g = true) (h7 : gs.all lgB = true) (h8 : gs.length ≤ 3) (h9 : vld l a s = true) (h10 : 1 ≤ cnt) (h11 : cnt ≤ 3) (h12 : 1 ≤ st) (h13 : st ≤ 4) (h14 : 1 ≤ sq) (h15 : sq ≤ 4) (h16 : 0 ≤ wg) (h17 : wg ≤ 999) (h18 : 1 ≤ (S1.size : Int)) (h19 : (S1.size : Int) ≤ 6) (h20 : allLet S1.data.toList = true) (h21 : (S2.size : Int) ≤ 5) (h22 : allLet S2.data.toList = true) (h23 : 0 ≤ ex) (h24 : ex ≤ 3) :
    valE { msg0 with kind := 1, act := act, port := prt, num := num, out := g, onw := gs, pl := l, pa := a, ps := s, cnt := cnt, load := lb, sta := st, sq := sq, wgt := wg, sur := S1, giv := S2, exc := ex } = 0 := by
  have e1 : inB num 1 9999 = true := inB_iff.2 (by omega)
  have e2 : inB cnt 1 99 = true := inB_iff.2 (by omega)
  have e3 : inB act 0 2 = true := inB_iff.2 (by omega)
  have e4 : inB st 1 4 = true := inB_iff.2 (by omega)
  have e5 : inB sq 1 999 = true := inB_iff.2 (by omega)
  have e6 : inB wg 0 999 = true := inB_iff.2 (by omega)
  have e7 : inB ex 0 3 = true := inB_iff.2 (by omega)
  have e8 : S1.toList.isEmpty = false := not_empty (by omega)
  have e9 : lettB S1 = true := lett_few h19 h20
  have e10 : lettB S2 = true := lett_few (by omega) h22
  refine valE_ok.2 ⟨rfl, by unfold ownM; rw [if_pos rfl]; rfl, ?_, ?_, e3, ?_, rfl⟩
  · show (decide (gs.length ≤ 3) && decide (0 ≤ 40)) = true
    rw [decide_eq_true h8]; rfl
  · show (portB prt && (lgB g && (gs.all lgB && (true && (true && (true && ((!S1.toList.isEmpty && (lettB S1 && lettB S2)) && (true && true)))))))) = true
    rw [h1, h6, h7, e8, e9, e10]; rfl
  · show (inB num 1 9999 && (true && (true && ((vld l a s && inB cnt 1 99) && ((inB st 1 4 && inB sq 1 999) && (inB wg 0 999 && (true && (inB ex 0 3 && true)))))))) = true
    rw [e1, h9, e2, e4, e5, e6, e7]; rfl

theorem valid2 {prt S1 S2 : ByteArray} {act num l a s cnt st sq wg ex : Int} {lb : Bool} {g gi : Lg} {gs : List Lg} (h1 : portB prt = true) (h2 : 1 ≤ num) (h3 : num ≤ 12) (h4 : 0 ≤ act) (h5 : act ≤ 2) (h6 : lgB g = true) (h6i : lgB gi = true) (h7 : gs.all lgB = true) (h8 : gs.length ≤ 3) (h9 : vld l a s = true) (h10 : 1 ≤ cnt) (h11 : cnt ≤ 3) (h12 : 1 ≤ st) (h13 : st ≤ 4) (h14 : 1 ≤ sq) (h15 : sq ≤ 4) (h16 : 0 ≤ wg) (h17 : wg ≤ 999) (h18 : 1 ≤ (S1.size : Int)) (h19 : (S1.size : Int) ≤ 6) (h20 : allLet S1.data.toList = true) (h21 : (S2.size : Int) ≤ 5) (h22 : allLet S2.data.toList = true) (h23 : 0 ≤ ex) (h24 : ex ≤ 3) :
    valE { msg0 with kind := 2, act := act, port := prt, num := num, inn := gi, out := g, onw := gs, pl := l, pa := a, ps := s, cnt := cnt, load := lb, sta := st, sq := sq, wgt := wg, sur := S1, giv := S2, exc := ex } = 0 := by
  have e1 : inB num 1 9999 = true := inB_iff.2 (by omega)
  have e2 : inB cnt 1 99 = true := inB_iff.2 (by omega)
  have e3 : inB act 0 2 = true := inB_iff.2 (by omega)
  have e4 : inB st 1 4 = true := inB_iff.2 (by omega)
  have e5 : inB sq 1 999 = true := inB_iff.2 (by omega)
  have e6 : inB wg 0 999 = true := inB_iff.2 (by omega)
  have e7 : inB ex 0 3 = true := inB_iff.2 (by omega)
  have e8 : S1.toList.isEmpty = false := not_empty (by omega)
  have e9 : lettB S1 = true := lett_few h19 h20
  have e10 : lettB S2 = true := lett_few (by omega) h22
  refine valE_ok.2 ⟨rfl, by unfold ownM; rw [if_neg (show ¬ (2 : Int) = 1 by decide), if_pos rfl]; rfl, ?_, ?_, e3, ?_, rfl⟩
  · show (decide (gs.length ≤ 3) && decide (0 ≤ 40)) = true
    rw [decide_eq_true h8]; rfl
  · show (portB prt && (lgB gi && (lgB g && (gs.all lgB && (true && (true && (true && ((!S1.toList.isEmpty && (lettB S1 && lettB S2)) && (true && true))))))))) = true
    rw [h1, h6, h6i, h7, e8, e9, e10]; rfl
  · show (inB num 1 9999 && (true && (true && (true && ((vld l a s && inB cnt 1 99) && ((inB st 1 4 && inB sq 1 999) && (inB wg 0 999 && (true && (inB ex 0 3 && true))))))))) = true
    rw [e1, h9, e2, e4, e5, e6, e7]; rfl

def fewAct (i : Nat) : Int := if i = 2 then 1 else if i = 3 then 2 else 0
theorem fewAct_range (i : Nat) : 0 ≤ fewAct i ∧ fewAct i ≤ 2 := by unfold fewAct; repeat' split
                                                                   all_goals omega
def fewWgt (i : Nat) : Int := if i = 0 then 20 else if i = 1 then 0 else 999
theorem fewWgt_range (i : Nat) : 0 ≤ fewWgt i ∧ fewWgt i ≤ 999 := by unfold fewWgt; repeat' split
                                                                     all_goals omega

set_option maxHeartbeats 16000000 in
set_option maxRecDepth 100000 in
theorem message_cap (B b : Nat) (w : World) (hS : Src B b w) :
    Calls Tryz.prog 6 #[.pointer (some ⟨b, 0, none⟩), .int .i64 0] w (GivesC B b w) := by
  obtain ⟨W1, hW⟩ : ∃ W1 : World, w.alloc (.cells zeroL 35) = W1 := ⟨_, rfl⟩
  have b1 : Below w.heap.size w W1 := by rw [← hW]; exact (Below.refl _ _).alloc (Nat.le_refl _) _
  have hz1 : W1.heap.size = w.heap.size + 1 := by rw [← hW, World.size_alloc]
  have hr1 : W1.heap[w.heap.size]? = some (.cells zeroL 35 (0, 0)) := by rw [← hW]; exact heap_alloc_new w _
  have hlt := hS.lt
  have R := Rd.start (hS.keep b1)
  have HR1 := hide hr1
  have HZ1 := hide hz1
  have HG1 := hide (gr_below b1 (some b))
  have HLT := hide hlt
  clear b1 hz1 hr1 hS hlt
  go_enter Tryz.func6, Tryz.ntmps6
  go_wp2_with fail
  refine (range_any B b 1 5 _ R.src (by omega) (by omega) (by omega)).mono ?_
  rintro e w2 ⟨kd, rfl, hk1, hk2, hs1, hg1⟩
  have R2 := R.step hs1 hg1
  clear R hs1 hg1 hW
  go_wp2_with fail
  have R3 := R2.alloc (.cells #[.string ⟨#[65, 82, 78]⟩, .string ⟨#[67, 80, 72]⟩] 9)
  refine (text_any B b _ 2 fewPort _ R3.src (by omega) (by omega) R2.ne two_ports).mono ?_
  rintro e w3 ⟨i, _, rfl, hs1, hg1⟩
  have R4 := R3.step hs1 hg1
  clear R2 R3 hs1 hg1
  have hpo := fewPort_ok i
  generalize hprt : fewPort i = prt at *
  have HPR := hide (show ∃ i, prt = fewPort i from ⟨i, hprt.symm⟩)
  clear hprt
  go_wp2_with fail
  refine (range_any B b 1 12 _ R4.src (by omega) (by omega) (by omega)).mono ?_
  rintro e w4 ⟨num, rfl, hn1, hn2, hs1, hg1⟩
  have R5 := R4.step hs1 hg1
  clear R4 hs1 hg1
  have hK : Mk W1 B b (w4.heap.size + 1) w4.heap.size { msg0 with kind := kd, port := prt, num := num } none 0 none 0 (w4.alloc (msgO { msg0 with kind := kd, port := prt, num := num } none 0 none 0)) :=
    ⟨Rdg.start R5.gr _ rfl rfl (by have := unhide HZ1; have := unhide HLT; omega) (fun k e => by injection e with e; have := unhide HZ1; have := unhide HLT; omega), R5.src.keep ((Below.refl _ _).alloc (Nat.le_refl _) _)⟩
  have HK := hide hK
  have HPO := hide hpo
  clear hK R5 hpo
  have hkd : kd = 1 ∨ kd = 2 ∨ kd = 3 ∨ kd = 4 ∨ kd = 5 := by omega
  clear hk1 hk2
  rcases hkd with rfl | rfl | rfl | rfl | rfl
  · -- kind 1
    go_wp2_with (refine wpList_storeM_new rfl { msg0 with kind := 1, port := prt, num := num } none 0 none 0 rfl _ _ rfl rfl rfl rfl ?_)
    obtain ⟨W4, hW4⟩ : ∃ W4 : World, w4.alloc (msgO { msg0 with kind := 1, port := prt, num := num } none 0 none 0) = W4 := ⟨_, rfl⟩
    have hz4 : W4.heap.size = w4.heap.size + 1 := by rw [← hW4]; exact World.size_alloc _ _
    rw [hW4] at HK ⊢
    clear hW4
    generalize w4.heap.size = M at *
    have HZ4 := hide hz4
    clear hz4
    have hne := (unhide HK).ne
    have hcs := four_ints (w := W4) (f := fewAct) (x := 0) (y := 0) (z := 1) (q := 2) (t := 3) rfl rfl rfl rfl
    rw [unhide HZ4] at hne hcs
    have HKa := hide ((unhide HK).alloc (.cells #[.int .i64 0, .int .i64 0, .int .i64 1, .int .i64 2] 3))
    refine (pick_any B b (M + 1) 4 fewAct _ (unhide HKa).src (by omega) (by omega) hne hcs).mono ?_
    rintro e w5 ⟨j, _, rfl, hs, hg⟩
    have HK5 := hide ((unhide HKa).reads hs hg)
    have hact := fewAct_range j
    clear hs hg HK HKa hne hcs
    generalize fewAct j = act at *
    obtain ⟨ha1, ha2⟩ := hact
    have m1 := (unhide HK5).cell 1
    have f1 := (unhide HK5).frz 1
    obtain ⟨WA, hWA, HF⟩ : ∃ WA : World, (w5.setCell ⟨M, 1, none⟩ (.int .i64 act)) = WA ∧ Hid (Mk W1 B b (M + 1) M { msg0 with kind := 1, act := act, port := prt, num := num } none 0 none 0 WA) := ⟨_, rfl, (unhide HK5).set (m' := { msg0 with kind := 1, act := act, port := prt, num := num }) 1 (.int .i64 act) rfl rfl rfl⟩
    go_wp2_with fail
    clear hWA HK5 m1 f1
    refine (legs_any B b _ (unhide HF).src).mono ?_
    rintro e w6 ⟨gc, gn, gs, gd, gp, gk, rfl, hF1, hF2, hs, hg⟩
    have HK6 := hide ((unhide HF).reads hs hg)
    clear hs hg HF
    go_wp2_with fail
    refine (anyplate_any B b _ (unhide HK6).src).mono ?_
    rintro e w7 ⟨l, a, s, rfl, hv, hs, hg⟩
    have HK7 := hide ((unhide HK6).reads hs hg)
    clear hs hg HK6
    go_wp2_with fail
    refine (range_any B b 1 3 _ (unhide HK7).src (by omega) (by omega) (by omega)).mono ?_
    rintro e w8 ⟨cnt, rfl, hc1, hc2, hs, hg⟩
    have HK8 := hide ((unhide HK7).reads hs hg)
    clear hs hg HK7
    have m10 := (unhide HK8).cell 10
    have f10 := (unhide HK8).frz 10
    have m11 := (unhide HK8).cell 11
    have f11 := (unhide HK8).frz 11
    have m12 := (unhide HK8).cell 12
    have f12 := (unhide HK8).frz 12
    have m13 := (unhide HK8).cell 13
    have f13 := (unhide HK8).frz 13
    have m14 := (unhide HK8).cell 14
    have f14 := (unhide HK8).frz 14
    have m15 := (unhide HK8).cell 15
    have f15 := (unhide HK8).frz 15
    have m17 := (unhide HK8).cell 17
    have f17 := (unhide HK8).frz 17
    have m18 := (unhide HK8).cell 18
    have f18 := (unhide HK8).frz 18
    have m19 := (unhide HK8).cell 19
    have f19 := (unhide HK8).frz 19
    have m20 := (unhide HK8).cell 20
    have f20 := (unhide HK8).frz 20
    obtain ⟨WB, hWB, HF⟩ : ∃ WB : World, ((((((((((w8.setCell ⟨M, 10, none⟩ (.string gc)).setCell ⟨M, 11, none⟩ (.int .i64 gn)).setCell ⟨M, 12, none⟩ (.string gs)).setCell ⟨M, 13, none⟩ (.int .i64 gd)).setCell ⟨M, 14, none⟩ (.string gp)).setCell ⟨M, 15, none⟩ (.string gk)).setCell ⟨M, 17, none⟩ (.int .i64 l)).setCell ⟨M, 18, none⟩ (.int .i64 a)).setCell ⟨M, 19, none⟩ (.int .i64 s)).setCell ⟨M, 20, none⟩ (.int .i64 cnt)) = WB ∧ Hid (Mk W1 B b (M + 1) M { msg0 with kind := 1, act := act, port := prt, num := num, out := ⟨gc, gn, gs, gd, gp, gk⟩, pl := l, pa := a, ps := s, cnt := cnt } none 0 none 0 WB) := ⟨_, rfl, ((((unhide HK8).out ⟨gc, gn, gs, gd, gp, gk⟩).plate l a s).set (m' := { msg0 with kind := 1, act := act, port := prt, num := num, out := ⟨gc, gn, gs, gd, gp, gk⟩, pl := l, pa := a, ps := s, cnt := cnt }) 20 (.int .i64 cnt) rfl rfl rfl)⟩
    have HGo := hide (few_lg hF1 hF2)
    go_wp2_with fail
    clear hWB HK8 hF1 hF2 m10 m11 m12 m13 m14 m15 m17 m18 m19 m20 f10 f11 f12 f13 f14 f15 f17 f18 f19 f20
    generalize hgg : (⟨gc, gn, gs, gd, gp, gk⟩ : Lg) = g at HF HGo
    clear hgg
    refine (n_any B b 4 _ (unhide HF).src (by omega) (by omega)).mono ?_
    rintro e w9 ⟨q, rfl, hq1, hq2, hs, hg⟩
    have HK9 := hide ((unhide HF).reads hs hg)
    clear hs hg HF
    obtain ⟨Q, rfl⟩ := Int.eq_ofNat_of_zero_le hq1
    have hQ : Q ≤ 3 := by omega
    clear hq1 hq2
    obtain ⟨i3, ki, kz0, kz1, kz2⟩ := info_parts info_lg
    have KI0 := hide ki
    have KZ0 := hide kz0
    have KZ1 := hide kz1
    have KZ2 := hide kz2
    clear ki kz0 kz1 kz2
    go_wp2_with fail
    go_loopw [8] (fun i wr => ∃ (k : Nat) (ls : List Lg) (A' : Option Addr) (c' : Nat), k + ls.length = Q ∧ i = .int .i64 k ∧ Hid (ls.all lgB = true) ∧ Mk W1 B b (M + 1) M { msg0 with kind := 1, act := act, port := prt, num := num, out := g, onw := ls, pl := l, pa := a, ps := s, cnt := cnt } A' c' none 0 wr) (fun i _ => (intOf i).toNat)
    case atStart => exact ⟨Q, [], none, 0, rfl, rfl, Lib.hid rfl, unhide HK9⟩
    case round =>
      obtain ⟨k, ls, A', c', hk, rfl, hal, hKr⟩ := hrel
      obtain ⟨wo, rfl⟩ : ∃ wo : World, wo = wr := ⟨_, rfl⟩
      have HKo := hide hKr
      have hll : ls.length ≤ 3 := by omega
      clear hKr HK9
      by_cases hkp : 0 < k
      · have kp : (0 : Int) < (k : Int) := by omega
        have HKd := hide ((unhide HKo).below ((Below.refl wo.heap.size wo).drew))
        have m16 : wo.cell? ⟨M, 16, none⟩ = some (.slice A' ls.length c') := (unhide HKo).cell 16
        go_wp2_with fail
        go_region_law (first
          | (refine step_append_lies _ rfl _ _ 31 rfl (M + 1) 30 i3 (.agg #[.string ByteArray.empty, .int .i64 0, .string ByteArray.empty, .int .i64 0, .string ByteArray.empty, .string ByteArray.empty]) 6 80 Tryz.underlying31 (unhide KI0) (unhide KZ0) (unhide KZ1) (unhide KZ2) rfl (by decide) _ _ _ rfl (unhide HO5) ⟨wq.heap.size, 0, none⟩ 1 1 [.string gc, .int .i64 gn, .string gs, .int .i64 gd, .string gp, .string gk] rfl rfl (World.news_of_block (heap_alloc_new wq _)) (unhide HOneX) (by omega) (by unfold maxLen; omega) (by omega) hsz5 _ rfl ?_
             intro q7 cap w9 hown9 hgrow hat hlt9
             have hM9 := (hgrow.block M (Nat.lt_of_lt_of_le (unhide HR5).rd.hM (unhide HR5).rd.sz) (own_ne (unhide HR5).rd.legs (unhide HR5).rd.mb (by decide))).trans (unhide HR5).rd.mb
             have m16d : w9.cell? ⟨M, 16, none⟩ = some (.slice A' ls.length c') := by rw [Lib.cell_of_heap hM9]; rfl
             have f16d := Lib.frozen_of_heap hM9 16
             have HR8 := hide ((unhide HR5).pushLeg (x := ⟨gc, gn, gs, gd, gp, gk⟩) hown9 hgrow)
             clear hM9 hown9 hgrow hat hlt9)
          | (go_simp; go_at_call 19
             refine (legs_any B b _ (unhide HKd).src).mono ?_
             rintro e wq ⟨gc, gn, gs, gd, gp, gk, rfl, hF1, hF2, hs, hg⟩
             have HR4 := hide ((unhide HKd).reads hs hg)
             have HGx := hide (few_lg hF1 hF2)
             have m16b : wq.cell? ⟨M, 16, none⟩ = some (.slice A' ls.length c') := (unhide HR4).cell 16
             have HR5 := hide ((unhide HR4).alloc (.cells #[.string gc, .int .i64 gn, .string gs, .int .i64 gd, .string gp, .string gk] 30))
             have m16c : (wq.alloc (.cells #[.string gc, .int .i64 gn, .string gs, .int .i64 gd, .string gp, .string gk] 30)).cell? ⟨M, 16, none⟩ = some (.slice A' ls.length c') := (unhide HR5).cell 16
             have HO5 := hide (show (wq.alloc (.cells #[.string gc, .int .i64 gn, .string gs, .int .i64 gd, .string gp, .string gk] 30)).ownsRow (M + 1) 30 6 (.slice A' ls.length c') ls.length (ls.flatMap lgC) from (unhide HR5).rd.legs)
             have hsz5 := (unhide HR5).rd.sz
             have HOneX := hide (show ∀ u ∈ [Value.string gc, .int .i64 gn, .string gs, .int .i64 gd, .string gp, .string gk], u.oneCell' = true by intro u hu; simp at hu; rcases hu with rfl | rfl | rfl | rfl | rfl | rfl <;> rfl)
             clear hs hg hF1 hF2))
        all_goals
          go_wp2
          go_roundw
          case rel => exact ⟨k - 1, ls ++ [⟨gc, gn, gs, gd, gp, gk⟩], _, _, by rw [List.length_append, List.length_singleton]; omega, by go_num, Lib.hid (by rw [List.all_append, unhide hal, List.all_cons, unhide HGx]; rfl), unhide HR8⟩
          case measure => simp [intOf]; omega
      · obtain rfl : k = 0 := by omega
        have kp : ¬ (0 : Int) < ((0 : Nat) : Int) := by omega
        have HAl := hide hal
        clear hal
        go_wp2_with fail
        refine (n_any B b 3 _ (unhide HKo).src (by omega) (by omega)).mono ?_
        rintro e w21 ⟨lx, rfl, hl1, hl2, hs, hg⟩
        have HK21 := hide ((unhide HKo).reads hs hg)
        clear hs hg HKo
        obtain ⟨lb, hlb⟩ : ∃ lb : Bool, decide (0 < lx) = lb := ⟨_, rfl⟩
        clear hl1 hl2
        go_wp2_with fail
        refine (range_any B b 1 4 _ (unhide HK21).src (by omega) (by omega) (by omega)).mono ?_
        rintro e w22 ⟨st, rfl, ht1, ht2, hs, hg⟩
        have HK22 := hide ((unhide HK21).reads hs hg)
        clear hs hg HK21
        go_wp2_with fail
        refine (range_any B b 1 4 _ (unhide HK22).src (by omega) (by omega) (by omega)).mono ?_
        rintro e w23 ⟨sq, rfl, hsq1, hsq2, hs, hg⟩
        have HK23 := hide ((unhide HK22).reads hs hg)
        clear hs hg HK22
        have m21 := (unhide HK23).cell 21
        have f21 := (unhide HK23).frz 21
        have m22 := (unhide HK23).cell 22
        have f22 := (unhide HK23).frz 22
        have m23 := (unhide HK23).cell 23
        have f23 := (unhide HK23).frz 23
        obtain ⟨WD, hWD, HF⟩ : ∃ WD : World, (((w23.setCell ⟨M, 21, none⟩ (.bool lb)).setCell ⟨M, 22, none⟩ (.int .i64 st)).setCell ⟨M, 23, none⟩ (.int .i64 sq)) = WD ∧ Hid (Mk W1 B b (M + 1) M { msg0 with kind := 1, act := act, port := prt, num := num, out := g, onw := ls, pl := l, pa := a, ps := s, cnt := cnt, load := lb, sta := st, sq := sq } A' c' none 0 WD) := ⟨_, rfl, (((unhide HK23).set (m' := { msg0 with kind := 1, act := act, port := prt, num := num, out := g, onw := ls, pl := l, pa := a, ps := s, cnt := cnt, load := lb }) 21 (.bool lb) rfl rfl rfl).set (m' := { msg0 with kind := 1, act := act, port := prt, num := num, out := g, onw := ls, pl := l, pa := a, ps := s, cnt := cnt, load := lb, sta := st }) 22 (.int .i64 st) rfl rfl rfl).set (m' := { msg0 with kind := 1, act := act, port := prt, num := num, out := g, onw := ls, pl := l, pa := a, ps := s, cnt := cnt, load := lb, sta := st, sq := sq }) 23 (.int .i64 sq) rfl rfl rfl⟩
        go_wp2_with fail
        clear hWD hlb HK23 m21 m22 m23 f21 f22 f23
        have hne := (unhide HF).ne
        have HKa := hide ((unhide HF).alloc (.cells #[.int .i64 20, .int .i64 0, .int .i64 999] 3))
        refine (pick_any B b _ 3 fewWgt _ (unhide HKa).src (by omega) (by omega) hne (three_ints rfl rfl rfl)).mono ?_
        rintro e w24 ⟨j, _, rfl, hs, hg⟩
        have HK24 := hide ((unhide HKa).reads hs hg)
        have hwg := fewWgt_range j
        clear hs hg HF HKa hne
        generalize fewWgt j = wg at *
        obtain ⟨hw1, hw2⟩ := hwg
        go_wp2_with fail
        refine (rletters_any B b 1 6 _ (unhide HK24).src (by omega) (by omega) (by omega)).mono ?_
        rintro e w25 ⟨S1, rfl, hS1, hS2, hS3, hs, hg⟩
        have HK25 := hide ((unhide HK24).reads hs hg)
        clear hs hg HK24
        go_wp2_with fail
        refine (rletters_any B b 0 5 _ (unhide HK25).src (by omega) (by omega) (by omega)).mono ?_
        rintro e w26 ⟨S2, rfl, hS4, hS5, hS6, hs, hg⟩
        have HK26 := hide ((unhide HK25).reads hs hg)
        clear hs hg HK25
        go_wp2_with fail
        refine (range_any B b 0 3 _ (unhide HK26).src (by omega) (by omega) (by omega)).mono ?_
        rintro e w27 ⟨ex, rfl, hx1, hx2, hs, hg⟩
        have HK27 := hide ((unhide HK26).reads hs hg)
        clear hs hg HK26
        have m24 := (unhide HK27).cell 24
        have f24 := (unhide HK27).frz 24
        have m25 := (unhide HK27).cell 25
        have f25 := (unhide HK27).frz 25
        have m26 := (unhide HK27).cell 26
        have f26 := (unhide HK27).frz 26
        have m27 := (unhide HK27).cell 27
        have f27 := (unhide HK27).frz 27
        obtain ⟨WF, hWF, HF⟩ : ∃ WF : World, ((((w27.setCell ⟨M, 24, none⟩ (.int .i64 wg)).setCell ⟨M, 25, none⟩ (.string S1)).setCell ⟨M, 26, none⟩ (.string S2)).setCell ⟨M, 27, none⟩ (.int .i64 ex)) = WF ∧ Hid (Mk W1 B b (M + 1) M { msg0 with kind := 1, act := act, port := prt, num := num, out := g, onw := ls, pl := l, pa := a, ps := s, cnt := cnt, load := lb, sta := st, sq := sq, wgt := wg, sur := S1, giv := S2, exc := ex } A' c' none 0 WF) := ⟨_, rfl, ((((unhide HK27).set (m' := { msg0 with kind := 1, act := act, port := prt, num := num, out := g, onw := ls, pl := l, pa := a, ps := s, cnt := cnt, load := lb, sta := st, sq := sq, wgt := wg }) 24 (.int .i64 wg) rfl rfl rfl).set (m' := { msg0 with kind := 1, act := act, port := prt, num := num, out := g, onw := ls, pl := l, pa := a, ps := s, cnt := cnt, load := lb, sta := st, sq := sq, wgt := wg, sur := S1 }) 25 (.string S1) rfl rfl rfl).set (m' := { msg0 with kind := 1, act := act, port := prt, num := num, out := g, onw := ls, pl := l, pa := a, ps := s, cnt := cnt, load := lb, sta := st, sq := sq, wgt := wg, sur := S1, giv := S2 }) 26 (.string S2) rfl rfl rfl).set (m' := { msg0 with kind := 1, act := act, port := prt, num := num, out := g, onw := ls, pl := l, pa := a, ps := s, cnt := cnt, load := lb, sta := st, sq := sq, wgt := wg, sur := S1, giv := S2, exc := ex }) 27 (.int .i64 ex) rfl rfl rfl⟩
        have HVv := hide (valid1 (lb := lb) (unhide HPO) hn1 hn2 ha1 ha2 (unhide HGo) (unhide HAl) hll hv hc1 hc2 ht1 ht2 hsq1 hsq2 hw1 hw2 hS1 hS2 hS3 hS5 hS6 hx1 hx2)
        have HM := hide (unhide HF).rd.mb
        have HRR := hide ((unhide HF).res (by have := unhide HZ1; omega) (unhide HLT) (unhide HR1))
        go_wp2_with (first | ((with_reducible show wpList _ _ _ _ _ WF); refine wpList_loadM (unhide HM) rfl _ rfl rfl ?_) | ((with_reducible show wpList _ _ _ _ _ WF); refine wpList_storeM (unhide HRR) { msg0 with kind := 1, act := act, port := prt, num := num, out := g, onw := ls, pl := l, pa := a, ps := s, cnt := cnt, load := lb, sta := st, sq := sq, wgt := wg, sur := S1, giv := S2, exc := ex } A' c' none 0 rfl _ _ rfl rfl rfl rfl ?_))
        have hR := setRow_heap _ w.heap.size zeroL (msgL { msg0 with kind := 1, act := act, port := prt, num := num, out := g, onw := ls, pl := l, pa := a, ps := s, cnt := cnt, load := lb, sta := st, sq := sq, wgt := wg, sur := S1, giv := S2, exc := ex } A' c' none 0) _ _ (unhide HRR)
        obtain ⟨q1, q2, q3, q4, q5⟩ := (unhide HF).finish (a := w) (R := w.heap.size) (msgL { msg0 with kind := 1, act := act, port := prt, num := num, out := g, onw := ls, pl := l, pa := a, ps := s, cnt := cnt, load := lb, sta := st, sq := sq, wgt := wg, sur := S1, giv := S2, exc := ex } A' c' none 0) (by have := unhide HZ1; omega) (unhide HLT) (Nat.le_refl _) (unhide HG1)
        exact bodyPost_ret (results_cell_row rfl _ _ w.heap.size _ _ _ _ rfl hR undM' undM infoM) rfl ⟨{ msg0 with kind := 1, act := act, port := prt, num := num, out := g, onw := ls, pl := l, pa := a, ps := s, cnt := cnt, load := lb, sta := st, sq := sq, wgt := wg, sur := S1, giv := S2, exc := ex }, A', c', none, 0, rfl, ⟨unhide HVv, hn1, hn2, unhide HPR⟩, q1, q2, q3, q4, q5⟩
  · -- kind 2
    go_wp2_with (refine wpList_storeM_new rfl { msg0 with kind := 2, port := prt, num := num } none 0 none 0 rfl _ _ rfl rfl rfl rfl ?_)
    obtain ⟨W4, hW4⟩ : ∃ W4 : World, w4.alloc (msgO { msg0 with kind := 2, port := prt, num := num } none 0 none 0) = W4 := ⟨_, rfl⟩
    have hz4 : W4.heap.size = w4.heap.size + 1 := by rw [← hW4]; exact World.size_alloc _ _
    rw [hW4] at HK ⊢
    clear hW4
    generalize w4.heap.size = M at *
    have HZ4 := hide hz4
    clear hz4
    have hne := (unhide HK).ne
    have hcs := four_ints (w := W4) (f := fewAct) (x := 0) (y := 0) (z := 1) (q := 2) (t := 3) rfl rfl rfl rfl
    rw [unhide HZ4] at hne hcs
    have HKa := hide ((unhide HK).alloc (.cells #[.int .i64 0, .int .i64 0, .int .i64 1, .int .i64 2] 3))
    refine (pick_any B b (M + 1) 4 fewAct _ (unhide HKa).src (by omega) (by omega) hne hcs).mono ?_
    rintro e w5 ⟨j, _, rfl, hs, hg⟩
    have HK5 := hide ((unhide HKa).reads hs hg)
    have hact := fewAct_range j
    clear hs hg HK HKa hne hcs
    generalize fewAct j = act at *
    obtain ⟨ha1, ha2⟩ := hact
    have m1 := (unhide HK5).cell 1
    have f1 := (unhide HK5).frz 1
    obtain ⟨WA, hWA, HF⟩ : ∃ WA : World, (w5.setCell ⟨M, 1, none⟩ (.int .i64 act)) = WA ∧ Hid (Mk W1 B b (M + 1) M { msg0 with kind := 2, act := act, port := prt, num := num } none 0 none 0 WA) := ⟨_, rfl, (unhide HK5).set (m' := { msg0 with kind := 2, act := act, port := prt, num := num }) 1 (.int .i64 act) rfl rfl rfl⟩
    go_wp2_with fail
    clear hWA HK5 m1 f1
    refine (legs_any B b _ (unhide HF).src).mono ?_
    rintro e w6 ⟨gc, gn, gs, gd, gp, gk, rfl, hF1, hF2, hs, hg⟩
    have HK6 := hide ((unhide HF).reads hs hg)
    clear hs hg HF
    go_wp2_with fail
    refine (anyplate_any B b _ (unhide HK6).src).mono ?_
    rintro e w7 ⟨l, a, s, rfl, hv, hs, hg⟩
    have HK7 := hide ((unhide HK6).reads hs hg)
    clear hs hg HK6
    go_wp2_with fail
    refine (range_any B b 1 3 _ (unhide HK7).src (by omega) (by omega) (by omega)).mono ?_
    rintro e w8 ⟨cnt, rfl, hc1, hc2, hs, hg⟩
    have HK8 := hide ((unhide HK7).reads hs hg)
    clear hs hg HK7
    have m10 := (unhide HK8).cell 10
    have f10 := (unhide HK8).frz 10
    have m11 := (unhide HK8).cell 11
    have f11 := (unhide HK8).frz 11
    have m12 := (unhide HK8).cell 12
    have f12 := (unhide HK8).frz 12
    have m13 := (unhide HK8).cell 13
    have f13 := (unhide HK8).frz 13
    have m14 := (unhide HK8).cell 14
    have f14 := (unhide HK8).frz 14
    have m15 := (unhide HK8).cell 15
    have f15 := (unhide HK8).frz 15
    have m17 := (unhide HK8).cell 17
    have f17 := (unhide HK8).frz 17
    have m18 := (unhide HK8).cell 18
    have f18 := (unhide HK8).frz 18
    have m19 := (unhide HK8).cell 19
    have f19 := (unhide HK8).frz 19
    have m20 := (unhide HK8).cell 20
    have f20 := (unhide HK8).frz 20
    obtain ⟨WB, hWB, HF⟩ : ∃ WB : World, ((((((((((w8.setCell ⟨M, 10, none⟩ (.string gc)).setCell ⟨M, 11, none⟩ (.int .i64 gn)).setCell ⟨M, 12, none⟩ (.string gs)).setCell ⟨M, 13, none⟩ (.int .i64 gd)).setCell ⟨M, 14, none⟩ (.string gp)).setCell ⟨M, 15, none⟩ (.string gk)).setCell ⟨M, 17, none⟩ (.int .i64 l)).setCell ⟨M, 18, none⟩ (.int .i64 a)).setCell ⟨M, 19, none⟩ (.int .i64 s)).setCell ⟨M, 20, none⟩ (.int .i64 cnt)) = WB ∧ Hid (Mk W1 B b (M + 1) M { msg0 with kind := 2, act := act, port := prt, num := num, out := ⟨gc, gn, gs, gd, gp, gk⟩, pl := l, pa := a, ps := s, cnt := cnt } none 0 none 0 WB) := ⟨_, rfl, ((((unhide HK8).out ⟨gc, gn, gs, gd, gp, gk⟩).plate l a s).set (m' := { msg0 with kind := 2, act := act, port := prt, num := num, out := ⟨gc, gn, gs, gd, gp, gk⟩, pl := l, pa := a, ps := s, cnt := cnt }) 20 (.int .i64 cnt) rfl rfl rfl)⟩
    have HGo := hide (few_lg hF1 hF2)
    go_wp2_with fail
    clear hWB HK8 hF1 hF2 m10 m11 m12 m13 m14 m15 m17 m18 m19 m20 f10 f11 f12 f13 f14 f15 f17 f18 f19 f20
    generalize hgg : (⟨gc, gn, gs, gd, gp, gk⟩ : Lg) = g at HF HGo
    clear hgg
    refine (legs_any B b _ (unhide HF).src).mono ?_
    rintro e w9 ⟨gc, gn, gs, gd, gp, gk, rfl, hF1, hF2, hs, hg⟩
    have HK9 := hide ((unhide HF).reads hs hg)
    clear hs hg HF
    have m4 := (unhide HK9).cell 4
    have f4 := (unhide HK9).frz 4
    have m5 := (unhide HK9).cell 5
    have f5 := (unhide HK9).frz 5
    have m6 := (unhide HK9).cell 6
    have f6 := (unhide HK9).frz 6
    have m7 := (unhide HK9).cell 7
    have f7 := (unhide HK9).frz 7
    have m8 := (unhide HK9).cell 8
    have f8 := (unhide HK9).frz 8
    have m9 := (unhide HK9).cell 9
    have f9 := (unhide HK9).frz 9
    obtain ⟨WC, hWC, HF⟩ : ∃ WC : World, ((((((w9.setCell ⟨M, 4, none⟩ (.string gc)).setCell ⟨M, 5, none⟩ (.int .i64 gn)).setCell ⟨M, 6, none⟩ (.string gs)).setCell ⟨M, 7, none⟩ (.int .i64 gd)).setCell ⟨M, 8, none⟩ (.string gp)).setCell ⟨M, 9, none⟩ (.string gk)) = WC ∧ Hid (Mk W1 B b (M + 1) M { msg0 with kind := 2, act := act, port := prt, num := num, inn := ⟨gc, gn, gs, gd, gp, gk⟩, out := g, pl := l, pa := a, ps := s, cnt := cnt } none 0 none 0 WC) := ⟨_, rfl, (unhide HK9).inn ⟨gc, gn, gs, gd, gp, gk⟩⟩
    have HGi := hide (few_lg hF1 hF2)
    go_wp2_with fail
    clear hWC HK9 hF1 hF2 m4 m5 m6 m7 m8 m9 f4 f5 f6 f7 f8 f9
    generalize hgg : (⟨gc, gn, gs, gd, gp, gk⟩ : Lg) = gi at HF HGi
    clear hgg
    refine (n_any B b 4 _ (unhide HF).src (by omega) (by omega)).mono ?_
    rintro e w10 ⟨q, rfl, hq1, hq2, hs, hg⟩
    have HK10 := hide ((unhide HF).reads hs hg)
    clear hs hg HF
    obtain ⟨Q, rfl⟩ := Int.eq_ofNat_of_zero_le hq1
    have hQ : Q ≤ 3 := by omega
    clear hq1 hq2
    obtain ⟨i3, ki, kz0, kz1, kz2⟩ := info_parts info_lg
    have KI0 := hide ki
    have KZ0 := hide kz0
    have KZ1 := hide kz1
    have KZ2 := hide kz2
    clear ki kz0 kz1 kz2
    go_wp2_with fail
    go_loopw [8] (fun i wr => ∃ (k : Nat) (ls : List Lg) (A' : Option Addr) (c' : Nat), k + ls.length = Q ∧ i = .int .i64 k ∧ Hid (ls.all lgB = true) ∧ Mk W1 B b (M + 1) M { msg0 with kind := 2, act := act, port := prt, num := num, inn := gi, out := g, onw := ls, pl := l, pa := a, ps := s, cnt := cnt } A' c' none 0 wr) (fun i _ => (intOf i).toNat)
    case atStart => exact ⟨Q, [], none, 0, rfl, rfl, Lib.hid rfl, unhide HK10⟩
    case round =>
      obtain ⟨k, ls, A', c', hk, rfl, hal, hKr⟩ := hrel
      obtain ⟨wo, rfl⟩ : ∃ wo : World, wo = wr := ⟨_, rfl⟩
      have HKo := hide hKr
      have hll : ls.length ≤ 3 := by omega
      clear hKr HK10
      by_cases hkp : 0 < k
      · have kp : (0 : Int) < (k : Int) := by omega
        have HKd := hide ((unhide HKo).below ((Below.refl wo.heap.size wo).drew))
        have m16 : wo.cell? ⟨M, 16, none⟩ = some (.slice A' ls.length c') := (unhide HKo).cell 16
        go_wp2_with fail
        go_region_law (first
          | (refine step_append_lies _ rfl _ _ 31 rfl (M + 1) 30 i3 (.agg #[.string ByteArray.empty, .int .i64 0, .string ByteArray.empty, .int .i64 0, .string ByteArray.empty, .string ByteArray.empty]) 6 80 Tryz.underlying31 (unhide KI0) (unhide KZ0) (unhide KZ1) (unhide KZ2) rfl (by decide) _ _ _ rfl (unhide HO5) ⟨wq.heap.size, 0, none⟩ 1 1 [.string gc, .int .i64 gn, .string gs, .int .i64 gd, .string gp, .string gk] rfl rfl (World.news_of_block (heap_alloc_new wq _)) (unhide HOneX) (by omega) (by unfold maxLen; omega) (by omega) hsz5 _ rfl ?_
             intro q7 cap w9 hown9 hgrow hat hlt9
             have hM9 := (hgrow.block M (Nat.lt_of_lt_of_le (unhide HR5).rd.hM (unhide HR5).rd.sz) (own_ne (unhide HR5).rd.legs (unhide HR5).rd.mb (by decide))).trans (unhide HR5).rd.mb
             have m16d : w9.cell? ⟨M, 16, none⟩ = some (.slice A' ls.length c') := by rw [Lib.cell_of_heap hM9]; rfl
             have f16d := Lib.frozen_of_heap hM9 16
             have HR8 := hide ((unhide HR5).pushLeg (x := ⟨gc, gn, gs, gd, gp, gk⟩) hown9 hgrow)
             clear hM9 hown9 hgrow hat hlt9)
          | (go_simp; go_at_call 19
             refine (legs_any B b _ (unhide HKd).src).mono ?_
             rintro e wq ⟨gc, gn, gs, gd, gp, gk, rfl, hF1, hF2, hs, hg⟩
             have HR4 := hide ((unhide HKd).reads hs hg)
             have HGx := hide (few_lg hF1 hF2)
             have m16b : wq.cell? ⟨M, 16, none⟩ = some (.slice A' ls.length c') := (unhide HR4).cell 16
             have HR5 := hide ((unhide HR4).alloc (.cells #[.string gc, .int .i64 gn, .string gs, .int .i64 gd, .string gp, .string gk] 30))
             have m16c : (wq.alloc (.cells #[.string gc, .int .i64 gn, .string gs, .int .i64 gd, .string gp, .string gk] 30)).cell? ⟨M, 16, none⟩ = some (.slice A' ls.length c') := (unhide HR5).cell 16
             have HO5 := hide (show (wq.alloc (.cells #[.string gc, .int .i64 gn, .string gs, .int .i64 gd, .string gp, .string gk] 30)).ownsRow (M + 1) 30 6 (.slice A' ls.length c') ls.length (ls.flatMap lgC) from (unhide HR5).rd.legs)
             have hsz5 := (unhide HR5).rd.sz
             have HOneX := hide (show ∀ u ∈ [Value.string gc, .int .i64 gn, .string gs, .int .i64 gd, .string gp, .string gk], u.oneCell' = true by intro u hu; simp at hu; rcases hu with rfl | rfl | rfl | rfl | rfl | rfl <;> rfl)
             clear hs hg hF1 hF2))
        all_goals
          go_wp2
          go_roundw
          case rel => exact ⟨k - 1, ls ++ [⟨gc, gn, gs, gd, gp, gk⟩], _, _, by rw [List.length_append, List.length_singleton]; omega, by go_num, Lib.hid (by rw [List.all_append, unhide hal, List.all_cons, unhide HGx]; rfl), unhide HR8⟩
          case measure => simp [intOf]; omega
      · obtain rfl : k = 0 := by omega
        have kp : ¬ (0 : Int) < ((0 : Nat) : Int) := by omega
        have HAl := hide hal
        clear hal
        go_wp2_with fail
        refine (n_any B b 3 _ (unhide HKo).src (by omega) (by omega)).mono ?_
        rintro e w21 ⟨lx, rfl, hl1, hl2, hs, hg⟩
        have HK21 := hide ((unhide HKo).reads hs hg)
        clear hs hg HKo
        obtain ⟨lb, hlb⟩ : ∃ lb : Bool, decide (0 < lx) = lb := ⟨_, rfl⟩
        clear hl1 hl2
        go_wp2_with fail
        refine (range_any B b 1 4 _ (unhide HK21).src (by omega) (by omega) (by omega)).mono ?_
        rintro e w22 ⟨st, rfl, ht1, ht2, hs, hg⟩
        have HK22 := hide ((unhide HK21).reads hs hg)
        clear hs hg HK21
        go_wp2_with fail
        refine (range_any B b 1 4 _ (unhide HK22).src (by omega) (by omega) (by omega)).mono ?_
        rintro e w23 ⟨sq, rfl, hsq1, hsq2, hs, hg⟩
        have HK23 := hide ((unhide HK22).reads hs hg)
        clear hs hg HK22
        have m21 := (unhide HK23).cell 21
        have f21 := (unhide HK23).frz 21
        have m22 := (unhide HK23).cell 22
        have f22 := (unhide HK23).frz 22
        have m23 := (unhide HK23).cell 23
        have f23 := (unhide HK23).frz 23
        obtain ⟨WD, hWD, HF⟩ : ∃ WD : World, (((w23.setCell ⟨M, 21, none⟩ (.bool lb)).setCell ⟨M, 22, none⟩ (.int .i64 st)).setCell ⟨M, 23, none⟩ (.int .i64 sq)) = WD ∧ Hid (Mk W1 B b (M + 1) M { msg0 with kind := 2, act := act, port := prt, num := num, inn := gi, out := g, onw := ls, pl := l, pa := a, ps := s, cnt := cnt, load := lb, sta := st, sq := sq } A' c' none 0 WD) := ⟨_, rfl, (((unhide HK23).set (m' := { msg0 with kind := 2, act := act, port := prt, num := num, inn := gi, out := g, onw := ls, pl := l, pa := a, ps := s, cnt := cnt, load := lb }) 21 (.bool lb) rfl rfl rfl).set (m' := { msg0 with kind := 2, act := act, port := prt, num := num, inn := gi, out := g, onw := ls, pl := l, pa := a, ps := s, cnt := cnt, load := lb, sta := st }) 22 (.int .i64 st) rfl rfl rfl).set (m' := { msg0 with kind := 2, act := act, port := prt, num := num, inn := gi, out := g, onw := ls, pl := l, pa := a, ps := s, cnt := cnt, load := lb, sta := st, sq := sq }) 23 (.int .i64 sq) rfl rfl rfl⟩
        go_wp2_with fail
        clear hWD hlb HK23 m21 m22 m23 f21 f22 f23
        have hne := (unhide HF).ne
        have HKa := hide ((unhide HF).alloc (.cells #[.int .i64 20, .int .i64 0, .int .i64 999] 3))
        refine (pick_any B b _ 3 fewWgt _ (unhide HKa).src (by omega) (by omega) hne (three_ints rfl rfl rfl)).mono ?_
        rintro e w24 ⟨j, _, rfl, hs, hg⟩
        have HK24 := hide ((unhide HKa).reads hs hg)
        have hwg := fewWgt_range j
        clear hs hg HF HKa hne
        generalize fewWgt j = wg at *
        obtain ⟨hw1, hw2⟩ := hwg
        go_wp2_with fail
        refine (rletters_any B b 1 6 _ (unhide HK24).src (by omega) (by omega) (by omega)).mono ?_
        rintro e w25 ⟨S1, rfl, hS1, hS2, hS3, hs, hg⟩
        have HK25 := hide ((unhide HK24).reads hs hg)
        clear hs hg HK24
        go_wp2_with fail
        refine (rletters_any B b 0 5 _ (unhide HK25).src (by omega) (by omega) (by omega)).mono ?_
        rintro e w26 ⟨S2, rfl, hS4, hS5, hS6, hs, hg⟩
        have HK26 := hide ((unhide HK25).reads hs hg)
        clear hs hg HK25
        go_wp2_with fail
        refine (range_any B b 0 3 _ (unhide HK26).src (by omega) (by omega) (by omega)).mono ?_
        rintro e w27 ⟨ex, rfl, hx1, hx2, hs, hg⟩
        have HK27 := hide ((unhide HK26).reads hs hg)
        clear hs hg HK26
        have m24 := (unhide HK27).cell 24
        have f24 := (unhide HK27).frz 24
        have m25 := (unhide HK27).cell 25
        have f25 := (unhide HK27).frz 25
        have m26 := (unhide HK27).cell 26
        have f26 := (unhide HK27).frz 26
        have m27 := (unhide HK27).cell 27
        have f27 := (unhide HK27).frz 27
        obtain ⟨WF, hWF, HF⟩ : ∃ WF : World, ((((w27.setCell ⟨M, 24, none⟩ (.int .i64 wg)).setCell ⟨M, 25, none⟩ (.string S1)).setCell ⟨M, 26, none⟩ (.string S2)).setCell ⟨M, 27, none⟩ (.int .i64 ex)) = WF ∧ Hid (Mk W1 B b (M + 1) M { msg0 with kind := 2, act := act, port := prt, num := num, inn := gi, out := g, onw := ls, pl := l, pa := a, ps := s, cnt := cnt, load := lb, sta := st, sq := sq, wgt := wg, sur := S1, giv := S2, exc := ex } A' c' none 0 WF) := ⟨_, rfl, ((((unhide HK27).set (m' := { msg0 with kind := 2, act := act, port := prt, num := num, inn := gi, out := g, onw := ls, pl := l, pa := a, ps := s, cnt := cnt, load := lb, sta := st, sq := sq, wgt := wg }) 24 (.int .i64 wg) rfl rfl rfl).set (m' := { msg0 with kind := 2, act := act, port := prt, num := num, inn := gi, out := g, onw := ls, pl := l, pa := a, ps := s, cnt := cnt, load := lb, sta := st, sq := sq, wgt := wg, sur := S1 }) 25 (.string S1) rfl rfl rfl).set (m' := { msg0 with kind := 2, act := act, port := prt, num := num, inn := gi, out := g, onw := ls, pl := l, pa := a, ps := s, cnt := cnt, load := lb, sta := st, sq := sq, wgt := wg, sur := S1, giv := S2 }) 26 (.string S2) rfl rfl rfl).set (m' := { msg0 with kind := 2, act := act, port := prt, num := num, inn := gi, out := g, onw := ls, pl := l, pa := a, ps := s, cnt := cnt, load := lb, sta := st, sq := sq, wgt := wg, sur := S1, giv := S2, exc := ex }) 27 (.int .i64 ex) rfl rfl rfl⟩
        have HVv := hide (valid2 (lb := lb) (unhide HPO) hn1 hn2 ha1 ha2 (unhide HGo) (unhide HGi) (unhide HAl) hll hv hc1 hc2 ht1 ht2 hsq1 hsq2 hw1 hw2 hS1 hS2 hS3 hS5 hS6 hx1 hx2)
        have HM := hide (unhide HF).rd.mb
        have HRR := hide ((unhide HF).res (by have := unhide HZ1; omega) (unhide HLT) (unhide HR1))
        go_wp2_with (first | ((with_reducible show wpList _ _ _ _ _ WF); refine wpList_loadM (unhide HM) rfl _ rfl rfl ?_) | ((with_reducible show wpList _ _ _ _ _ WF); refine wpList_storeM (unhide HRR) { msg0 with kind := 2, act := act, port := prt, num := num, inn := gi, out := g, onw := ls, pl := l, pa := a, ps := s, cnt := cnt, load := lb, sta := st, sq := sq, wgt := wg, sur := S1, giv := S2, exc := ex } A' c' none 0 rfl _ _ rfl rfl rfl rfl ?_))
        have hR := setRow_heap _ w.heap.size zeroL (msgL { msg0 with kind := 2, act := act, port := prt, num := num, inn := gi, out := g, onw := ls, pl := l, pa := a, ps := s, cnt := cnt, load := lb, sta := st, sq := sq, wgt := wg, sur := S1, giv := S2, exc := ex } A' c' none 0) _ _ (unhide HRR)
        obtain ⟨q1, q2, q3, q4, q5⟩ := (unhide HF).finish (a := w) (R := w.heap.size) (msgL { msg0 with kind := 2, act := act, port := prt, num := num, inn := gi, out := g, onw := ls, pl := l, pa := a, ps := s, cnt := cnt, load := lb, sta := st, sq := sq, wgt := wg, sur := S1, giv := S2, exc := ex } A' c' none 0) (by have := unhide HZ1; omega) (unhide HLT) (Nat.le_refl _) (unhide HG1)
        exact bodyPost_ret (results_cell_row rfl _ _ w.heap.size _ _ _ _ rfl hR undM' undM infoM) rfl ⟨{ msg0 with kind := 2, act := act, port := prt, num := num, inn := gi, out := g, onw := ls, pl := l, pa := a, ps := s, cnt := cnt, load := lb, sta := st, sq := sq, wgt := wg, sur := S1, giv := S2, exc := ex }, A', c', none, 0, rfl, ⟨unhide HVv, hn1, hn2, unhide HPR⟩, q1, q2, q3, q4, q5⟩
  · -- kind 3
    go_wp2_with (refine wpList_storeM_new rfl { msg0 with kind := 3, port := prt, num := num } none 0 none 0 rfl _ _ rfl rfl rfl rfl ?_)
    obtain ⟨W4, hW4⟩ : ∃ W4 : World, w4.alloc (msgO { msg0 with kind := 3, port := prt, num := num } none 0 none 0) = W4 := ⟨_, rfl⟩
    have hz4 : W4.heap.size = w4.heap.size + 1 := by rw [← hW4]; exact World.size_alloc _ _
    rw [hW4] at HK ⊢
    clear hW4
    generalize w4.heap.size = M at *
    have HZ4 := hide hz4
    clear hz4
    refine (anyplate_any B b _ (unhide HK).src).mono ?_
    rintro e w5 ⟨l, a, s, rfl, hv, hs, hg⟩
    have HK5 := hide ((unhide HK).reads hs hg)
    clear hs hg HK
    go_wp2_with fail
    refine (range_any B b 1 3 _ (unhide HK5).src (by omega) (by omega) (by omega)).mono ?_
    rintro e w6 ⟨cnt, rfl, hc1, hc2, hs, hg⟩
    have HK6 := hide ((unhide HK5).reads hs hg)
    clear hs hg HK5
    go_wp2_with fail
    refine (rletters_any B b 1 4 _ (unhide HK6).src (by omega) (by omega) (by omega)).mono ?_
    rintro e w7 ⟨S, rfl, hS1, hS2, hS3, hs, hg⟩
    have HK7 := hide ((unhide HK6).reads hs hg)
    clear hs hg HK6
    have m17 := (unhide HK7).cell 17
    have f17 := (unhide HK7).frz 17
    have m18 := (unhide HK7).cell 18
    have f18 := (unhide HK7).frz 18
    have m19 := (unhide HK7).cell 19
    have f19 := (unhide HK7).frz 19
    have m20 := (unhide HK7).cell 20
    have f20 := (unhide HK7).frz 20
    have m28 := (unhide HK7).cell 28
    have f28 := (unhide HK7).frz 28
    obtain ⟨WF, hWF, HF⟩ : ∃ WF : World, (((((w7.setCell ⟨M, 17, none⟩ (.int .i64 l)).setCell ⟨M, 18, none⟩ (.int .i64 a)).setCell ⟨M, 19, none⟩ (.int .i64 s)).setCell ⟨M, 20, none⟩ (.int .i64 cnt)).setCell ⟨M, 28, none⟩ (.string S)) = WF ∧ Hid (Mk W1 B b (M + 1) M { msg0 with kind := 3, port := prt, num := num, pl := l, pa := a, ps := s, cnt := cnt, node := S } none 0 none 0 WF) := ⟨_, rfl, (((unhide HK7).plate l a s).set (m' := { msg0 with kind := 3, port := prt, num := num, pl := l, pa := a, ps := s, cnt := cnt }) 20 (.int .i64 cnt) rfl rfl rfl).set (m' := { msg0 with kind := 3, port := prt, num := num, pl := l, pa := a, ps := s, cnt := cnt, node := S }) 28 (.string S) rfl rfl rfl⟩
    have HVv := hide (valid3 (unhide HPO) hn1 hn2 hv hc1 hc2 (name_few hS1 hS2 hS3))
    have HM := hide (unhide HF).rd.mb
    have HRR := hide ((unhide HF).res (by have := unhide HZ1; omega) (unhide HLT) (unhide HR1))
    go_wp2_with (first | ((with_reducible show wpList _ _ _ _ _ WF); refine wpList_loadM (unhide HM) rfl _ rfl rfl ?_) | ((with_reducible show wpList _ _ _ _ _ WF); refine wpList_storeM (unhide HRR) { msg0 with kind := 3, port := prt, num := num, pl := l, pa := a, ps := s, cnt := cnt, node := S } none 0 none 0 rfl _ _ rfl rfl rfl rfl ?_))
    have hR := setRow_heap _ w.heap.size zeroL (msgL { msg0 with kind := 3, port := prt, num := num, pl := l, pa := a, ps := s, cnt := cnt, node := S } none 0 none 0) _ _ (unhide HRR)
    obtain ⟨q1, q2, q3, q4, q5⟩ := (unhide HF).finish (a := w) (R := w.heap.size) (msgL { msg0 with kind := 3, port := prt, num := num, pl := l, pa := a, ps := s, cnt := cnt, node := S } none 0 none 0) (by have := unhide HZ1; omega) (unhide HLT) (Nat.le_refl _) (unhide HG1)
    exact bodyPost_ret (results_cell_row rfl _ _ w.heap.size _ _ _ _ rfl hR undM' undM infoM) rfl ⟨{ msg0 with kind := 3, port := prt, num := num, pl := l, pa := a, ps := s, cnt := cnt, node := S }, none, 0, none, 0, rfl, ⟨unhide HVv, hn1, hn2, unhide HPR⟩, q1, q2, q3, q4, q5⟩
  · -- kind 4
    go_wp2_with (refine wpList_storeM_new rfl { msg0 with kind := 4, port := prt, num := num } none 0 none 0 rfl _ _ rfl rfl rfl rfl ?_)
    obtain ⟨W4, hW4⟩ : ∃ W4 : World, w4.alloc (msgO { msg0 with kind := 4, port := prt, num := num } none 0 none 0) = W4 := ⟨_, rfl⟩
    have hz4 : W4.heap.size = w4.heap.size + 1 := by rw [← hW4]; exact World.size_alloc _ _
    rw [hW4] at HK ⊢
    clear hW4
    generalize w4.heap.size = M at *
    have HZ4 := hide hz4
    clear hz4
    refine (anyplate_any B b _ (unhide HK).src).mono ?_
    rintro e w5 ⟨l, a, s, rfl, hv, hs, hg⟩
    have HK5 := hide ((unhide HK).reads hs hg)
    clear hs hg HK
    go_wp2_with fail
    refine (range_any B b 1 3 _ (unhide HK5).src (by omega) (by omega) (by omega)).mono ?_
    rintro e w6 ⟨cnt, rfl, hc1, hc2, hs, hg⟩
    have HK6 := hide ((unhide HK5).reads hs hg)
    clear hs hg HK5
    go_wp2_with fail
    refine (legs_any B b _ (unhide HK6).src).mono ?_
    rintro e w7 ⟨gc, gn, gs, gd, gp, gk, rfl, hF1, hF2, hs, hg⟩
    have HK7 := hide ((unhide HK6).reads hs hg)
    clear hs hg HK6
    have m17 := (unhide HK7).cell 17
    have f17 := (unhide HK7).frz 17
    have m18 := (unhide HK7).cell 18
    have f18 := (unhide HK7).frz 18
    have m19 := (unhide HK7).cell 19
    have f19 := (unhide HK7).frz 19
    have m20 := (unhide HK7).cell 20
    have f20 := (unhide HK7).frz 20
    have m10 := (unhide HK7).cell 10
    have f10 := (unhide HK7).frz 10
    have m11 := (unhide HK7).cell 11
    have f11 := (unhide HK7).frz 11
    have m12 := (unhide HK7).cell 12
    have f12 := (unhide HK7).frz 12
    have m13 := (unhide HK7).cell 13
    have f13 := (unhide HK7).frz 13
    have m14 := (unhide HK7).cell 14
    have f14 := (unhide HK7).frz 14
    have m15 := (unhide HK7).cell 15
    have f15 := (unhide HK7).frz 15
    obtain ⟨WF, hWF, HF⟩ : ∃ WF : World, ((((((((((w7.setCell ⟨M, 17, none⟩ (.int .i64 l)).setCell ⟨M, 18, none⟩ (.int .i64 a)).setCell ⟨M, 19, none⟩ (.int .i64 s)).setCell ⟨M, 20, none⟩ (.int .i64 cnt)).setCell ⟨M, 10, none⟩ (.string gc)).setCell ⟨M, 11, none⟩ (.int .i64 gn)).setCell ⟨M, 12, none⟩ (.string gs)).setCell ⟨M, 13, none⟩ (.int .i64 gd)).setCell ⟨M, 14, none⟩ (.string gp)).setCell ⟨M, 15, none⟩ (.string gk)) = WF ∧ Hid (Mk W1 B b (M + 1) M { msg0 with kind := 4, port := prt, num := num, pl := l, pa := a, ps := s, cnt := cnt, out := ⟨gc, gn, gs, gd, gp, gk⟩ } none 0 none 0 WF) := ⟨_, rfl, (((unhide HK7).plate l a s).set (m' := { msg0 with kind := 4, port := prt, num := num, pl := l, pa := a, ps := s, cnt := cnt }) 20 (.int .i64 cnt) rfl rfl rfl).out ⟨gc, gn, gs, gd, gp, gk⟩⟩
    have HVv := hide (valid4 (unhide HPO) hn1 hn2 hv hc1 hc2 (few_lg hF1 hF2))
    have HM := hide (unhide HF).rd.mb
    have HRR := hide ((unhide HF).res (by have := unhide HZ1; omega) (unhide HLT) (unhide HR1))
    go_wp2_with (first | ((with_reducible show wpList _ _ _ _ _ WF); refine wpList_loadM (unhide HM) rfl _ rfl rfl ?_) | ((with_reducible show wpList _ _ _ _ _ WF); refine wpList_storeM (unhide HRR) { msg0 with kind := 4, port := prt, num := num, pl := l, pa := a, ps := s, cnt := cnt, out := ⟨gc, gn, gs, gd, gp, gk⟩ } none 0 none 0 rfl _ _ rfl rfl rfl rfl ?_))
    have hR := setRow_heap _ w.heap.size zeroL (msgL { msg0 with kind := 4, port := prt, num := num, pl := l, pa := a, ps := s, cnt := cnt, out := ⟨gc, gn, gs, gd, gp, gk⟩ } none 0 none 0) _ _ (unhide HRR)
    obtain ⟨q1, q2, q3, q4, q5⟩ := (unhide HF).finish (a := w) (R := w.heap.size) (msgL { msg0 with kind := 4, port := prt, num := num, pl := l, pa := a, ps := s, cnt := cnt, out := ⟨gc, gn, gs, gd, gp, gk⟩ } none 0 none 0) (by have := unhide HZ1; omega) (unhide HLT) (Nat.le_refl _) (unhide HG1)
    exact bodyPost_ret (results_cell_row rfl _ _ w.heap.size _ _ _ _ rfl hR undM' undM infoM) rfl ⟨{ msg0 with kind := 4, port := prt, num := num, pl := l, pa := a, ps := s, cnt := cnt, out := ⟨gc, gn, gs, gd, gp, gk⟩ }, none, 0, none, 0, rfl, ⟨unhide HVv, hn1, hn2, unhide HPR⟩, q1, q2, q3, q4, q5⟩
  · -- kind 5
    go_wp2_with (refine wpList_storeM_new rfl { msg0 with kind := 5, port := prt, num := num } none 0 none 0 rfl _ _ rfl rfl rfl rfl ?_)
    obtain ⟨W4, hW4⟩ : ∃ W4 : World, w4.alloc (msgO { msg0 with kind := 5, port := prt, num := num } none 0 none 0) = W4 := ⟨_, rfl⟩
    have hz4 : W4.heap.size = w4.heap.size + 1 := by rw [← hW4]; exact World.size_alloc _ _
    rw [hW4] at HK ⊢
    clear hW4
    generalize w4.heap.size = M at *
    have HZ4 := hide hz4
    clear hz4
    refine (legs_any B b _ (unhide HK).src).mono ?_
    rintro e w5 ⟨gc, gn, gs, gd, gp, gk, rfl, hF1, hF2, hs, hg⟩
    have HK5 := hide ((unhide HK).reads hs hg)
    clear hs hg HK
    have m10 := (unhide HK5).cell 10
    have f10 := (unhide HK5).frz 10
    have m11 := (unhide HK5).cell 11
    have f11 := (unhide HK5).frz 11
    have m12 := (unhide HK5).cell 12
    have f12 := (unhide HK5).frz 12
    have m13 := (unhide HK5).cell 13
    have f13 := (unhide HK5).frz 13
    have m14 := (unhide HK5).cell 14
    have f14 := (unhide HK5).frz 14
    have m15 := (unhide HK5).cell 15
    have f15 := (unhide HK5).frz 15
    obtain ⟨WF, hWF, HF⟩ : ∃ WF : World, ((((((w5.setCell ⟨M, 10, none⟩ (.string gc)).setCell ⟨M, 11, none⟩ (.int .i64 gn)).setCell ⟨M, 12, none⟩ (.string gs)).setCell ⟨M, 13, none⟩ (.int .i64 gd)).setCell ⟨M, 14, none⟩ (.string gp)).setCell ⟨M, 15, none⟩ (.string gk)) = WF ∧ Hid (Mk W1 B b (M + 1) M { msg0 with kind := 5, port := prt, num := num, out := ⟨gc, gn, gs, gd, gp, gk⟩ } none 0 none 0 WF) := ⟨_, rfl, (unhide HK5).out ⟨gc, gn, gs, gd, gp, gk⟩⟩
    have HGo := hide (few_lg hF1 hF2)
    clear HK5 hF1 hF2
    generalize hgg : (⟨gc, gn, gs, gd, gp, gk⟩ : Lg) = g at HF HGo
    clear hgg
    obtain ⟨i3, ki, kz0, kz1, kz2⟩ := info_parts info_intE
    have KI0 := hide ki
    have KZ0 := hide kz0
    have KZ1 := hide kz1
    have KZ2 := hide kz2
    clear ki kz0 kz1 kz2
    go_wp2_with fail
    refine (n_any B b 12 _ (unhide HF).src (by omega) (by omega)).mono ?_
    rintro e w6 ⟨q, rfl, hq1, hq2, hs, hg⟩
    have HK6 := hide ((unhide HF).reads hs hg)
    clear hs hg HF hWF
    obtain ⟨Q, rfl⟩ := Int.eq_ofNat_of_zero_le hq1
    have hQ : Q ≤ 11 := by omega
    clear hq1 hq2
    go_wp2_with fail
    go_loopw [6, 7] (fun v i wr => ∃ (k : Nat) (n : Int) (ls : List Int) (L' : Option Addr) (d' : Nat), k + ls.length = Q ∧ i = .int .i64 k ∧ v = .int .i64 n ∧ 0 ≤ n ∧ n ≤ 3 * (ls.length : Int) ∧ UpTo ls n ∧ Mk W1 B b (M + 1) M { msg0 with kind := 5, port := prt, num := num, out := g, lst := ls } none 0 L' d' wr) (fun _ i _ => (intOf i).toNat)
    case atStart => exact ⟨Q, 0, [], none, 0, rfl, rfl, rfl, Int.le_refl _, Int.le_refl _, ⟨rfl, rfl, fun x h => by cases h⟩, unhide HK6⟩
    case round =>
      obtain ⟨k, n, ls, L', d', hk, rfl, rfl, hn0, hn3, hup, hKr⟩ := hrel
      obtain ⟨wo, rfl⟩ : ∃ wo : World, wo = wr := ⟨_, rfl⟩
      have HKo := hide hKr
      have HU := hide hup
      have hll : ls.length ≤ 11 := by omega
      clear hKr hup HK6
      by_cases hkp : 0 < k
      · have kp : (0 : Int) < (k : Int) := by omega
        go_wp2_with fail
        refine (range_any B b 1 3 _ (unhide HKo).src (by omega) (by omega) (by omega)).mono ?_
        rintro e w7 ⟨x, rfl, hx1, hx2, hs, hg⟩
        have HK7 := hide ((unhide HKo).reads hs hg)
        have HUx := hide ((unhide HU).snoc hn0 hx1 (by omega))
        have HK8 := hide ((unhide HK7).alloc (.cells #[.int .i64 (n + x)] 3))
        have m29 : w7.cell? ⟨M, 29, none⟩ = some (.slice L' ls.length d') := (unhide HK7).cell 29
        have m29b : (w7.alloc (.cells #[.int .i64 (n + x)] 3)).cell? ⟨M, 29, none⟩ = some (.slice L' ls.length d') := (unhide HK8).cell 29
        have HO8 := hide (show (w7.alloc (.cells #[.int .i64 (n + x)] 3)).ownsRow (M + 1) 3 1 (.slice L' ls.length d') ls.length (ls.map (Value.int .i64)) from (unhide HK8).rd.nums)
        have hsz8 := (unhide HK8).rd.sz
        clear hs hg HKo HK7
        go_wp2_with (at_builtin; refine wpList_append_lies _ rfl _ _ 22 rfl (M + 1) 3 i3 (.int .i64 0) 1 8 Tryz.underlying22 (unhide KI0) (unhide KZ0) (unhide KZ1) (unhide KZ2) rfl (by decide) _ _ _ rfl (unhide HO8) ⟨w7.heap.size, 0, none⟩ 1 1 [.int .i64 (n + x)] rfl rfl (World.news_of_block (heap_alloc_new w7 _)) (by intro u hu; rw [List.mem_singleton.1 hu]; rfl) (by omega) (by unfold maxLen; omega) (by omega) hsz8 _ rfl ?_)
        intro q7 cap w9 hown9 hgrow hat hlt9
        have hM9 := (hgrow.block M (Nat.lt_of_lt_of_le (unhide HK8).rd.hM (unhide HK8).rd.sz) (own_ne (unhide HK8).rd.nums (unhide HK8).rd.mb (by decide))).trans (unhide HK8).rd.mb
        have m29c : w9.cell? ⟨M, 29, none⟩ = some (.slice L' ls.length d') := by rw [Lib.cell_of_heap hM9]; rfl
        have f29c := Lib.frozen_of_heap hM9 29
        have HK9 := hide ((unhide HK8).pushNum (x := n + x) hown9 hgrow)
        clear hM9 hown9 hgrow hat hlt9
        go_wp2
        go_roundw
        case rel => exact ⟨k - 1, n + x, ls ++ [n + x], _, _, by rw [List.length_append, List.length_singleton]; omega, by go_num, rfl, by omega, by rw [List.length_append, List.length_singleton]; omega, unhide HUx, unhide HK9⟩
        case measure => simp [intOf]; omega
      · obtain rfl : k = 0 := by omega
        have kp : ¬ (0 : Int) < ((0 : Nat) : Int) := by omega
        have HVv := hide (valid5 (unhide HPO) hn1 hn2 (unhide HGo) (unhide HU) hll)
        have HM := hide (unhide HKo).rd.mb
        have HRR := hide ((unhide HKo).res (by have := unhide HZ1; omega) (unhide HLT) (unhide HR1))
        go_wp2_with (first | ((with_reducible show wpList _ _ _ _ _ wo); refine wpList_loadM (unhide HM) rfl _ rfl rfl ?_) | ((with_reducible show wpList _ _ _ _ _ wo); refine wpList_storeM (unhide HRR) { msg0 with kind := 5, port := prt, num := num, out := g, lst := ls } none 0 L' d' rfl _ _ rfl rfl rfl rfl ?_))
        have hR := setRow_heap _ w.heap.size zeroL (msgL { msg0 with kind := 5, port := prt, num := num, out := g, lst := ls } none 0 L' d') _ _ (unhide HRR)
        obtain ⟨q1, q2, q3, q4, q5⟩ := (unhide HKo).finish (a := w) (R := w.heap.size) (msgL { msg0 with kind := 5, port := prt, num := num, out := g, lst := ls } none 0 L' d') (by have := unhide HZ1; omega) (unhide HLT) (Nat.le_refl _) (unhide HG1)
        exact bodyPost_ret (results_cell_row rfl _ _ w.heap.size _ _ _ _ rfl hR undM' undM infoM) rfl ⟨{ msg0 with kind := 5, port := prt, num := num, out := g, lst := ls }, none, 0, L', d', rfl, ⟨unhide HVv, hn1, hn2, unhide HPR⟩, q1, q2, q3, q4, q5⟩
theorem message_free (B b : Nat) (w : World) (hS : Src B b w) :
    Calls Tryz.prog 6 #[.pointer (some ⟨b, 0, none⟩), .int .i64 0] w (GivesF B b w) :=
  (message_cap B b w hS).mono fun _ _ ⟨m, A, c, L, d, e, hv, h1, h2, h3, h4, _⟩ => ⟨m, A, c, L, d, e, hv, h1, h2, h3, h4⟩
theorem message_any (B b : Nat) (w : World) (hS : Src B b w) :
    Calls Tryz.prog 6 #[.pointer (some ⟨b, 0, none⟩), .int .i64 0] w (GivesV B b w) :=
  (message_free B b w hS).mono fun _ _ ⟨m, A, c, L, d, e, hv, h1, h2, h3, h4⟩ => ⟨m, A, c, L, d, e, hv.1, h1 b hS.lt, h2 b hS.lt, h3, h4⟩
end Go.Proofs.YtglgobmmmghdoaaGreatDoor
