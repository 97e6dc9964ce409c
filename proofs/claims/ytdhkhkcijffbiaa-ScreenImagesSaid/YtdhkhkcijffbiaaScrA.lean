/-
  Screening (layer 15): checks in memory; contracts of the document's own New, Find, deadline, fail.
-/
import Derived.Test.YtdhkhkcijffbiaaScrM
import Derived.Test.YtdhkhkcijffbiaaRowK
import Derived.Test.YtdhkhkcijffbiaaLibA
namespace Go.Proofs.Ytdhkhkcijffbiaa
open Go.RowKit

def Ck.cs (x : Ck) : List Value := [.int .i64 x.bag, .int .i64 x.lv, .int .i64 x.si, .int .i64 x.im, .int .i64 x.st]
abbrev Ck.arr (x : Ck) : Array Value := #[.int .i64 x.bag, .int .i64 x.lv, .int .i64 x.si, .int .i64 x.im, .int .i64 x.st]
abbrev ckZ : Array Value := #[.int .i64 0, .int .i64 0, .int .i64 0, .int .i64 0, .int .i64 0]
abbrev Ck.v (x : Ck) : Value := .agg x.arr
theorem Ck.cs_len (x : Ck) : x.cs.length = 5 := rfl
theorem Ck.arr_cs (x : Ck) (j : Nat) : x.arr[j]? = x.cs[j]? := by rw [← Array.getElem?_toList]; rfl
abbrev CksIn (b : Nat) (w : World) (A : Option Addr) (l : List Ck) : Prop := RowIn Ck.cs b w A l
theorem ck_at {b : Nat} {w : World} {A : Option Addr} {l : List Ck} (h : CksIn b w A l) {i : Nat} (hi : i < l.length) :
    ∃ g off, A = some ⟨g, off, none⟩ ∧ g ≠ b ∧ (∀ j u, (l.getD i ck0).arr[j]? = some u → w.cell? ⟨g, off + i * 5 + j, none⟩ = some u) := by
  obtain ⟨g, off, hA, hg, hc⟩ := RowIn.at (n := 5) Ck.cs_len h hi ck0
  exact ⟨g, off, hA, hg, fun j u hu => hc j u (by rw [← Ck.arr_cs]; exact hu)⟩
abbrev scrA (s : Scr) (A : Option Addr) (c : Nat) : Array Value := #[.int .i64 s.l0, .int .i64 s.l1, .int .i64 s.l2, .int .i64 s.l3, .int .i64 s.next, .slice A s.l.length c]
abbrev scrV (s : Scr) (A : Option Addr) (c : Nat) : Value := .agg (scrA s A c)
abbrev scrO (s : Scr) (A : Option Addr) (c : Nat) : Obj := .cells (scrA s A c) 28

set_option maxRecDepth 100000 in
theorem deadline_any (s : Scr) (x : Ck) (A : Option Addr) (c : Nat) (w : World) (hv : ValS s) (hx : okC s.next x) :
    Calls Try.prog 39 #[scrV s A c, x.v] w fun e w' => e = .returned (.int .i64 (dlF s x)) ∧ Below w.heap.size w w' := by
  obtain ⟨-, ⟨h1, h4⟩, ⟨i0, i1⟩, -, -⟩ := hx
  obtain ⟨⟨a0, a1⟩, ⟨b0, b1⟩, ⟨c0, c1⟩, ⟨d0, d1⟩⟩ := hv.lim
  have HB := hide (below_new (below_new (Below.refl w.heap.size w) (scrO s A c)) (.cells x.arr 42))
  have hc : x.lv = 1 ∨ x.lv = 2 ∨ x.lv = 3 ∨ x.lv = 4 := by omega
  clear hv
  obtain ⟨bag, lv, si, im, st⟩ := x
  obtain ⟨l0, l1, l2, l3, nx, l⟩ := s
  simp only [] at *
  rcases hc with rfl | rfl | rfl | rfl
  all_goals
    go_enter Try.func39, Try.ntmps39
    go_wp2_with fail
    go_quiet (fail)
    go_wp2
    go_ret
    exact ⟨rfl, draws (unhide HB) _⟩
set_option maxRecDepth 100000 in
theorem rfail_any (x : Ck) (n now : Int) (w : World) (hx : okC n x) (hn : n ≤ 1048617) :
    Calls Try.prog 40 #[x.v, .int .i64 n, .int .i64 now] w fun e w' => e = .returned (.tuple #[(failF x n now).1.v, .int .i64 (failF x n now).2]) ∧ Below w.heap.size w w' := by
  obtain ⟨-, ⟨k1, k4⟩, ⟨i0, i1⟩, ⟨m0, m1⟩, -⟩ := hx
  obtain ⟨bag, lv, si, im, st⟩ := x
  simp only [] at *
  by_cases h4 : lv = 4
  · subst h4
    go_enter Try.func40, Try.ntmps40
    go_wp2
    refine bodyPost_ret (v := .tuple #[.agg #[.int .i64 bag, .int .i64 4, .int .i64 si, .int .i64 im, .int .i64 3], .int .i64 n]) (by simp [results, Try.results40, go_sem]) rfl ⟨rfl, ?_⟩
    exact below_new (below_new (Below.refl _ _) _) _
  · have hl : (lv == 4) = false := by rw [beq_eq_false_iff_ne]; exact h4
    go_enter Try.func40, Try.ntmps40
    go_wp2
    refine bodyPost_ret (v := .tuple #[.agg #[.int .i64 bag, .int .i64 (lv + 1), .int .i64 now, .int .i64 n, .int .i64 st], .int .i64 (n + 1)]) (by simp [results, Try.results40, go_sem]) rfl ⟨?_, ?_⟩
    · rw [show failF ⟨bag, lv, si, im, st⟩ n now = (⟨bag, lv + 1, now, n, st⟩, n + 1) by unfold failF; rw [if_neg h4]]
    · exact below_new (below_new (Below.refl _ _) _) _
theorem find_hit {bag : Int} : ∀ {l : List Ck} {k : Nat}, k < l.length → (∀ j, j < k → (l.getD j ck0).bag ≠ bag) → (l.getD k ck0).bag = bag → l.find? (fun x => decide (x.bag = bag)) = some (l.getD k ck0)
  | x :: l, 0, _, _, h => by
    have h' : x.bag = bag := h
    rw [List.find?_cons_of_pos (by simpa using h')]; rfl
  | x :: l, k + 1, hk, hj, h => by
    have h0 : x.bag ≠ bag := hj 0 (Nat.succ_pos _)
    rw [List.find?_cons_of_neg (by simpa using h0)]
    exact find_hit (l := l) (k := k) (by simpa using hk) (fun j hjk => hj (j + 1) (by omega)) h
theorem find_miss {bag : Int} {l : List Ck} (h : ∀ j, j < l.length → (l.getD j ck0).bag ≠ bag) : l.find? (fun x => decide (x.bag = bag)) = none := by
  rw [List.find?_eq_none]
  intro x hx
  obtain ⟨k, hk, rfl⟩ := mem_getD hx
  simpa using h k hk
theorem infoC : (Try.prog.info? 42).map (·.size) = some 5 := by kernel_rfl

set_option maxRecDepth 100000 in
theorem rfind_any (b : Nat) (s : Scr) (bag : Int) (A : Option Addr) (c : Nat) (w : World) (hz : s.l.length ≤ 1000000) (h : CksIn b w A s.l) :
    Calls Try.prog 22 #[scrV s A c, .int .i64 bag] w fun e w' => e = .returned (.tuple #[(findX s bag).v, .bool (findB s bag)]) ∧ Below w.heap.size w w' := by
  have HB := hide (below_new (below_new (Below.refl w.heap.size w) (scrO s A c)) (.cells ckZ 42))
  have H1 := hide (h.keep (unhide HB))
  clear h
  go_enter Try.func22, Try.ntmps22
  go_wp2
  go_loop [6] (fun i => ∃ k : Nat, k ≤ s.l.length ∧ i = .int .i64 k ∧ Hid (∀ j, j < k → (s.l.getD j ck0).bag ≠ bag)) (fun i => s.l.length - (intOf i).toNat)
  case atStart => exact ⟨0, Nat.zero_le _, rfl, Lib.hid fun j hj => absurd hj (Nat.not_lt_zero _)⟩
  case round =>
    obtain ⟨k, hk, rfl, HJ⟩ := hrel
    by_cases hlt : k < s.l.length
    · obtain ⟨g, off, rfl, _, hc⟩ := ck_at (unhide H1) hlt
      have kl : (k : Int) < (s.l.length : Int) := by omega
      have k0 : (0 : Int) ≤ (k : Int) := by omega
      have HF := hide (fun he => find_hit (bag := bag) (l := s.l) hlt (unhide HJ) he)
      have HN := hide (show (s.l.getD k ck0).bag ≠ bag → ∀ j, j < k + 1 → (s.l.getD j ck0).bag ≠ bag from fun hn j hj => by
        by_cases e : j = k
        · rw [e]; exact hn
        · exact (unhide HJ) j (by omega))
      generalize hx : s.l.getD k ck0 = x at hc HF HN
      have HX := hide hx
      have c0 := hc 0 _ rfl
      rw [Nat.add_zero] at c0
      have HC := hide hc
      clear hc hx
      by_cases he : x.bag = bag
      · have HE := hide he
        have hq : (x.bag == bag) = true := by rw [beq_iff_eq]; exact he
        clear he
        go_wp2_with (refine wpList_load_at rfl _ _ rfl g (off + k * 5) rfl x.arr _ (unhide HC) Try.underlying42 rfl infoC ?_)
        refine bodyPost_ret (v := .tuple #[x.v, .bool true]) (by simp [results, Try.results22, go_sem]) rfl ⟨?_, below_new (below_new (Below.refl _ _) _) _⟩
        have hf := (unhide HF) (unhide HE)
        rw [show findX s bag = x by unfold findX findO; rw [hf]; rfl, show findB s bag = true by unfold findB findO; rw [hf]; rfl]
      · have HE := hide ((unhide HN) he)
        have hq : (x.bag == bag) = false := by rw [beq_eq_false_iff_ne]; exact he
        clear he
        go_wp2
        go_round
        case rel => exact ⟨k + 1, by omega, by go_num, Lib.hid (unhide HE)⟩
        case measure => simp [intOf]; omega
    · have kl : ¬ (k : Int) < (s.l.length : Int) := by omega
      have HM := hide (find_miss (bag := bag) (l := s.l) (fun j hj => (unhide HJ) j (by omega)))
      go_wp2
      refine bodyPost_ret (v := .tuple #[ck0.v, .bool false]) (by simp [results, Try.results22, go_sem, ck0]) rfl ⟨?_, below_new (below_new (Below.refl _ _) _) _⟩
      have hf := unhide HM
      rw [show findX s bag = ck0 by unfold findX findO; rw [hf]; rfl, show findB s bag = false by unfold findB findO; rw [hf]; rfl]

theorem new_lims (a b c d : Int) : newE a b c d = 0 ↔ limB a = true ∧ limB b = true ∧ limB c = true ∧ limB d = true := by
  unfold newE
  rw [← Bool.and_eq_true, ← Bool.and_eq_true, ← Bool.and_eq_true]
  constructor
  · intro h
    split at h
    · assumption
    · omega
  · intro h; rw [if_pos h]
def four (a b c d : Int) (k : Nat) : Int := if k = 0 then a else if k = 1 then b else if k = 2 then c else d
theorem four_all {a b c d : Int} (h : ∀ k, k < 4 → limB (four a b c d k) = true) : newE a b c d = 0 := (new_lims a b c d).2 ⟨h 0 (by omega), h 1 (by omega), h 2 (by omega), h 3 (by omega)⟩
theorem four_no {a b c d : Int} {k : Nat} (hk : k < 4) (h : limB (four a b c d k) = false) : newE a b c d = 1 := by
  have hn : newE a b c d ≠ 0 := fun e => by
    obtain ⟨h0, h1, h2, h3⟩ := (new_lims a b c d).1 e
    match k, hk with
    | 0, _ => exact absurd (h0.symm.trans h) (by decide)
    | 1, _ => exact absurd (h1.symm.trans h) (by decide)
    | 2, _ => exact absurd (h2.symm.trans h) (by decide)
    | 3, _ => exact absurd (h3.symm.trans h) (by decide)
  unfold newE at hn ⊢
  split
  · rename_i h2; rw [if_pos h2] at hn; exact absurd rfl hn
  · rfl
set_option maxRecDepth 100000 in
set_option maxHeartbeats 1000000 in
theorem rnew_any (a b c d : Int) (w : World) :
    Calls Try.prog 9 #[.agg #[.int .i64 a, .int .i64 b, .int .i64 c, .int .i64 d]] w fun e w' => e = .returned (.tuple #[scrV (newS a b c d) none 0, .int .i64 (newE a b c d)]) ∧ Below w.heap.size w w' := by
  go_enter Try.func9, Try.ntmps9
  go_wp2
  go_loop [4] (fun i => ∃ k : Nat, k ≤ 4 ∧ i = .int .i64 k ∧ Hid (∀ j, j < k → limB (four a b c d j) = true)) (fun i => 4 - (intOf i).toNat)
  case atStart => exact ⟨0, by omega, rfl, Lib.hid fun j hj => absurd hj (Nat.not_lt_zero _)⟩
  case round =>
    obtain ⟨k, hk, rfl, HJ⟩ := hrel
    by_cases hlt : k < 4
    · have HN := hide (fun h : limB (four a b c d k) = false => four_no hlt h)
      have HY := hide (show limB (four a b c d k) = true → ∀ j, j < k + 1 → limB (four a b c d j) = true from fun h j hj => by
        by_cases e : j = k
        · rw [e]; exact h
        · exact (unhide HJ) j (by omega))
      have hx : limB (four a b c d k) = decide (0 ≤ four a b c d k ∧ four a b c d k ≤ 1000) := rfl
      have HX := hide hx
      clear hx
      match k, hlt with
      | 0, _ | 1, _ | 2, _ | 3, _ =>
        go_wp2
        all_goals first
          | (refine bodyPost_ret (v := .tuple #[scrV scr0 none 0, .int .i64 1]) (by simp [results, Try.results9, go_sem, scr0]) rfl ⟨?_, below_new (below_new (Below.refl _ _) _) _⟩
             have hn := unhide HN ((unhide HX).trans (decide_eq_false (fun h => by have h1 := h.1; have h2 := h.2; simp [four] at h1 h2; omega)))
             rw [hn, show newS a b c d = scr0 by unfold newS; rw [hn]; rfl])
          | (go_round
             case rel =>
               have hy := unhide HY ((unhide HX).trans (decide_eq_true (by constructor <;> simp [four] <;> omega)))
               refine ⟨_, ?_, ?_, Lib.hid hy⟩
               · omega
               · rfl
             case measure => simp [intOf] <;> omega)
    · obtain rfl : k = 4 := by omega
      have HE := hide (four_all (unhide HJ))
      go_wp2
      refine bodyPost_ret (v := .tuple #[scrV ⟨a, b, c, d, 1, []⟩ none 0, .int .i64 0]) (by simp [results, Try.results9, go_sem]) rfl ⟨?_, below_new (below_new (Below.refl _ _) _) _⟩
      rw [unhide HE, show newS a b c d = ⟨a, b, c, d, 1, []⟩ by unfold newS; rw [unhide HE]; rfl]
end Go.Proofs.Ytdhkhkcijffbiaa
