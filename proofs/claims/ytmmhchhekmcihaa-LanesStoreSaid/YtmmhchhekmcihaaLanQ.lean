/-
  Lanes (layer 17): stores in memory; what the laws want of the program's New, Put, Take.
-/
import Derived.Test.YtmmhchhekmcihaaLanP
import Derived.Test.YtmmhchhekmcihaaLanN
namespace Go.Proofs.Ytmmhchhekmcihaa
open Go.RowKit

/-- A store by value. -/
abbrev lnsV (dp : Int) (A : Option Addr) (n c : Nat) : Value := .agg #[.int .i64 dp, .slice A n c]
abbrev lnsO (dp : Int) (A : Option Addr) (n c : Nat) : Obj := .cells #[.int .i64 dp, .slice A n c] 42
theorem infoLn : (Try.prog.info? 42).map (·.size) = some 2 := by kernel_rfl
/-- Bags in a row, of whose block S says nothing. -/
def BgsIn (S : Nat → Prop) (w : World) (A : Option Addr) (l : List Bg) : Prop :=
  0 < l.length → ∃ g off, A = some ⟨g, off, none⟩ ∧ ¬ S g ∧ ∀ i, i < l.length → w.cell? ⟨g, off + 2 * i, none⟩ = some (.int .i64 (l.getD i (0, 0)).1) ∧ w.cell? ⟨g, off + (2 * i + 1), none⟩ = some (.int .i64 (l.getD i (0, 0)).2)
/-- Lanes in a row of rows. -/
def LnsIn (S : Nat → Prop) (w : World) (A : Option Addr) (L : List (List Bg)) : Prop :=
  0 < L.length → ∃ g off, A = some ⟨g, off, none⟩ ∧ ¬ S g ∧ ∀ i, i < L.length → ∃ A' c', w.cell? ⟨g, off + i, none⟩ = some (.slice A' (L.getD i []).length c') ∧ (L.getD i []).length ≤ c' ∧ BgsIn S w A' (L.getD i [])
/-- Blocks of which S says nothing stand as they stood. -/
def KepS (S : Nat → Prop) (w w' : World) : Prop := ∀ (a : Addr) (v : Value), ¬ S a.block → w.cell? a = some v → w'.cell? a = some v
theorem KepS.refl (S : Nat → Prop) (w : World) : KepS S w w := fun _ _ _ h => h
theorem KepS.trans {S : Nat → Prop} {w w1 w2 : World} (h : KepS S w w1) (k : KepS S w1 w2) : KepS S w w2 := fun a v hs hc => k a v hs (h a v hs hc)
theorem KepS.below {S : Nat → Prop} {w w' : World} (h : Below w.heap.size w w') : KepS S w w' := fun _ _ _ hc => kept h hc
theorem KepS.setRow {S : Nat → Prop} (w : World) {g : Nat} (r : Array Value) (h : S g) : KepS S w (w.setRow g r) := fun a v hs hc => by
  have : a.block ≠ g := fun e => hs (e ▸ h)
  have hb : (w.setRow g r).heap[a.block]? = w.heap[a.block]? := setRow_other _ _ _ _ this
  unfold World.cell? at hc ⊢
  rw [hb]; exact hc
theorem KepS.grown {S : Nat → Prop} {w w' : World} {g : Nat} (h : w.grownBy w' (some g)) (hs : S g) : KepS S w w' := fun a v hn hc => h.cell hc (by simpa using fun e : a.block = g => hn (e ▸ hs))
theorem BgsIn.keep {S : Nat → Prop} {w w' : World} {A : Option Addr} {l : List Bg} (h : BgsIn S w A l) (k : KepS S w w') : BgsIn S w' A l := fun hn => by
  obtain ⟨g, off, e, hs, hc⟩ := h hn
  exact ⟨g, off, e, hs, fun i hi => ⟨k _ _ hs (hc i hi).1, k _ _ hs (hc i hi).2⟩⟩
theorem LnsIn.keep {S : Nat → Prop} {w w' : World} {A : Option Addr} {L : List (List Bg)} (h : LnsIn S w A L) (k : KepS S w w') : LnsIn S w' A L := fun hn => by
  obtain ⟨g, off, e, hs, hc⟩ := h hn
  refine ⟨g, off, e, hs, fun i hi => ?_⟩
  obtain ⟨A', c', h1, h2, h3⟩ := hc i hi
  exact ⟨A', c', k _ _ hs h1, h2, h3.keep k⟩
/-- What a store by value keeps. -/
structure StoI (S : Nat → Prop) (w : World) (A : Option Addr) (L : List (List Bg)) (c : Nat) : Prop where
  row : LnsIn S w A L
  cap : L.length ≤ c
theorem StoI.keep {S : Nat → Prop} {w w' : World} {A : Option Addr} {L : List (List Bg)} {c : Nat} (h : StoI S w A L c) (k : KepS S w w') : StoI S w' A L c := ⟨h.row.keep k, h.cap⟩
theorem StoI.below {S : Nat → Prop} {w w' : World} {A : Option Addr} {L : List (List Bg)} {c : Nat} (h : StoI S w A L c) (k : Below w.heap.size w w') : StoI S w' A L c := h.keep (.below k)
/-- A store that this package may have made. -/
structure ValL (dp : Nat) (L : List (List Bg)) : Prop where
  d : 1 ≤ dp ∧ dp ≤ 20
  n : 1 ≤ L.length ∧ L.length ≤ 20
  len : ∀ l ∈ L, l.length ≤ dp
  bag : ∀ l ∈ L, ∀ s ∈ l, (1 ≤ s.1 ∧ s.1 ≤ 40) ∧ 0 ≤ s.2 ∧ s.2 ≤ 1048576
  one : (L.flatten.map (·.1)).Nodup
/-- S says nothing of blocks that come later. -/
def Old (S : Nat → Prop) (w : World) : Prop := ∀ b, S b → b < w.heap.size
structure StoOk : Prop where
  new : ∀ (n d : Int) (w : World), Calls Try.prog 23 #[.int .i64 n, .int .i64 d] w fun e w' => Below w.heap.size w w' ∧
    ((¬ (1 ≤ n ∧ n ≤ 20 ∧ 1 ≤ d ∧ d ≤ 20) ∧ e = .returned (.tuple #[lnsV 0 none 0 0, .int .i64 1])) ∨ ((1 ≤ n ∧ n ≤ 20 ∧ 1 ≤ d ∧ d ≤ 20) ∧ ∃ A c, e = .returned (.tuple #[lnsV d A n.toNat c, .int .i64 0]) ∧ ∀ S, Old S w → StoI S w' A (List.replicate n.toNat []) c))
  put : ∀ (dp : Nat) (L : List (List Bg)) (s : Bg) (A : Option Addr) (c : Nat) (S : Nat → Prop) (w : World), ValL dp L → StoI S w A L c → Old S w → (Lit.int .i64 s.1).wf = true → (Lit.int .i64 s.2).wf = true →
    Calls Try.prog 30 #[lnsV dp A L.length c, .agg #[.int .i64 s.1, .int .i64 s.2]] w fun e w' => Below w.heap.size w w' ∧
      (((putS dp L s).2.2 ≠ 0 ∧ e = .returned (.tuple #[lnsV 0 none 0 0, .int .i64 0, .int .i64 (putS dp L s).2.2])) ∨ ((putS dp L s).2.2 = 0 ∧ ∃ A' c', e = .returned (.tuple #[lnsV dp A' L.length c', .int .i64 ((putS dp L s).2.1 : Nat), .int .i64 0]) ∧ StoI S w' A' (putS dp L s).1 c'))
  take : ∀ (dp : Nat) (L : List (List Bg)) (bag : Int) (A : Option Addr) (c : Nat) (S : Nat → Prop) (w : World), ValL dp L → StoI S w A L c → Old S w → (Lit.int .i64 bag).wf = true →
    Calls Try.prog 28 #[lnsV dp A L.length c, .int .i64 bag] w fun e w' => Below w.heap.size w w' ∧
      (((takeS L bag).2.2 ≠ 0 ∧ e = .returned (.tuple #[lnsV 0 none 0 0, .slice none 0 0, .int .i64 (takeS L bag).2.2])) ∨ ((takeS L bag).2.2 = 0 ∧ ∃ A' c' B d, e = .returned (.tuple #[lnsV dp A' L.length c', .slice B (takeS L bag).2.1.length d, .int .i64 0]) ∧ (takeS L bag).2.1.length ≤ d ∧ StoI S w' A' (takeS L bag).1 c' ∧ ∀ b, S b → NumsIn b w' B (takeS L bag).2.1))
/-! Stores that were filled like Assign are valid. -/
theorem bgs_mem {due : List Int} {m : Nat} {p : Nat → Bool} {k : Nat} {s : Bg} (h : s ∈ bgs due (laneP due m p k)) : ∃ j, j < m ∧ (asgF due).getD j 0 = k ∧ s = (1 + (j : Int), due.getD j 0) := by
  rw [bgs, List.mem_map] at h
  obtain ⟨j, hj, rfl⟩ := h
  rw [laneP, List.mem_filter, List.mem_range] at hj
  have h2 := hj.2
  simp only [Bool.and_eq_true, beq_iff_eq] at h2
  exact ⟨j, hj.1, h2.2, rfl⟩
theorem lane_nodup (due : List Int) (m : Nat) (p : Nat → Bool) (k : Nat) : ((bgs due (laneP due m p k)).map (·.1)).Nodup := by
  rw [bgs, List.map_map]
  refine List.Pairwise.map _ (fun a b (h : a ≠ b) => ?_) ((List.nodup_range (n := m)).filter _)
  show ¬ (1 + (a : Int) = 1 + (b : Int))
  omega
theorem st_nodup (due : List Int) (m : Nat) (p : Nat → Bool) : ∀ n, ((stP due n m p).flatten.map (·.1)).Nodup
  | 0 => List.nodup_nil
  | n + 1 => by
    rw [stP, List.range_succ, List.map_append, List.flatten_append, List.map_append]
    refine List.nodup_append.mpr ⟨st_nodup due m p n, ?_, fun a ha b hb e => ?_⟩
    · simpa using lane_nodup due m p n
    · subst e
      rw [List.mem_map] at ha hb
      obtain ⟨s, hs, rfl⟩ := ha
      obtain ⟨t, ht, hte⟩ := hb
      obtain ⟨l, hl, hs⟩ := List.mem_flatten.1 hs
      obtain ⟨k, hk, rfl⟩ := List.mem_map.1 hl
      have ht : t ∈ bgs due (laneP due m p n) := by simpa using ht
      obtain ⟨i, _, hi, rfl⟩ := bgs_mem hs
      obtain ⟨j, _, hj, rfl⟩ := bgs_mem ht
      have hk := List.mem_range.1 hk
      have : (1 : Int) + (j : Int) = 1 + (i : Int) := hte
      obtain rfl : i = j := by omega
      omega
theorem st_valid {due : List Int} {n m dp : Nat} {p : Nat → Bool} (hn : 1 ≤ n ∧ n ≤ 20) (hd : 1 ≤ dp ∧ dp ≤ 20) (hm : m ≤ dp) (hl : m ≤ due.length) (ht : ∀ x ∈ due, 0 ≤ x ∧ x ≤ 1048576) : ValL dp (stP due n m p) := by
  refine ⟨hd, by rw [stP_len]; exact hn, fun l hl => ?_, fun l hl s hs => ?_, st_nodup due m p n⟩
  · obtain ⟨k, _, rfl⟩ := List.mem_map.1 hl
    exact Nat.le_trans (lane_short ..) hm
  · obtain ⟨k, _, rfl⟩ := List.mem_map.1 hl
    obtain ⟨j, hj, _, rfl⟩ := bgs_mem hs
    have hx : due.getD j 0 ∈ due := by rw [List.getD_eq_getElem?_getD, List.getElem?_eq_getElem (by omega)]; exact List.getElem_mem (by omega)
    exact ⟨⟨by show (1 : Int) ≤ 1 + (j : Int); omega, by show 1 + (j : Int) ≤ 40; omega⟩, ht _ hx⟩
/-- Nothing put yet: n empty lanes. -/
theorem st_empty (due : List Int) (n : Nat) : stP due n 0 allP = List.replicate n [] := by
  refine ext_getD (d := []) (by rw [stP_len, List.length_replicate]) fun k hk => ?_
  rw [stP_len] at hk
  rw [stP_at hk, List.getD_eq_getElem?_getD, List.getElem?_replicate, if_pos hk]; rfl
section
variable {ops : Array Oper} {rest : List Oper} {o : Oper} {a : Act} {W : World} {Q : Exit → Act → World → Prop}
theorem wpList_loadLn {dp : Int} {A : Option Addr} {n c g : Nat} (hg : W.heap[g]? = some (lnsO dp A n c)) (hgd : o.guard = none) (x : Operand) (ho : o.op = .load 42 x) (hx : a.eval x = .pointer (some ⟨g, 0, none⟩))
    (h : wpList Try.prog ops Q rest (a.put o.dst (lnsV dp A n c)) W) : wpList Try.prog ops Q (o :: rest) a W :=
  wpList_load_row hgd _ x ho g hx 42 #[.int .i64 dp, .slice A n c] (0, 0) _ hg Try.underlying42 rfl infoLn h
theorem wpList_storeLn {dp dp' : Int} {A A' : Option Addr} {n c n' c' g : Nat} (hg : W.heap[g]? = some (lnsO dp' A' n' c')) (hgd : o.guard = none) (x y : Operand) (ho : o.op = .store 42 x y)
    (hx : a.eval x = .pointer (some ⟨g, 0, none⟩)) (hy : a.eval y = lnsV dp A n c) (h : wpList Try.prog ops Q rest (a.put o.dst undef) (W.setRow g #[.int .i64 dp, .slice A n c])) : wpList Try.prog ops Q (o :: rest) a W :=
  wpList_store_row hgd _ x y ho g #[.int .i64 dp, .slice A n c] hx hy 42 _ hg infoLn rfl (by simp [Value.oneCell']) h
end
end Go.Proofs.Ytmmhchhekmcihaa
