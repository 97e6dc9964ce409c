/-
  PlateReads: plates that are read one after another; the number of a plate among the candidates.
-/
import Derived.Test.YtaimmohfcjoclaaSrc
import Derived.Test.YtaimmohfcjoclaaCandR
import Derived.Test.YtaimmohfcjoclaaAwake
import Derived.Lib.ConvBytes
namespace Go.Proofs.Ytaimmohfcjoclaa
open Go.RowKit

/-- The cells of k plates. -/
def pc (f : Nat → Int × Int × Int) (j : Nat) : Int := if j % 3 = 0 then (f (j / 3)).1 else if j % 3 = 1 then (f (j / 3)).2.1 else (f (j / 3)).2.2
def platesL (f : Nat → Int × Int × Int) (k : Nat) : List Value := (List.range (k * 3)).map fun j => .int .i64 (pc f j)
theorem platesL_length (f : Nat → Int × Int × Int) (k : Nat) : (platesL f k).length = k * 3 := by unfold platesL; simp
theorem platesL_at (f : Nat → Int × Int × Int) (k j : Nat) (h : j < k * 3) : (platesL f k)[j]? = some (.int .i64 (pc f j)) := by unfold platesL; simp [h]
def put (f : Nat → Int × Int × Int) (k : Nat) (q : Int × Int × Int) : Nat → Int × Int × Int := fun j => if j = k then q else f j
theorem pc0 (f : Nat → Int × Int × Int) (i : Nat) : pc f (i * 3) = (f i).1 := by unfold pc; rw [if_pos (by omega), show i * 3 / 3 = i by omega]
theorem pc1 (f : Nat → Int × Int × Int) (i : Nat) : pc f (i * 3 + 1) = (f i).2.1 := by unfold pc; rw [if_neg (by omega), if_pos (by omega), show (i * 3 + 1) / 3 = i by omega]
theorem pc2 (f : Nat → Int × Int × Int) (i : Nat) : pc f (i * 3 + 2) = (f i).2.2 := by unfold pc; rw [if_neg (by omega), if_neg (by omega), show (i * 3 + 2) / 3 = i by omega]
theorem platesL_put (f : Nat → Int × Int × Int) (k : Nat) (x y z : Int) : platesL (put f k (x, y, z)) (k + 1) = platesL f k ++ [.int .i64 x, .int .i64 y, .int .i64 z] := by
  have e : (k + 1) * 3 = k * 3 + 1 + 1 + 1 := by omega
  unfold platesL
  rw [e, List.range_succ, List.range_succ, List.range_succ]
  simp only [List.map_append, List.map_cons, List.map_nil, List.append_assoc, List.cons_append, List.nil_append]
  rw [pc0, pc1, show k * 3 + 1 + 1 = k * 3 + 2 from rfl, pc2]
  have h1 : put f k (x, y, z) k = (x, y, z) := by unfold put; rw [if_pos rfl]
  rw [h1]
  congr 1
  apply List.map_congr_left
  intro j hj
  have hj' : j < k * 3 := List.mem_range.1 hj
  have h2 : put f k (x, y, z) (j / 3) = f (j / 3) := by unfold put; rw [if_neg (by omega)]
  unfold pc
  rw [h2]

/-- All of the first k plates are valid. -/
def AllValid (f : Nat → Int × Int × Int) (k : Nat) : Prop := ∀ j, j < k → vld (f j).1 (f j).2.1 (f j).2.2 = true
theorem AllValid.put {f : Nat → Int × Int × Int} {k : Nat} (h : AllValid f k) {x y z : Int} (hv : vld x y z = true) : AllValid (put f k (x, y, z)) (k + 1) := fun j hj => by
  unfold Go.Proofs.Ytaimmohfcjoclaa.put
  by_cases e : j = k
  · rw [if_pos e]; exact hv
  · rw [if_neg e]; exact h j (by omega)

theorem plates_own {w : World} {B g cap n : Nat} {f : Nat → Int × Int × Int} (h : w.ownsRow B 23 3 (.slice (some ⟨g, 0, none⟩) n cap) n (platesL f n)) : Plates w (some ⟨g, 0, none⟩) n f := fun _ => by
  refine ⟨g, 0, rfl, fun i hi => ⟨?_, ?_, ?_⟩⟩
  · rw [Nat.zero_add, World.ownsRow.cellAt h _ (by omega), platesL_at f n _ (by omega), pc0]
  · rw [Nat.zero_add, World.ownsRow.cellAt h _ (by omega), platesL_at f n _ (by omega), pc1]
  · rw [Nat.zero_add, World.ownsRow.cellAt h _ (by omega), platesL_at f n _ (by omega), pc2]

theorem owns_reads {w w' : World} {base b : Nat} {e : TypeId} {size : Nat} {v : Value} {n : Nat} {xs : List Value} (h : w.ownsRow base e size v n xs) (hg : w.grownBy w' (some b)) (hb : b < base) : w'.ownsRow base e size v n xs := by
  refine h.kept hg ?_
  cases hv : v.ownBlock with
  | none => exact .inl rfl
  | some g =>
    right
    have := (h.lt g hv).1
    simp; omega
theorem below_reads {B b : Nat} {w w1 w2 : World} (h : Below B w w1) (hg : w1.grownBy w2 (some b)) (hb : B ≤ b) (hB : B ≤ w1.heap.size) : Below B w w2 := h.grown hg hB fun k e => by
  injection e with e; omega

/-- Ten bytes that may be written. -/
def Txt10 (w : World) (b : Nat) (g : Nat → Int) : Prop := ∀ j, j < 10 → w.cell? ⟨b, j, none⟩ = some (.int .u8 (g j)) ∧ w.frozen? ⟨b, j, none⟩ = false
theorem Txt10.keep {w w1 : World} {b : Nat} {g : Nat → Int} (h : Txt10 w b g) (hb : Below w.heap.size w w1) : Txt10 w1 b g := fun j hj => by
  have hl := World.block_lt_of_cell? w _ (h j hj).1
  exact ⟨kept hb (h j hj).1, frz hb hl (h j hj).2⟩
theorem Txt10.stored {w : World} {b : Nat} {g : Nat → Int} (h : Txt10 w b g) (k : Nat) (hk : k < 10) (x : Int) : Txt10 (w.setCell ⟨b, k, none⟩ (.int .u8 x)) b (fun j => if j = k then x else g j) := fun j hj => by
  refine ⟨?_, ?_⟩
  · show _ = some (Value.int .u8 (if j = k then x else g j))
    by_cases e : j = k
    · subst e
      rw [if_pos rfl]
      exact World.cell?_setCell_same _ _ _ (h j hj).1
    · rw [if_neg e, World.cell?_setCell_other _ _ _ _ (fun e' => e (congrArg Addr.off e').symm)]
      exact (h j hj).1
  · have := (h j hj).2
    simpa [go_sem] using this
theorem bytes_below (w : World) (e : TypeId) (s : ByteArray) : Below w.heap.size w (Lib.bytesWorld w e s) := by
  refine ⟨?_, ?_, ?_, ?_, fun k hk => Lib.bytesWorld_at_old w e s k hk⟩
  all_goals first
    | (rw [Lib.bytesWorld_size]; omega)
    | simp [Lib.bytesWorld, World.freeze, World.alloc, World.drew, -World.alloc_eq, -World.drew_eq]
theorem bytes_txt (w : World) (e : TypeId) (s : ByteArray) (hs : s.size = 10) : Txt10 (Lib.bytesWorld w e s) w.heap.size (fun j => ((s.data.toList.getD j 0).toNat : Int)) := fun j hj => by
  refine ⟨Lib.bytesWorld_cell w e s j (by omega), ?_⟩
  have h := Lib.bytesWorld_at_new w e s
  have hc : 10 ≤ (Lib.bytesCells w e s).size := by
    unfold Lib.bytesCells
    rw [Array.size_append, Array.size_map]
    have : s.data.size = 10 := hs
    omega
  unfold World.frozen?
  rw [h]
  simp; omega

/-- Ten bytes as a string. -/
def strG (g : Nat → Int) : ByteArray := strOfNums ((List.range 10).map g)
theorem strG_size (g : Nat → Int) : (strG g).size = 10 := by unfold strG; rw [strOfNums_size]; simp
theorem strG_at (g : Nat → Int) (j : Nat) (hj : j < 10) : (strG g).data.toList.getD j 0 = UInt8.ofNat (g j).toNat := by
  unfold strG
  rw [strOfNums_data, List.getD_eq_getElem?_getD, List.getElem?_map, List.getElem?_map, List.getElem?_range hj]; rfl
theorem conv_txt {w : World} {b cap : Nat} {g : Nat → Int} (h : Txt10 w b g) : (convert 48 9 (.slice (some ⟨b, 0, none⟩) 10 cap)).run Try.prog w = .ok (.string (strG g)) w := by
  refine run_convert_bytes_arg (P := Try.prog) w 48 5 Try.underlying48 Try.underlying5 b 0 10 cap ((List.range 10).map g) (by simp) (fun i hi => ?_) 9 Try.underlying9
  rw [Nat.zero_add, (h i hi).1, List.getD_eq_getElem?_getD, List.getElem?_map, List.getElem?_range hi]; rfl
theorem okAt_strG (g : Nat → Int) (T : ByteArray) (j : Nat) (hj : j < 10) (hT : j < T.size) (h0 : 0 ≤ g j) (h1 : g j ≤ 255) : okAt (strG g) T j = ((g j == 63) || (g j == (T[j].toNat : Int))) := by
  unfold okAt
  rw [strG_at g j hj, byte_get T j hT, Bool.eq_iff_iff]
  simp only [Bool.or_eq_true, beq_iff_eq]
  have e : (UInt8.ofNat (g j).toNat).toNat = (g j).toNat := by simp; omega
  have h63 : UInt8.ofNat (g j).toNat = 63 ↔ g j = 63 := by
    constructor
    · intro h; rw [h] at e; have : (63 : UInt8).toNat = 63 := rfl; omega
    · intro h; rw [h]; rfl
  have hTj : UInt8.ofNat (g j).toNat = T[j] ↔ g j = (T[j].toNat : Int) := by
    constructor
    · intro h; rw [h] at e; omega
    · intro h; apply UInt8.toNat_inj.1; omega
  rw [h63, hTj]
theorem okAll_strG (g : Nat → Int) (T : ByteArray) (hT : T.size = 10) (hq : ∀ q, q < 10 → g q = 63 ∨ g q = ((T.data.toList.getD q 0).toNat : Int)) (k : Nat) : k ≤ 10 → okAll (strG g) T k = true := by
  induction k with
  | zero => intro _; rfl
  | succ k ih =>
    intro hk
    have hkT : k < T.size := by omega
    have hqk := hq k (by omega)
    rw [byte_get T k hkT] at hqk
    have hb := T[k].toNat_lt
    rw [okAll_succ, ih (by omega), okAt_strG g T k (by omega) hkT (by omega) (by omega)]
    rcases hqk with h | h
    · rw [h]; rfl
    · rw [h]; simp

/-- Whether a number is in a list. -/
def hasB (xs : List Int) (x : Int) : Bool := decide (x ∈ xs)
theorem hasB_iff {xs : List Int} {x : Int} : hasB xs x = true ↔ x ∈ xs := by unfold hasB; exact decide_eq_true_iff

theorem cand_has (p : ByteArray) (f : Nat → Int × Int × Int) (n i : Nat) (hi : i < n) : hasB (candL p f n) (i : Int) = mat p (f i).1 (f i).2.1 (f i).2.2 := by
  have lt : ∀ n x, x ∈ candL p f n → x < (n : Int) := by
    intro n
    induction n with
    | zero => intro x hx; simp [candL] at hx
    | succ n ih =>
      intro x hx
      unfold candL at hx
      split at hx
      · rcases List.mem_append.1 hx with h | h
        · have := ih x h; omega
        · have := List.mem_singleton.1 h; omega
      · have := ih x hx; omega
  induction n with
  | zero => omega
  | succ n ih =>
    unfold candL
    by_cases e : i = n
    · subst e
      have hno : hasB (candL p f i) (i : Int) = false := by
        rw [Bool.eq_false_iff]
        intro h
        have := lt i _ (hasB_iff.1 h)
        omega
      cases hm : mat p (f i).1 (f i).2.1 (f i).2.2 with
      | true => rw [if_pos rfl, hasB_iff]; simp
      | false => rw [if_neg Bool.false_ne_true, hno]
    · have h := ih (by omega)
      split
      · rw [← h, Bool.eq_iff_iff, hasB_iff, hasB_iff, List.mem_append, List.mem_singleton]
        constructor
        · rintro (h | h)
          · exact h
          · omega
        · exact .inl
      · exact h

set_option maxHeartbeats 400000 in
theorem in_any (xs : List Int) (v : Value) (B : Nat) (x : Int) (w : World) (hl : xs.length ≤ 2000) (h : w.ownsRow B 3 1 v xs.length (xs.map (Value.int .i64))) :
    Calls Try.prog 40 #[v, .int .i64 x] w fun e w' => e = .returned (.bool (hasB xs x)) ∧ w = w' := by
  obtain ⟨_, ⟨rfl, h0⟩ | ⟨g, c, cur, rfl, r⟩⟩ := id h
  · have hnil : xs = [] := List.length_eq_zero_iff.1 h0
    subst hnil
    go_enter Try.func40, Try.ntmps40
    go_wp2_with fail
    go_rounds 1
    go_ret
    exact ⟨rfl, rfl⟩
  · have H := Lib.hid h
    clear h r
    generalize hn : xs.length = n at *
    have HN := Lib.hid hn
    clear hn
    go_enter Try.func40, Try.ntmps40
    go_wp2_with fail
    go_loop [5] (fun i => ∃ k : Nat, k ≤ n ∧ i = .int .i64 k ∧ Hid (∀ j, j < k → xs.getD j 0 ≠ x)) (fun i => n - (intOf i).toNat)
    case atStart => exact ⟨0, Nat.zero_le _, rfl, Lib.hid fun j hj => absurd hj (Nat.not_lt_zero _)⟩
    case round =>
      obtain ⟨k, hk, rfl, hno⟩ := hrel
      by_cases hlt : k < n
      · have hk2 : k < xs.length := by rw [HN.out]; exact hlt
        have e1 : (xs.map (Value.int .i64))[k]? = some (.int .i64 (xs.getD k 0)) := by
          rw [List.getElem?_map, List.getElem?_eq_getElem hk2, List.getD_eq_getElem?_getD, List.getElem?_eq_getElem hk2]; rfl
        have q := (World.ownsRow.cellAt H.out k (by omega)).trans e1
        have hmem : xs.getD k 0 ∈ xs := by
          rw [List.getD_eq_getElem?_getD, List.getElem?_eq_getElem hk2]; exact List.getElem_mem _
        have HM := Lib.hid hmem
        generalize hz : xs.getD k 0 = z at *
        have HZ := Lib.hid hz
        have i1 : (k : Int) < (n : Int) := by omega
        have z0 : (0 : Int) ≤ (k : Int) := by omega
        clear e1 hz hmem
        by_cases e : z = x
        · have hb : (z == x) = true := by rw [beq_iff_eq]; exact e
          have HE := Lib.hid e
          clear e
          go_wp2
          go_ret
          exact ⟨ret_bool (by rw [Eq.comm, hasB_iff, ← HE.out]; exact HM.out), rfl⟩
        · have hb : (z == x) = false := by rw [beq_eq_false_iff_ne]; exact e
          have HE := Lib.hid e
          clear e
          go_wp2
          go_round
          case rel =>
            refine ⟨k + 1, by omega, by go_num, Lib.hid fun j hj => ?_⟩
            by_cases ej : j = k
            · rw [ej, HZ.out]; exact HE.out
            · exact hno.out j (by omega)
          case measure => simp [intOf]; omega
      · obtain rfl : k = n := by omega
        go_wp2
        go_ret
        refine ⟨ret_bool ?_, rfl⟩
        rw [Eq.comm, Bool.eq_false_iff]
        intro hm
        obtain ⟨j, hj, he⟩ := List.getElem_of_mem (hasB_iff.1 hm)
        refine hno.out j (by rw [← HN.out]; exact hj) ?_
        rw [List.getD_eq_getElem?_getD, List.getElem?_eq_getElem hj]
        exact he
end Go.Proofs.Ytaimmohfcjoclaa
