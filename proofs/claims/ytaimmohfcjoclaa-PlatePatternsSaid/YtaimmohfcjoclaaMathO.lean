/-
  Plain mathematics: plates are ordered as their texts.
-/
import Derived.Test.YtaimmohfcjoclaaMath
namespace Go.Proofs.Ytaimmohfcjoclaa

theorem less_snoc : ∀ (x y : List UInt8) (c d : UInt8), x.length = y.length → Op.bytesLess (x ++ [c]) (y ++ [d]) = (Op.bytesLess x y || (x == y && decide (c < d)))
  | [], [], c, d, _ => by simp [Op.bytesLess]
  | [], _ :: _, _, _, h => by simp at h
  | _ :: _, [], _, _, h => by simp at h
  | a :: x, b :: y, c, d, h => by
    have ih := less_snoc x y c d (by simpa using h)
    rw [List.cons_append, List.cons_append, Op.bytesLess, Op.bytesLess, ih]
    rw [List.cons_beq_cons]
    cases decide (a < b) <;> cases (a == b) <;> simp

def blist (n : Int) (k : Nat) : List UInt8 := (dgs n k).map fun x => UInt8.ofNat x.toNat
theorem blist_length (n : Int) (k : Nat) : (blist n k).length = k := by unfold blist; rw [List.length_map, dgs_length]
theorem blist_succ (n : Int) (k : Nat) : blist n (k + 1) = blist (n / 10) k ++ [UInt8.ofNat (48 + n % 10).toNat] := by unfold blist; rw [dgs, List.map_append]; rfl
theorem u8_lt (a b : Int) (ha : 0 ≤ a) (ha' : a ≤ 9) (hb : 0 ≤ b) (hb' : b ≤ 9) : (UInt8.ofNat (48 + a).toNat < UInt8.ofNat (48 + b).toNat) ↔ a < b := by
  rw [UInt8.lt_iff_toNat_lt]; simp; omega
theorem u8_eq (a b : Int) (ha : 0 ≤ a) (ha' : a ≤ 9) (hb : 0 ≤ b) (hb' : b ≤ 9) : (UInt8.ofNat (48 + a).toNat = UInt8.ofNat (48 + b).toNat) ↔ a = b := by
  constructor
  · intro h
    have := congrArg UInt8.toNat h
    simp at this; omega
  · intro h; rw [h]

theorem blist_cmp (k : Nat) : ∀ n m : Int, 0 ≤ n → n < ((10 ^ k : Nat) : Int) → 0 ≤ m → m < ((10 ^ k : Nat) : Int) →
    Op.bytesLess (blist n k) (blist m k) = decide (n < m) ∧ (blist n k == blist m k) = decide (n = m) := by
  induction k with
  | zero =>
    intro n m h1 h2 h3 h4
    simp at h2 h4
    have e1 : n = 0 := by omega
    have e2 : m = 0 := by omega
    subst e1 e2
    exact ⟨rfl, rfl⟩
  | succ k ih =>
    intro n m h1 h2 h3 h4
    rw [Nat.pow_succ] at h2 h4
    obtain ⟨i1, i2⟩ := ih (n / 10) (m / 10) (by omega) (by omega) (by omega) (by omega)
    have u1 := u8_lt (n % 10) (m % 10) (by omega) (by omega) (by omega) (by omega)
    have u2 := u8_eq (n % 10) (m % 10) (by omega) (by omega) (by omega) (by omega)
    rw [blist_succ, blist_succ]
    refine ⟨?_, ?_⟩
    · rw [less_snoc _ _ _ _ (by rw [blist_length, blist_length]), i1, i2, Bool.eq_iff_iff]
      simp only [Bool.or_eq_true, Bool.and_eq_true, decide_eq_true_eq, u1]
      omega
    · rw [Bool.eq_iff_iff, beq_iff_eq, decide_eq_true_eq]
      rw [Bool.eq_iff_iff, beq_iff_eq, decide_eq_true_eq] at i2
      constructor
      · intro h
        have h' := List.append_inj h (by rw [blist_length, blist_length])
        have e1 := i2.1 h'.1
        have e2 := u2.1 (List.singleton_inj.1 h'.2)
        omega
      · intro h; rw [h]

theorem sgn_bd (a b : Int) : -1 ≤ sgn a b ∧ sgn a b ≤ 1 := by unfold sgn; split <;> (try split) <;> omega
theorem cmp3_bd (l a s l' a' s' : Int) : -1 ≤ cmp3 l a s l' a' s' ∧ cmp3 l a s l' a' s' ≤ 1 := by
  have h1 := sgn_bd l l'
  have h2 := sgn_bd a a'
  have h3 := sgn_bd s s'
  unfold cmp3; split <;> (try split) <;> omega
theorem sgn_neg (a b : Int) : sgn b a = - sgn a b := by unfold sgn; repeat' split
                                                        all_goals omega
theorem cmp3_neg (l a s l' a' s' : Int) : cmp3 l' a' s' l a s = - cmp3 l a s l' a' s' := by
  unfold cmp3
  rw [sgn_neg l l', sgn_neg a a', sgn_neg s s']
  repeat' split
  all_goals omega
theorem cmp3_self (l a s : Int) : cmp3 l a s l a s = 0 := by unfold cmp3 sgn; simp

theorem cmp3_num {l a s l' a' s' : Int} (h : vld l a s = true) (h' : vld l' a' s' = true) :
    (cmp3 l a s l' a' s' < 0 ↔ num l a s < num l' a' s') ∧ (cmp3 l a s l' a' s' = 0 ↔ num l a s = num l' a' s') := by
  obtain ⟨h1, h2, h3, h4, h5, h6⟩ := vld_iff.1 h
  obtain ⟨k1, k2, k3, k4, k5, k6⟩ := vld_iff.1 h'
  unfold cmp3 sgn num
  refine ⟨?_, ?_⟩
  all_goals
    repeat' split
    all_goals omega

theorem txt_blist {l a s : Int} (h : vld l a s = true) : (txt l a s).toList = blist (num l a s) 10 := by
  rw [ByteArray.toList_eq, txt_yes h, strOfNums_data]; rfl
/-- Valid plates are ordered as their texts. -/
theorem txt_less {l a s l' a' s' : Int} (h : vld l a s = true) (h' : vld l' a' s' = true) :
    Op.bytesLess (txt l a s).toList (txt l' a' s').toList = decide (cmp3 l a s l' a' s' < 0) ∧ ((txt l a s).toList == (txt l' a' s').toList) = (cmp3 l a s l' a' s' == 0) := by
  obtain ⟨e1, e2⟩ := cmp3_num h h'
  obtain ⟨b1, b2⟩ := blist_cmp 10 _ _ (num_lt h).1 (num_lt h).2 (num_lt h').1 (num_lt h').2
  rw [txt_blist h, txt_blist h', b1, b2]
  refine ⟨?_, ?_⟩
  · rw [Bool.eq_iff_iff, decide_eq_true_eq, decide_eq_true_eq]; exact e1.symm
  · rw [Bool.eq_iff_iff, decide_eq_true_eq, beq_iff_eq]; exact e2.symm
end Go.Proofs.Ytaimmohfcjoclaa
