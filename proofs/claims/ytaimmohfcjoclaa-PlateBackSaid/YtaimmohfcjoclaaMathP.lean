/-
  Plain mathematics: a valid plate is read back from its text, and a text that is accepted is the text of the result.
-/
import Derived.Test.YtaimmohfcjoclaaMathB
namespace Go.Proofs.Ytaimmohfcjoclaa

theorem valN_append (x y : List UInt8) : valN (x ++ y) = valN x * ((10 ^ y.length : Nat) : Int) + valN y := by
  have h : ∀ (y : List UInt8) (z : Int), y.foldl (fun n c => n * 10 + ((c.toNat : Int) - 48)) z = z * ((10 ^ y.length : Nat) : Int) + y.foldl (fun n c => n * 10 + ((c.toNat : Int) - 48)) 0 := by
    intro y
    induction y with
    | nil => intro z; simp
    | cons c y ih =>
      intro z
      rw [List.foldl_cons, List.foldl_cons, ih (z * 10 + ((c.toNat : Int) - 48)), ih (0 * 10 + ((c.toNat : Int) - 48)), List.length_cons, Nat.pow_succ]
      simp only [Int.natCast_mul, Int.add_mul, Int.mul_assoc]
      rw [show ((10 ^ y.length : Nat) : Int) * ((10 : Nat) : Int) = 10 * ((10 ^ y.length : Nat) : Int) from Int.mul_comm _ _]
      omega
  unfold valN
  rw [List.foldl_append]
  exact h y _
theorem valN_list (l : List UInt8) (h : allDig l = true) : 0 ≤ valN l ∧ valN l < ((10 ^ l.length : Nat) : Int) := by
  have := valN_bd ⟨l.toArray⟩ (by simpa using h) l.length (by simp [ByteArray.size])
  simp only [List.take_length] at this
  omega
theorem ext_list (s : ByteArray) (a b : Nat) : (s.extract a b).data.toList = (s.data.toList.drop a).take (b - a) := by
  rw [ByteArray.data_extract, Array.toList_extract]
theorem size_list (s : ByteArray) : s.data.toList.length = s.size := by simp

/-- The number of a text of ten digits is made of the numbers of its parts. -/
theorem parts_val {s : ByteArray} (h : pForm s = true) : valN s.data.toList = num (pL0 s) (pA0 s) (pS0 s) ∧
    (0 ≤ pL0 s ∧ pL0 s ≤ 9) ∧ (0 ≤ pA0 s ∧ pA0 s ≤ 999) ∧ (0 ≤ pS0 s ∧ pS0 s ≤ 999999) := by
  have hz : s.size = 10 := by unfold pForm at h; simp at h; exact h.1
  have hd : allDig s.data.toList = true := by unfold pForm at h; simp at h; exact h.2
  have d1 := allDig_ext s 0 1 hd
  have d2 := allDig_ext s 1 4 hd
  have d3 := allDig_ext s 4 s.size hd
  have b1 := valN_list _ d1
  have b2 := valN_list _ d2
  have b3 := valN_list _ d3
  rw [size_list, size_ext] at b1 b2 b3
  have m1 : min 1 s.size - 0 = 1 := by omega
  have m2 : min 4 s.size - 1 = 3 := by omega
  have m3 : min s.size s.size - 4 = 6 := by omega
  rw [m1] at b1
  rw [m2] at b2
  rw [m3] at b3
  have e : s.data.toList = (s.extract 0 1).data.toList ++ ((s.extract 1 4).data.toList ++ (s.extract 4 s.size).data.toList) := by
    rw [ext_list, ext_list, ext_list, hz]
    have h1 : (s.data.toList.drop 4).take (10 - 4) = s.data.toList.drop 4 := List.take_of_length_le (by rw [List.length_drop, size_list, hz]; omega)
    have h2 : s.data.toList.drop 4 = (s.data.toList.drop 1).drop 3 := by rw [List.drop_drop]
    rw [h1, h2, show 4 - 1 = 3 from rfl, List.take_append_drop, List.drop_zero, show 1 - 0 = 1 from rfl, List.take_append_drop]
  have v : valN s.data.toList = valN (s.extract 0 1).data.toList * ((10 ^ 9 : Nat) : Int) + (valN (s.extract 1 4).data.toList * ((10 ^ 6 : Nat) : Int) + valN (s.extract 4 s.size).data.toList) := by
    conv => lhs; rw [e]
    rw [valN_append, valN_append]
    have l2 : ((s.extract 1 4).data.toList ++ (s.extract 4 s.size).data.toList).length = 9 := by rw [List.length_append, size_list, size_list, size_ext, size_ext, m2, m3]
    have l3 : (s.extract 4 s.size).data.toList.length = 6 := by rw [size_list, size_ext, m3]
    rw [l2, l3]
  unfold pL0 pA0 pS0 num
  rw [v]
  refine ⟨by omega, by omega, by omega, by omega⟩

theorem parse_txt {l a s : Int} (h : vld l a s = true) : pForm (txt l a s) = true ∧ pL0 (txt l a s) = l ∧ pA0 (txt l a s) = a ∧ pS0 (txt l a s) = s := by
  have hf : pForm (txt l a s) = true := pForm_yes (txt_size h) (txt_dig h)
  obtain ⟨h1, h2, h3, h4, h5, h6⟩ := vld_iff.1 h
  obtain ⟨v, ⟨b1, b2⟩, ⟨b3, b4⟩, b5, b6⟩ := parts_val hf
  rw [txt_val h] at v
  unfold num at v
  exact ⟨hf, by omega, by omega, by omega⟩
/-- Every valid plate is read back from its text. -/
theorem parse_back {l a s : Int} (h : vld l a s = true) : pL (txt l a s) = l ∧ pA (txt l a s) = a ∧ pS (txt l a s) = s ∧ pE (txt l a s) = 0 := by
  obtain ⟨hf, h1, h2, h3⟩ := parse_txt h
  have hv : vld (pL0 (txt l a s)) (pA0 (txt l a s)) (pS0 (txt l a s)) = true := by rw [h1, h2, h3]; exact h
  obtain ⟨k1, k2, k3, k4⟩ := p_yes hf hv
  exact ⟨by rw [k1, h1], by rw [k2, h2], by rw [k3, h3], k4⟩

theorem dgs_val (s : ByteArray) (h : allDig s.data.toList = true) (k : Nat) : k ≤ s.size → dgs (valN (s.data.toList.take k)) k = (s.data.toList.take k).map fun c => (c.toNat : Int) := by
  induction k with
  | zero => intro _; simp [dgs]
  | succ k ih =>
    intro hk
    have hd := allDig_at h (show k < s.size by omega)
    rw [valN_step s k (by omega), take_snoc s k (by omega), dgs, List.map_append]
    have e1 : (valN (s.data.toList.take k) * 10 + ((s[k].toNat : Int) - 48)) / 10 = valN (s.data.toList.take k) := by omega
    have e2 : (valN (s.data.toList.take k) * 10 + ((s[k].toNat : Int) - 48)) % 10 = (s[k].toNat : Int) - 48 := by omega
    rw [e1, e2, ih (by omega)]
    simp
    omega
/-- A text that is accepted is the text of the result. -/
theorem txt_back {s : ByteArray} (h : pE s = 0) : txt (pL s) (pA s) (pS s) = s := by
  have hf : pForm s = true := by
    cases e : pForm s with
    | true => rfl
    | false => have := (p_no e).2.2.2; omega
  have hv : vld (pL0 s) (pA0 s) (pS0 s) = true := by
    cases e : vld (pL0 s) (pA0 s) (pS0 s) with
    | true => rfl
    | false => have := (p_range hf e).2.2.2; omega
  obtain ⟨k1, k2, k3, _⟩ := p_yes hf hv
  have hz : s.size = 10 := by unfold pForm at hf; simp at hf; exact hf.1
  have hd : allDig s.data.toList = true := by unfold pForm at hf; simp at hf; exact hf.2
  rw [k1, k2, k3, txt_yes hv, ← (parts_val hf).1]
  have e := dgs_val s hd 10 (by omega)
  rw [List.take_of_length_le (by rw [size_list]; omega)] at e
  rw [e]
  apply ByteArray.ext
  apply Array.toList_inj.1
  rw [strOfNums_data, List.map_map]
  conv => rhs; rw [← List.map_id s.data.toList]
  apply List.map_congr_left
  intro x _
  simp
end Go.Proofs.Ytaimmohfcjoclaa
