/-
  Plain mathematics: what Parse of a flight comes to; the place of the slash.
-/
import Derived.Test.YtaimmohfcjoclaaMathF
import Derived.Test.YtaimmohfcjoclaaMathB
import Derived.Lib.IndexLaws
namespace Go.Proofs.Ytaimmohfcjoclaa

theorem ext_data (s : ByteArray) (a b : Nat) : (s.extract a b).data.toList = (s.data.toList.drop a).take (b - a) := by
  rw [ByteArray.data_extract, Array.toList_extract]
theorem data_len (s : ByteArray) : s.data.toList.length = s.size := by simp
theorem bat_ext (s : ByteArray) (a b i : Nat) (h : a + i < b) : bat (s.extract a b) i = bat s (a + i) := by
  unfold bat
  rw [ext_data, List.getD_eq_getElem?_getD, List.getElem?_take_of_lt (by omega), List.getElem?_drop, List.getD_eq_getElem?_getD]
theorem bat_some {s : ByteArray} {k : Nat} {c : UInt8} (h : s.data.toList[k]? = some c) : bat s k = (c.toNat : Int) ∧ k < s.size := by
  unfold bat
  rw [List.getD_eq_getElem?_getD, h]
  refine ⟨rfl, ?_⟩
  have := (List.getElem?_eq_some_iff.1 h).1
  rw [data_len] at this
  exact this
theorem some_bat {s : ByteArray} {k : Nat} (hk : k < s.size) (h : bat s k = 47) : s.data.toList[k]? = some 47 := by
  have hl : k < s.data.toList.length := by rw [data_len]; exact hk
  rw [List.getElem?_eq_getElem hl]
  unfold bat at h
  rw [List.getD_eq_getElem?_getD, List.getElem?_eq_getElem hl] at h
  congr 1
  apply UInt8.toNat_inj.1
  have : (47 : UInt8).toNat = 47 := rfl
  rw [this]
  exact Int.ofNat.inj h

/-- Where the first slash is, or -1. -/
def cutI (s : ByteArray) : Int := Lib.indexByte s.data.toList 47
theorem cutI_cases (s : ByteArray) : cutI s = -1 ∨ ∃ k : Nat, cutI s = k ∧ k + 1 ≤ s.size := by
  have h := Lib.indexByte_ge s.data.toList 47
  by_cases e : cutI s = -1
  · exact .inl e
  · right
    have e' : Lib.indexByte s.data.toList 47 ≠ -1 := e
    have hk : Lib.indexByte s.data.toList 47 = ((Lib.indexByte s.data.toList 47).toNat : Int) := by omega
    have := (bat_some (Lib.indexByte_some hk).1).2
    exact ⟨_, hk, this⟩
theorem cutI_none {s : ByteArray} (h : cutI s = -1) (k : Nat) (hk : k < s.size) : bat s k ≠ 47 := fun e => Lib.indexByte_none h k (some_bat hk e)
theorem cutI_at {s : ByteArray} {k : Nat} (h : cutI s = (k : Int)) : bat s k = 47 := (bat_some (Lib.indexByte_some h).1).1
theorem cutI_before {s : ByteArray} {k : Nat} (h : cutI s = (k : Int)) (j : Nat) (hj : j < k) (hs : j < s.size) : bat s j ≠ 47 := fun e => (Lib.indexByte_some h).2 j hj (some_bat hs e)

theorem allDig_bat {s : ByteArray} (h : allDig s.data.toList = true) (k : Nat) (hk : k < s.size) : 48 ≤ bat s k ∧ bat s k ≤ 57 := by
  rw [← bat_at s k hk]; exact allDig_at h hk
theorem letN_bat {s : ByteArray} {n : Int} (h : letN s n = true) (k : Nat) (hk : k < s.size) : 65 ≤ bat s k ∧ bat s k ≤ 90 := by
  unfold letN at h
  rw [Bool.and_eq_true] at h
  have h1 := h.2
  unfold allLet at h1
  have := List.all_eq_true.1 h1 (s.data.toList[k]'(by rw [data_len]; exact hk)) (List.getElem_mem _)
  have e : s.data.toList[k]'(by rw [data_len]; exact hk) = s[k] := rfl
  rw [e] at this
  rw [← bat_at s k hk]
  exact isLe_iff.1 this
theorem carB_bat {s : ByteArray} (h : carB s = true) : bat s 0 ≠ 47 ∧ bat s 1 ≠ 47 := by
  unfold carB isLe isD at h
  simp only [Bool.and_eq_true, Bool.or_eq_true, decide_eq_true_eq] at h
  omega

/-- The form of a text; the parts of the flight, and the error. -/
def fForm (s : ByteArray) : Bool := decide (s.size = 9 ∨ s.size = 10) && (decide (bat s (s.size - 3) = 47) && (carB (s.extract 0 2) && (allDig (s.extract 2 6).data.toList && (sufB (s.extract 6 (s.size - 3)) && allDig (s.extract (s.size - 2) s.size).data.toList))))
def fC0 (s : ByteArray) : ByteArray := s.extract 0 2
def fN0 (s : ByteArray) : Int := valN (s.extract 2 6).data.toList
def fS0 (s : ByteArray) : ByteArray := s.extract 6 (s.size - 3)
def fD0 (s : ByteArray) : Int := valN (s.extract (s.size - 2) s.size).data.toList
def fOk (s : ByteArray) : Bool := fForm s && decide (fN0 s ≠ 0)
def fC (s : ByteArray) : ByteArray := if fOk s then fC0 s else ByteArray.empty
def fN (s : ByteArray) : Int := if fOk s then fN0 s else 0
def fS (s : ByteArray) : ByteArray := if fOk s then fS0 s else ByteArray.empty
def fD (s : ByteArray) : Int := if fOk s then fD0 s else 0
def fE (s : ByteArray) : Int := if fForm s then (if fOk s then 0 else 1) else 3

theorem fForm_iff {s : ByteArray} : fForm s = true ↔ (s.size = 9 ∨ s.size = 10) ∧ bat s (s.size - 3) = 47 ∧ carB (s.extract 0 2) = true ∧ allDig (s.extract 2 6).data.toList = true ∧ sufB (s.extract 6 (s.size - 3)) = true ∧ allDig (s.extract (s.size - 2) s.size).data.toList = true := by
  unfold fForm; simp only [Bool.and_eq_true, decide_eq_true_eq]

/-- No slash stands before the one of the form. -/
theorem fForm_before {s : ByteArray} (h : fForm s = true) (j : Nat) (hj : j < s.size - 3) : bat s j ≠ 47 := by
  obtain ⟨h1, h2, h3, h4, h5, h6⟩ := fForm_iff.1 h
  have c := carB_bat h3
  rw [bat_ext s 0 2 0 (by omega), bat_ext s 0 2 1 (by omega)] at c
  by_cases j0 : j = 0
  · subst j0; exact c.1
  by_cases j1 : j = 1
  · subst j1; exact c.2
  by_cases j6 : j < 6
  · have := allDig_bat h4 (j - 2) (by rw [size_ext]; omega)
    rw [bat_ext s 2 6 (j - 2) (by omega), show 2 + (j - 2) = j by omega] at this
    omega
  · have hj6 : j = 6 := by omega
    subst hj6
    have hz : (s.extract 6 (s.size - 3)).size = 1 := by rw [size_ext]; omega
    unfold sufB at h5
    rcases Bool.or_eq_true _ _ |>.mp h5 with h5 | h5
    · have := empty_size h5; omega
    · have := letN_bat h5 0 (by omega)
      rw [bat_ext s 6 (s.size - 3) 0 (by omega), Nat.add_zero] at this
      omega
theorem fForm_cut {s : ByteArray} (h : fForm s = true) : cutI s = ((s.size - 3 : Nat) : Int) := by
  obtain ⟨h1, h2, _⟩ := fForm_iff.1 h
  rcases cutI_cases s with e | ⟨k, e, hk⟩
  · exact absurd h2 (cutI_none e _ (by omega))
  · rw [e]
    have a := cutI_at e
    by_cases l : k < s.size - 3
    · exact absurd a (fForm_before h k l)
    · by_cases g : s.size - 3 < k
      · exact absurd h2 (cutI_before e _ g (by omega))
      · congr 1; omega

/-- The form, by the two parts of a cut. -/
def dForm (D G : ByteArray) : Bool := decide (6 ≤ D.size ∧ G.size = 2) && (carB (D.extract 0 2) && (numB (D.extract 2 6) && (sufB (D.extract 6 D.size) && numB G)))
theorem dForm_iff {D G : ByteArray} : dForm D G = true ↔ (6 ≤ D.size ∧ G.size = 2) ∧ carB (D.extract 0 2) = true ∧ numB (D.extract 2 6) = true ∧ sufB (D.extract 6 D.size) = true ∧ numB G = true := by
  unfold dForm; simp only [Bool.and_eq_true, decide_eq_true_eq]
theorem cut_ext (s : ByteArray) (k a b : Nat) (hb : b ≤ k) : (s.extract 0 k).extract a b = s.extract a b := by
  rw [ByteArray.extract_extract]
  congr 1
  · omega
  · omega
theorem cut_form {s : ByteArray} {k : Nat} (h : cutI s = (k : Int)) (hk : k + 1 ≤ s.size) (hd : dForm (s.extract 0 k) (s.extract (k + 1) s.size) = true) : fForm s = true := by
  obtain ⟨⟨h1, h2⟩, h3, h4, h5, h6⟩ := dForm_iff.1 hd
  rw [size_ext] at h1 h2
  have h7 := sufB_size h5
  rw [size_ext, size_ext] at h7
  have ek : s.size - 3 = k := by omega
  have ek2 : s.size - 2 = k + 1 := by omega
  rw [cut_ext s k 0 2 (by omega)] at h3
  rw [cut_ext s k 2 6 (by omega), numB_of (by rw [size_ext]; omega)] at h4
  rw [show (s.extract 0 k).size = k by rw [size_ext]; omega, cut_ext s k 6 k (by omega)] at h5
  rw [numB_of (by rw [size_ext]; omega)] at h6
  refine fForm_iff.2 ⟨by omega, by rw [ek]; exact cutI_at h, h3, h4, by rw [ek]; exact h5, by rw [ek2]; exact h6⟩
theorem noform_none {s : ByteArray} (h : cutI s = -1) : fForm s = false := by
  cases e : fForm s with
  | false => rfl
  | true => rw [fForm_cut e] at h; omega

theorem fN0_bd {s : ByteArray} (h : fForm s = true) : 0 ≤ fN0 s ∧ fN0 s ≤ 9999 ∧ 0 ≤ fD0 s ∧ fD0 s ≤ 99 := by
  obtain ⟨h1, h2, h3, h4, h5, h6⟩ := fForm_iff.1 h
  have a := valN_bd _ h4 4 (by rw [size_ext]; omega)
  have b := valN_bd _ h6 2 (by rw [size_ext]; omega)
  rw [List.take_of_length_le (by rw [data_len, size_ext]; omega)] at a b
  unfold fN0 fD0
  omega
theorem fvl_form {s : ByteArray} (h : fForm s = true) : fvl (fC0 s) (fN0 s) (fS0 s) (fD0 s) = decide (fN0 s ≠ 0) := by
  have b := fN0_bd h
  obtain ⟨h1, h2, h3, h4, h5, h6⟩ := fForm_iff.1 h
  rw [Bool.eq_iff_iff, fvl_iff, decide_eq_true_eq]
  constructor
  · intro k; omega
  · intro k; exact ⟨h3, by omega, h5, by omega⟩
theorem f_no {s : ByteArray} (h : fForm s = false) : fC s = ByteArray.empty ∧ fN s = 0 ∧ fS s = ByteArray.empty ∧ fD s = 0 ∧ fE s = 3 := by
  have h1 : fOk s = false := by unfold fOk; rw [h]; rfl
  unfold fC fN fS fD fE; rw [h1, h]; simp
theorem f_range {s : ByteArray} (h : fForm s = true) (hv : fN0 s = 0) : fC s = ByteArray.empty ∧ fN s = 0 ∧ fS s = ByteArray.empty ∧ fD s = 0 ∧ fE s = 1 := by
  have h1 : fOk s = false := by unfold fOk; rw [h, hv]; rfl
  unfold fC fN fS fD fE; rw [h1, h]; simp
theorem f_yes {s : ByteArray} (h : fForm s = true) (hv : fN0 s ≠ 0) : fC s = fC0 s ∧ fN s = fN0 s ∧ fS s = fS0 s ∧ fD s = fD0 s ∧ fE s = 0 := by
  have h1 : fOk s = true := by unfold fOk; rw [h]; simp [hv]
  unfold fC fN fS fD fE; rw [h1, h]; simp
end Go.Proofs.Ytaimmohfcjoclaa
