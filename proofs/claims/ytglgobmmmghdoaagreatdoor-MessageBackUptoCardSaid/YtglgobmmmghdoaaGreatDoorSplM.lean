/-
  Plain mathematics: strings split at a byte, and cut at the first one.
-/
import Derived.Test.YtglgobmmmghdoaaGreatDoorLibS
namespace Go.Proofs.YtglgobmmmghdoaaGreatDoor

def consH (b : UInt8) : List (List UInt8) → List (List UInt8)
  | [] => [[b]]
  | h :: t => (b :: h) :: t
def splitL (c : UInt8) : List UInt8 → List (List UInt8)
  | [] => [[]]
  | b :: l => if b = c then [] :: splitL c l else consH b (splitL c l)
theorem splitL_ne (c : UInt8) (l : List UInt8) : ∃ h t, splitL c l = h :: t := by
  cases l with
  | nil => exact ⟨_, _, rfl⟩
  | cons b l =>
    unfold splitL
    split
    · exact ⟨_, _, rfl⟩
    · cases splitL c l <;> exact ⟨_, _, rfl⟩
/-- The pieces, each behind a byte c, joined. -/
theorem splitL_join (c : UInt8) (l : List UInt8) : (splitL c l).flatMap (fun p => c :: p) = c :: l := by
  induction l with
  | nil => rfl
  | cons b l ih =>
    unfold splitL
    split
    · rename_i h
      rw [List.flatMap_cons, ih, h]; rfl
    · obtain ⟨x, t, e⟩ := splitL_ne c l
      rw [e] at ih ⊢
      unfold consH
      rw [List.flatMap_cons] at ih ⊢
      rw [List.cons_append] at ih
      injection ih with _ ih
      show c :: b :: (x ++ t.flatMap (fun p => c :: p)) = c :: b :: l
      rw [ih]
theorem splitL_no (c : UInt8) (l : List UInt8) : ∀ p ∈ splitL c l, c ∉ p := by
  induction l with
  | nil => intro p hp; simp [splitL] at hp; subst hp; simp
  | cons b l ih =>
    unfold splitL
    split
    · intro p hp
      rcases List.mem_cons.1 hp with rfl | hp
      · simp
      · exact ih p hp
    · rename_i h
      obtain ⟨x, t, e⟩ := splitL_ne c l
      rw [e] at ih ⊢
      intro p hp
      rcases List.mem_cons.1 hp with rfl | hp
      · intro hm
        rcases List.mem_cons.1 hm with rfl | hm
        · exact h rfl
        · exact ih x (List.mem_cons_self ..) hm
      · exact ih p (List.mem_cons_of_mem _ hp)
theorem splitL_app (c : UInt8) (p r : List UInt8) (hp : c ∉ p) : splitL c (p ++ c :: r) = p :: splitL c r := by
  induction p with
  | nil => simp [splitL]
  | cons b p ih =>
    have hb : b ≠ c := fun e => hp (by rw [e]; exact List.mem_cons_self ..)
    have h2 := ih (fun h => hp (List.mem_cons_of_mem _ h))
    rw [List.cons_append]
    conv => lhs; unfold splitL
    rw [if_neg hb, h2]; rfl
theorem splitL_one (c : UInt8) (p : List UInt8) (hp : c ∉ p) : splitL c p = [p] := by
  induction p with
  | nil => rfl
  | cons b p ih =>
    have hb : b ≠ c := fun e => hp (by rw [e]; exact List.mem_cons_self ..)
    have h2 := ih (fun h => hp (List.mem_cons_of_mem _ h))
    conv => lhs; unfold splitL
    rw [if_neg hb, h2]; rfl
/-- The pieces are the only ones that join so. -/
theorem splitL_uniq (c : UInt8) : ∀ (ps : List (List UInt8)) (l : List UInt8), (∀ p ∈ ps, c ∉ p) → ps.flatMap (fun p => c :: p) = c :: l → splitL c l = ps
  | [], l, _, h => by simp at h
  | [p], l, hp, h => by
    rw [List.flatMap_cons, List.cons_append] at h
    injection h with _ h
    simp at h
    rw [← h]
    exact splitL_one c p (hp p (List.mem_cons_self ..))
  | p :: p2 :: ps, l, hp, h => by
    rw [List.flatMap_cons, List.cons_append] at h
    injection h with _ h
    have e : (p2 :: ps).flatMap (fun p => c :: p) = c :: (p2 ++ ps.flatMap (fun p => c :: p)) := by rw [List.flatMap_cons, List.cons_append]
    rw [e] at h
    rw [← h, splitL_app c p _ (hp p (List.mem_cons_self ..)), splitL_uniq c (p2 :: ps) _ (fun q hq => hp q (List.mem_cons_of_mem _ hq)) e]

theorem indexByte_eq (c : UInt8) (l : List UInt8) : Lib.indexByte (c :: l) c = 0 := by
  unfold Lib.indexByte; simp
theorem indexByte_ne {b c : UInt8} (h : b ≠ c) (l : List UInt8) : Lib.indexByte (b :: l) c = if Lib.indexByte l c = -1 then -1 else Lib.indexByte l c + 1 := by
  conv => lhs; unfold Lib.indexByte
  have : (b == c) = false := by rw [beq_eq_false_iff_ne]; exact h
  rw [this]
  by_cases e : Lib.indexByte l c = -1
  · simp [e]
  · simp [e]
theorem splitK_eq (c : UInt8) (k : Nat) (l : List UInt8) : Lib.splitK [c] 0 (k + 1) (c :: l) = [] :: Lib.splitK [c] 0 k l := by
  conv => lhs; unfold Lib.splitK
  rw [Lib.index_one, indexByte_eq]
  rfl
theorem splitK_ne {b c : UInt8} (h : b ≠ c) : ∀ (k : Nat) (l : List UInt8), Lib.splitK [c] 0 k (b :: l) = consH b (Lib.splitK [c] 0 k l)
  | 0, l => rfl
  | k + 1, l => by
    conv => lhs; unfold Lib.splitK
    conv => rhs; unfold Lib.splitK
    rw [Lib.index_one, Lib.index_one, indexByte_ne h]
    by_cases e : Lib.indexByte l c = -1
    · rw [e]; rfl
    · have hge := Lib.indexByte_ge l c
      obtain ⟨j, hj⟩ := Int.eq_ofNat_of_zero_le (show 0 ≤ Lib.indexByte l c by omega)
      rw [if_neg e, hj]
      have n1 : (((j : Int) + 1 == -1)) = false := by rw [beq_eq_false_iff_ne]; omega
      have n2 : ((j : Int) == -1) = false := by rw [beq_eq_false_iff_ne]; omega
      rw [n1, n2]
      have t1 : ((j : Int) + 1).toNat = j + 1 := by omega
      have t2 : ((j : Int)).toNat = j := by omega
      simp only [Bool.false_eq_true, if_false, t1, t2, Nat.add_zero, List.length_singleton]
      rw [List.take_succ_cons, List.drop_succ_cons]
      rfl
theorem splitK_split (c : UInt8) (l : List UInt8) : Lib.splitK [c] 0 (Lib.count l [c]) l = splitL c l := by
  induction l with
  | nil => rfl
  | cons b l ih =>
    unfold splitL
    by_cases e : b = c
    · subst e
      rw [if_pos rfl, Lib.count_cons_eq, Nat.add_comm, splitK_eq, ih]
    · rw [if_neg e, Lib.count_cons_ne b c l e, splitK_ne e, ih]
theorem splitC_list (c : UInt8) (s : ByteArray) : (splitC c s).map (·.data.toList) = splitL c s.data.toList := by
  unfold splitC
  rw [Lib.splitB_data]
  exact splitK_split c s.data.toList

abbrev B (l : List UInt8) : ByteArray := ⟨l.toArray⟩
theorem text_list (s : ByteArray) (a b : Nat) : (s.extract a b).data.toList = (s.data.toList.drop a).take (b - a) := by
  simp [ByteArray.data_extract]
theorem ba_ext {a b : ByteArray} (h : a.data.toList = b.data.toList) : a = b := ByteArray.ext (Array.toList_inj.1 h)
theorem indexByte_app {c : UInt8} {p : List UInt8} (hp : c ∉ p) (r : List UInt8) : Lib.indexByte (p ++ c :: r) c = (p.length : Int) := by
  induction p with
  | nil => exact indexByte_eq c r
  | cons b p ih =>
    have hb : b ≠ c := fun e => hp (by rw [e]; exact List.mem_cons_self ..)
    have h2 := ih (fun h => hp (List.mem_cons_of_mem _ h))
    rw [List.cons_append, indexByte_ne hb, h2, if_neg (by omega), List.length_cons]
    omega
theorem indexByte_not {c : UInt8} {p : List UInt8} (hp : c ∉ p) : Lib.indexByte p c = -1 := by
  induction p with
  | nil => rfl
  | cons b p ih =>
    have hb : b ≠ c := fun e => hp (by rw [e]; exact List.mem_cons_self ..)
    rw [indexByte_ne hb, ih (fun h => hp (List.mem_cons_of_mem _ h)), if_pos rfl]
/-- A string cut at its first byte c. -/
theorem cut_app {c : UInt8} {s : ByteArray} {p r : List UInt8} (hp : c ∉ p) (hs : s.data.toList = p ++ c :: r) : cutC c s = (p.length : Int) ∧ s.extract 0 p.length = B p ∧ s.extract (p.length + 1) s.size = B r ∧ s.size = p.length + 1 + r.length := by
  have hz : s.size = p.length + 1 + r.length := by rw [← slen, hs]; simp; omega
  refine ⟨by unfold cutC; rw [hs, indexByte_app hp], ba_ext ?_, ba_ext ?_, hz⟩
  · rw [text_list, hs]; simp
  · rw [text_list, hs, hz]
    have e : (p ++ c :: r).drop (p.length + 1) = r := by simp [List.drop_append]
    rw [e]
    exact List.take_of_length_le (by omega)
theorem cut_not {c : UInt8} {s : ByteArray} (h : c ∉ s.data.toList) : cutC c s = -1 := indexByte_not h
theorem cut_at {c : UInt8} {s : ByteArray} {k : Nat} (h : cutC c s = (k : Int)) : s.data.toList = (s.extract 0 k).data.toList ++ c :: (s.extract (k + 1) s.size).data.toList := by
  have h1 := (Lib.indexByte_some h).1
  obtain ⟨hk, hc⟩ := List.getElem?_eq_some_iff.1 h1
  rw [text_list, text_list, List.drop_zero, Nat.sub_zero]
  have e : (s.data.toList.drop (k + 1)).take (s.size - (k + 1)) = s.data.toList.drop (k + 1) := List.take_of_length_le (by rw [List.length_drop, slen]; exact Nat.le_refl _)
  rw [e]
  conv => lhs; rw [← List.take_append_drop k s.data.toList]
  rw [List.drop_eq_getElem_cons hk, hc]
end Go.Proofs.YtglgobmmmghdoaaGreatDoor
