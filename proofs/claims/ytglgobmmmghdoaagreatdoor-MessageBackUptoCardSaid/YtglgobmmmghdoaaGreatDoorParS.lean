/-
  Plain mathematics: the pieces between bytes c, as lists; the pieces of a line are few and short.
-/
import Derived.Test.YtglgobmmmghdoaaGreatDoorParM
import Derived.Test.YtglgobmmmghdoaaGreatDoorSplM
import Derived.Test.YtglgobmmmghdoaaGreatDoorTelA
import Derived.Test.YtglgobmmmghdoaaGreatDoorTelR
namespace Go.Proofs.YtglgobmmmghdoaaGreatDoor

theorem splitC_partX (s : ByteArray) : (splitC 47 s).flatMap partX = 47 :: s.data.toList := by
  have h := splitL_join 47 s.data.toList
  rw [← splitC_list, List.flatMap_map] at h
  exact h
theorem splitC_uniq {s : ByteArray} {ps : List ByteArray} (hp : ∀ p ∈ ps, (47 : UInt8) ∉ p.data.toList) (h : ps.flatMap partX = 47 :: s.data.toList) : splitC 47 s = ps := by
  have h1 : (ps.map (·.data.toList)).flatMap (fun p => (47 : UInt8) :: p) = 47 :: s.data.toList := by rw [List.flatMap_map]; exact h
  have h2 := splitL_uniq 47 (ps.map (·.data.toList)) s.data.toList (fun p hp' => by
    obtain ⟨x, hx, rfl⟩ := List.mem_map.1 hp'
    exact hp x hx) h1
  rw [← splitC_list] at h2
  have inj : ∀ a b : ByteArray, a.data.toList = b.data.toList → a = b := fun a b e => ByteArray.ext (Array.toList_inj.1 e)
  exact (List.map_inj_right inj).1 h2

theorem part_le {ps : List ByteArray} {p : ByteArray} (h : p ∈ ps) : p.size + 1 ≤ (ps.flatMap partX).length := by
  induction ps with
  | nil => cases h
  | cons x ps ih =>
    rw [List.flatMap_cons, List.length_append]
    rcases List.mem_cons.1 h with rfl | h
    · have : (partX p).length = p.size + 1 := by simp [partX]
      omega
    · have := ih h; omega
theorem peHead_size (s : ByteArray) : (peHead s).size ≤ s.size := by
  unfold peHead
  split
  · exact Nat.le_refl _
  · simp; omega
theorem peRest_le (s : ByteArray) : (peRest s).size ≤ s.size := by
  unfold peRest
  split
  · simp
  · simp
/-- The pieces of a line are few and short. -/
theorem pe_small {s : ByteArray} (hs : s.size ≤ 2048) : SmallE (peEl s) := by
  have h1 := peHead_size s
  have h2 := peRest_le s
  refine ⟨?_, ?_, fun p hp => ?_⟩
  · have h3 := splitC_length 47 (peRest s)
    have h4 := Lib.countB_le ⟨#[47]⟩ (Nat.le_refl _) (peRest s).size (peRest s) (Nat.le_refl _)
    show (splitC 47 (peRest s)).length ≤ 3000
    omega
  · show (⟨(Lib.trimPrefix (peHead s).data.toList [46]).toArray⟩ : ByteArray).size ≤ 3000
    have h3 : (Lib.trimPrefix (peHead s).data.toList [46]).length ≤ (peHead s).data.toList.length := by
      unfold Lib.trimPrefix
      split
      · rw [List.length_drop]; omega
      · exact Nat.le_refl _
    rw [tsize_list rfl]
    rw [slen] at h3
    exact Nat.le_trans h3 (by omega)
  · have h3 := part_le (show p ∈ splitC 47 (peRest s) from hp)
    rw [splitC_partX, List.length_cons, slen] at h3
    omega
end Go.Proofs.YtglgobmmmghdoaaGreatDoor
