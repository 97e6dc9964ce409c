/-
  Lanes (layer 17): LanesStore: two stores in boxes beside a reader; New, Put and Take of both sides in one form.
-/
import Derived.Test.YtmmhchhekmcihaaLanBH
import Derived.Test.YtmmhchhekmcihaaLanCD
import Derived.Test.YtmmhchhekmcihaaLanCE
namespace Go.Proofs.Ytmmhchhekmcihaa
open Go.RowKit
/-- The reader's block and the two boxes. -/
def D3 (b g1 g2 : Nat) : Nat → Prop := fun k => k = b ∨ k = g1 ∨ k = g2
structure LsS (w0 : World) (g1 g2 : Nat) (d1 : Int) (R1 : List (List Bg)) (A1 : Option Addr) (c1 : Nat) (d2 : Int) (R2 : List (List Bg)) (A2 : Option Addr) (c2 : Nat) (W : World) : Prop where
  bel : Below w0.heap.size w0 W
  src : Src w0.heap.size w0.heap.size W
  g1R : w0.heap.size < g1
  g2R : g1 < g2
  b1 : W.heap[g1]? = some (lnsO d1 A1 R1.length c1)
  b2 : W.heap[g2]? = some (lnsO d2 A2 R2.length c2)
  s1 : StoI (D3 w0.heap.size g1 g2) W A1 R1 c1
  s2 : StoI (D3 w0.heap.size g1 g2) W A2 R2 c2
section
variable {w0 W W' : World} {g1 g2 : Nat} {d1 d2 d : Int} {R1 R2 R : List (List Bg)} {A1 A2 A : Option Addr} {c1 c2 c : Nat}
theorem LsS.lt (h : LsS w0 g1 g2 d1 R1 A1 c1 d2 R2 A2 c2 W) : g2 < W.heap.size := (Array.getElem?_eq_some_iff.1 h.b2).1
theorem LsS.old (h : LsS w0 g1 g2 d1 R1 A1 c1 d2 R2 A2 c2 W) : Old (D3 w0.heap.size g1 g2) W := fun b e => by
  have := h.lt; have := h.g1R; have := h.g2R
  rcases e with rfl | rfl | rfl <;> omega
theorem LsS.below (h : LsS w0 g1 g2 d1 R1 A1 c1 d2 R2 A2 c2 W) (hb : Below W.heap.size W W') : LsS w0 g1 g2 d1 R1 A1 c1 d2 R2 A2 c2 W' :=
  ⟨onward h.bel hb, h.src.keep hb, h.g1R, h.g2R, heap_below h.b1 hb, heap_below h.b2 hb, h.s1.below hb, h.s2.below hb⟩
theorem LsS.read (h : LsS w0 g1 g2 d1 R1 A1 c1 d2 R2 A2 c2 W) (hs : Src w0.heap.size w0.heap.size W') (hg : W.grownBy W' (some w0.heap.size)) : LsS w0 g1 g2 d1 R1 A1 c1 d2 R2 A2 c2 W' := by
  have := h.lt; have := h.g1R; have := h.g2R
  exact ⟨below_reads h.bel hg (Nat.le_refl _) h.bel.size, hs, h.g1R, h.g2R, (hg.block g1 (by omega) (fun e => by injection e with e; omega)).trans h.b1, (hg.block g2 h.lt (fun e => by injection e with e; omega)).trans h.b2, h.s1.keep (KepS.grown hg (.inl rfl)), h.s2.keep (KepS.grown hg (.inl rfl))⟩
theorem LsS.put1 (h : LsS w0 g1 g2 d1 R1 A1 c1 d2 R2 A2 c2 W) (k : StoI (D3 w0.heap.size g1 g2) W A R c) : LsS w0 g1 g2 d R A c d2 R2 A2 c2 (W.setRow g1 #[.int .i64 d, .slice A R.length c]) := by
  have := h.lt; have := h.g1R; have := h.g2R
  exact ⟨below_row h.bel (by omega) _, h.src.grown (grown_row W g1 _) (fun k e => by injection e with e; omega), h.g1R, h.g2R, setRow_heap W g1 _ _ _ _ h.b1, by rw [setRow_other _ _ _ _ (by omega)]; exact h.b2, k.keep (KepS.setRow W _ (.inr (.inl rfl))), h.s2.keep (KepS.setRow W _ (.inr (.inl rfl)))⟩
theorem LsS.put2 (h : LsS w0 g1 g2 d1 R1 A1 c1 d2 R2 A2 c2 W) (k : StoI (D3 w0.heap.size g1 g2) W A R c) : LsS w0 g1 g2 d1 R1 A1 c1 d R A c (W.setRow g2 #[.int .i64 d, .slice A R.length c]) := by
  have := h.lt; have := h.g1R; have := h.g2R
  exact ⟨below_row h.bel (by omega) _, h.src.grown (grown_row W g2 _) (fun k e => by injection e with e; omega), h.g1R, h.g2R, by rw [setRow_other _ _ _ _ (by omega)]; exact h.b1, setRow_heap W g2 _ _ _ _ h.b2, h.s1.keep (KepS.setRow W _ (.inr (.inr rfl))), k.keep (KepS.setRow W _ (.inr (.inr rfl)))⟩
/-- Both stores just made. -/
theorem LsS.start {w1 w3 w5 : World} (hb1 : Below w0.heap.size w0 w1) (hs1 : Src w0.heap.size w0.heap.size w1) (hb3 : Below w1.heap.size w1 w3) (h1 : ∀ S, Old S w1 → StoI S w3 A1 R1 c1)
    (hb5 : Below (w3.alloc (lnsO d1 A1 R1.length c1)).heap.size (w3.alloc (lnsO d1 A1 R1.length c1)) w5) (h2 : ∀ S, Old S (w3.alloc (lnsO d1 A1 R1.length c1)) → StoI S w5 A2 R2 c2) :
    LsS w0 w3.heap.size w5.heap.size d1 R1 A1 c1 d2 R2 A2 c2 (w5.alloc (lnsO d2 A2 R2.length c2)) := by
  have hb := onward hb1 hb3
  have hs := hs1.keep hb3
  have z5 := hs1.lt
  have k1 := below_new (Below.refl w3.heap.size w3) (lnsO d1 A1 R1.length c1)
  have k3 := below_new (Below.refl w5.heap.size w5) (lnsO d2 A2 R2.length c2)
  have k15 := onward k1 hb5
  have z1 : (w3.alloc (lnsO d1 A1 R1.length c1)).heap.size = w3.heap.size + 1 := World.size_alloc _ _
  have z2 := hb5.size
  have z3 := k15.size
  have z4 := hs.lt
  refine ⟨onward (onward hb k15) k3, (hs.keep k15).keep k3, hs.lt, by omega, heap_below (heap_below (heap_alloc_new w3 _) hb5) k3, heap_alloc_new w5 _, ?_, ?_⟩
  · refine ((StoI.below (S := D3 w0.heap.size w3.heap.size w5.heap.size) ((h1 (fun b => b = w0.heap.size) (fun b e => by omega)).mono fun b hlt e => ?_) k1).below hb5).below k3
    rcases e with e | e | e
    · exact e
    · omega
    · omega
  · exact ((h2 (fun b => b = w0.heap.size ∨ b = w3.heap.size) (fun b e => by rcases e with rfl | rfl <;> omega)).mono (S' := D3 w0.heap.size w3.heap.size w5.heap.size) fun b hlt e => by
      rcases e with e | e | e
      · exact .inl e
      · exact .inr e
      · omega).below k3
end
/-! New, Put and Take in one form, whether they fail or not. -/
theorem sto_nil (S : Nat → Prop) (w : World) : StoI S w none [] 0 := ⟨fun h => absurd h (Nat.lt_irrefl 0), Nat.le_refl _⟩
def NewG (n d D : Int) (R : List (List Bg)) (E : Int) : Prop := (¬ (1 ≤ n ∧ n ≤ 20 ∧ 1 ≤ d ∧ d ≤ 20) ∧ D = 0 ∧ R = [] ∧ E = 1) ∨ ((1 ≤ n ∧ n ≤ 20 ∧ 1 ≤ d ∧ d ≤ 20) ∧ D = d ∧ R = List.replicate n.toNat [] ∧ E = 0)
def NewU (D : Int) (R : List (List Bg)) (E : Int) (w : World) (e : Ending) (w' : World) : Prop := ∃ A c, e = .returned (.tuple #[lnsV D A R.length c, .int .i64 E]) ∧ Below w.heap.size w w' ∧ ∀ S, Old S w → StoI S w' A R c
theorem newG (n d : Int) : ∃ D R E, NewG n d D R E := by
  by_cases h : 1 ≤ n ∧ n ≤ 20 ∧ 1 ≤ d ∧ d ≤ 20
  · exact ⟨_, _, _, .inr ⟨h, rfl, rfl, rfl⟩⟩
  · exact ⟨_, _, _, .inl ⟨h, rfl, rfl, rfl⟩⟩
theorem NewG.small {n d D : Int} {R : List (List Bg)} {E : Int} (h : NewG n d D R E) : R.length ≤ 1000 ∧ ∀ l ∈ R, l.length ≤ 1000 := by
  rcases h with ⟨_, _, rfl, _⟩ | ⟨h, _, rfl, _⟩
  · exact ⟨Nat.zero_le _, fun l hl => by cases hl⟩
  · exact ⟨by rw [List.length_replicate]; omega, fun l hl => by rw [List.eq_of_mem_replicate hl]; exact Nat.zero_le _⟩
theorem new_u {n d D : Int} {R : List (List Bg)} {E : Int} (h : NewG n d D R E) {w w' : World} {e : Ending} (k : NewTo n d w e w') : NewU D R E w e w' := by
  obtain ⟨hb, ⟨h1, h2⟩ | ⟨h1, A, c, h2, h3⟩⟩ := k
  · rcases h with ⟨_, rfl, rfl, rfl⟩ | ⟨h, _⟩
    · exact ⟨none, 0, h2, hb, fun S _ => sto_nil S w'⟩
    · exact absurd h h1
  · rcases h with ⟨h, _⟩ | ⟨h, rfl, rfl, rfl⟩
    · exact absurd h1 h
    · exact ⟨A, c, by rw [List.length_replicate]; exact h2, hb, h3⟩
def PutG (dp : Nat) (L : List (List Bg)) (s : Bg) (D : Int) (R : List (List Bg)) (P : Nat) (E : Int) : Prop := putS dp L s = (R, P, E) ∧ (E ≠ 0 → D = 0 ∧ R = [] ∧ P = 0) ∧ (E = 0 → D = dp ∧ R.length = L.length ∧ ValL dp R)
theorem putG {dp : Nat} {L : List (List Bg)} (s : Bg) (h : ValL dp L) : ∃ D R P E, PutG dp L s D R P E := by
  by_cases h1 : s.1 < 1 ∨ 40 < s.1 ∨ s.2 < 0 ∨ 1048576 < s.2
  · exact ⟨0, _, _, _, putS_range h1, fun _ => ⟨rfl, rfl, rfl⟩, fun e => absurd e (by decide)⟩
  · by_cases h2 : findS L s.1 < L.length
    · exact ⟨0, _, _, _, putS_dup h1 h2, fun _ => ⟨rfl, rfl, rfl⟩, fun e => absurd e (by decide)⟩
    · cases h3 : bestS dp L s.2 L.length with
      | none => exact ⟨0, _, _, _, putS_full h1 h2 h3, fun _ => ⟨rfl, rfl, rfl⟩, fun e => absurd e (by decide)⟩
      | some p =>
        have hp := best_room h3
        exact ⟨dp, _, _, _, putS_ok h1 h2 h3, fun e => absurd rfl e, fun _ => ⟨rfl, by rw [List.length_set], h.put hp.1 hp.2 (by omega) h2⟩⟩
theorem PutG.small {dp : Nat} {L R : List (List Bg)} {s : Bg} {D : Int} {P : Nat} {E : Int} (h : PutG dp L s D R P E) : R.length ≤ 1000 ∧ ∀ l ∈ R, l.length ≤ 1000 := by
  by_cases hE : E = 0
  · have hv := (h.2.2 hE).2.2
    have := hv.n; have := hv.d
    exact ⟨by omega, fun l hl => by have := hv.len l hl; omega⟩
  · rw [(h.2.1 hE).2.1]
    exact ⟨Nat.zero_le _, fun l hl => by cases hl⟩
def PutU (D : Int) (R : List (List Bg)) (P E : Int) (S : Nat → Prop) (w : World) (e : Ending) (w' : World) : Prop := ∃ A c, e = .returned (.tuple #[lnsV D A R.length c, .int .i64 P, .int .i64 E]) ∧ Below w.heap.size w w' ∧ StoI S w' A R c
theorem put_u {dp : Nat} {L R : List (List Bg)} {s : Bg} {D : Int} {P : Nat} {E : Int} (h : PutG dp L s D R P E) {S : Nat → Prop} {w w' : World} {e : Ending} (k : PutTo dp L s S w e w') : PutU D R P E S w e w' := by
  obtain ⟨hp, h1, h2⟩ := h
  rw [PutTo, hp] at k
  obtain ⟨hb, ⟨h3, h4⟩ | ⟨h3, A, c, h4, h5⟩⟩ := k
  · obtain ⟨rfl, rfl, rfl⟩ := h1 h3
    exact ⟨none, 0, h4, hb, sto_nil S w'⟩
  · have h3 : E = 0 := h3
    subst h3
    obtain ⟨rfl, h6, _⟩ := h2 rfl
    exact ⟨A, c, by rw [h6]; exact h4, hb, h5⟩
def TakeG (dp : Nat) (L : List (List Bg)) (bag : Int) (D : Int) (R : List (List Bg)) (M : List Int) (E : Int) : Prop := takeS L bag = (R, M, E) ∧ (E ≠ 0 → D = 0 ∧ R = [] ∧ M = []) ∧ (E = 0 → D = dp ∧ R.length = L.length ∧ ValL dp R) ∧ M.length ≤ 1000
theorem takeG {dp : Nat} {L : List (List Bg)} (bag : Int) (h : ValL dp L) : ∃ D R M E, TakeG dp L bag D R M E := by
  by_cases h1 : findS L bag < L.length
  · obtain ⟨f, s, pre, r, h2, h3, h4, h5, h6, h7⟩ := take_out h (has_bag.1 h1)
    refine ⟨dp, _, _, _, h5, fun e => absurd rfl e, fun _ => ⟨rfl, by rw [List.length_set], h6⟩, ?_⟩
    have h8 := h.len _ (mem_at h2)
    rw [h4, List.length_append] at h8
    rw [List.length_map]
    have := h.d
    omega
  · exact ⟨0, _, _, _, takeS_no h1, fun _ => ⟨rfl, rfl, rfl⟩, fun e => absurd e (by decide), Nat.zero_le _⟩
theorem TakeG.small {dp : Nat} {L R : List (List Bg)} {bag D : Int} {M : List Int} {E : Int} (h : TakeG dp L bag D R M E) : R.length ≤ 1000 ∧ ∀ l ∈ R, l.length ≤ 1000 := by
  by_cases hE : E = 0
  · have hv := (h.2.2.1 hE).2.2
    have := hv.n; have := hv.d
    exact ⟨by omega, fun l hl => by have := hv.len l hl; omega⟩
  · rw [(h.2.1 hE).2.1]
    exact ⟨Nat.zero_le _, fun l hl => by cases hl⟩
def TakeU (D : Int) (R : List (List Bg)) (M : List Int) (E : Int) (S : Nat → Prop) (w : World) (e : Ending) (w' : World) : Prop := ∃ A c B b, e = .returned (.tuple #[lnsV D A R.length c, .slice B M.length b, .int .i64 E]) ∧ Below w.heap.size w w' ∧ StoI S w' A R c ∧ ∀ k, S k → NumsIn k w' B M
theorem take_u {dp : Nat} {L R : List (List Bg)} {bag D : Int} {M : List Int} {E : Int} (h : TakeG dp L bag D R M E) {S : Nat → Prop} {w w' : World} {e : Ending} (k : TakeTo dp L bag S w e w') : TakeU D R M E S w e w' := by
  obtain ⟨hp, h1, h2, _⟩ := h
  rw [TakeTo, hp] at k
  obtain ⟨hb, ⟨h3, h4⟩ | ⟨h3, A, c, B, d, h4, _, h5, h6⟩⟩ := k
  · obtain ⟨rfl, rfl, rfl⟩ := h1 h3
    exact ⟨none, 0, none, 0, h4, hb, sto_nil S w', fun k _ => NumsIn.nil _ _ _⟩
  · have h3 : E = 0 := h3
    subst h3
    obtain ⟨rfl, h7, _⟩ := h2 rfl
    exact ⟨A, c, B, d, by rw [h7]; exact h4, hb, h5, h6⟩
end Go.Proofs.Ytmmhchhekmcihaa
