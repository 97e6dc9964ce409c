/-
  Lanes (layer 17): LanesKeeps: what is kept while a reader is at work and stores stand in boxes.
-/
import Derived.Test.YtmmhchhekmcihaaLanT
import Derived.Test.YtmmhchhekmcihaaRdK
namespace Go.Proofs.Ytmmhchhekmcihaa
open Go.RowKit

/-- The reader's block and the store's box. -/
def D2 (b g : Nat) : Nat → Prop := fun k => k = b ∨ k = g
/-- A reader at work, a store in its box. -/
structure KpS (w0 : World) (g : Nat) (dp : Int) (n : Nat) (L : List (List Bg)) (A : Option Addr) (c : Nat) (W : World) : Prop where
  bel : Below w0.heap.size w0 W
  src : Src w0.heap.size w0.heap.size W
  gR : w0.heap.size < g
  box : W.heap[g]? = some (lnsO dp A n c)
  sto : StoI (D2 w0.heap.size g) W A L c
  len : L.length = n
section
variable {w0 W W' : World} {g y n : Nat} {dp : Int} {A A' : Option Addr} {L L' : List (List Bg)} {c c' : Nat}
theorem KpS.lt (h : KpS w0 g dp n L A c W) : g < W.heap.size := (Array.getElem?_eq_some_iff.1 h.box).1
theorem KpS.old (h : KpS w0 g dp n L A c W) : Old (D2 w0.heap.size g) W := fun b e => by
  have := h.lt; have := h.gR
  rcases e with rfl | rfl <;> omega
theorem KpS.below (h : KpS w0 g dp n L A c W) (hb : Below W.heap.size W W') : KpS w0 g dp n L A c W' := ⟨onward h.bel hb, h.src.keep hb, h.gR, heap_below h.box hb, h.sto.below hb, h.len⟩
theorem KpS.read (h : KpS w0 g dp n L A c W) (hs : Src w0.heap.size w0.heap.size W') (hg : W.grownBy W' (some w0.heap.size)) : KpS w0 g dp n L A c W' :=
  ⟨below_reads h.bel hg (Nat.le_refl _) h.bel.size, hs, h.gR, (hg.block g h.lt (fun e => by injection e with e; have := h.gR; omega)).trans h.box, h.sto.keep (KepS.grown hg (.inl rfl)), h.len⟩
theorem KpS.row (h : KpS w0 g dp n L A c W) (cs : Array Value) : Src w0.heap.size w0.heap.size (W.setRow g cs) := h.src.grown (grown_row W g cs) (fun k e => by injection e with e; have := h.gR; omega)
theorem KpS.put (h : KpS w0 g dp n L A c W) (k : StoI (D2 w0.heap.size g) W A' L' c') (hl : L'.length = n) : KpS w0 g dp n L' A' c' (W.setRow g #[.int .i64 dp, .slice A' n c']) :=
  ⟨below_row h.bel (Nat.le_of_lt h.gR) _, h.row _, h.gR, setRow_heap W g _ _ _ _ h.box, k.keep (KepS.setRow W _ (.inr rfl)), hl⟩
/-- A store just made: its box is allotted. -/
theorem KpS.start (hb : Below w0.heap.size w0 W) (hs : Src w0.heap.size w0.heap.size W) (k : StoI (fun b => b = w0.heap.size) W A L c) (hl : L.length = n) : KpS w0 W.heap.size dp n L A c (W.alloc (lnsO dp A n c)) := by
  have b1 := below_new (Below.refl W.heap.size W) (lnsO dp A n c)
  exact ⟨onward hb b1, hs.keep b1, hs.lt, heap_alloc_new W _, (k.mono fun b hb e => e.elim id (fun e => absurd e (by omega))).below b1, hl⟩
/-- A box for another store is there. -/
structure KpY (w0 : World) (g : Nat) (dp : Int) (n : Nat) (L : List (List Bg)) (A : Option Addr) (c : Nat) (y : Nat) (W : World) : Prop where
  st : KpS w0 g dp n L A c W
  yb : W.heap[y]? = some (lnsO 0 none 0 0)
  sto : StoI (fun b => D2 w0.heap.size g b ∨ b = y) W A L c
  ne : y ≠ g ∧ w0.heap.size < y
theorem KpY.lt (h : KpY w0 g dp n L A c y W) : y < W.heap.size := (Array.getElem?_eq_some_iff.1 h.yb).1
theorem KpY.start (h : KpS w0 g dp n L A c W) : KpY w0 g dp n L A c W.heap.size (W.alloc (lnsO 0 none 0 0)) := by
  have b1 := below_new (Below.refl W.heap.size W) (lnsO 0 none 0 0)
  have := h.lt; have := h.gR
  exact ⟨h.below b1, heap_alloc_new W _, (h.sto.mono fun b hb e => e.elim id fun e => absurd e (by omega)).below b1, by omega, by omega⟩
theorem KpY.old (h : KpY w0 g dp n L A c y W) : Old (fun b => D2 w0.heap.size g b ∨ b = y) W := fun b e => by
  have := h.lt
  rcases e with e | e
  · exact h.st.old b e
  · omega
theorem KpY.below (h : KpY w0 g dp n L A c y W) (hb : Below W.heap.size W W') : KpY w0 g dp n L A c y W' := ⟨h.st.below hb, heap_below h.yb hb, h.sto.below hb, h.ne⟩
theorem KpY.read (h : KpY w0 g dp n L A c y W) (hs : Src w0.heap.size w0.heap.size W') (hg : W.grownBy W' (some w0.heap.size)) : KpY w0 g dp n L A c y W' :=
  ⟨h.st.read hs hg, (hg.block y h.lt (fun e => by injection e with e; have := h.ne; omega)).trans h.yb, h.sto.keep (KepS.grown hg (.inl (.inl rfl))), h.ne⟩
/-- Another store stands in its box. -/
structure KpN (w0 : World) (g : Nat) (dp : Int) (n : Nat) (L : List (List Bg)) (A : Option Addr) (c : Nat) (y : Nat) (L' : List (List Bg)) (A' : Option Addr) (c' : Nat) (W : World) : Prop where
  st : KpS w0 g dp n L A c W
  yb : W.heap[y]? = some (lnsO dp A' n c')
  new : StoI (D2 w0.heap.size g) W A' L' c'
theorem KpN.one (h : KpS w0 g dp n L A c W) (s : StoI (D2 w0.heap.size g) W A' L' c') : KpN w0 g dp n L A c W.heap.size L' A' c' ((W.alloc (lnsO 0 none 0 0)).setRow W.heap.size #[.int .i64 dp, .slice A' n c']) := by
  have b1 := below_row (below_new (Below.refl W.heap.size W) (lnsO 0 none 0 0)) (Nat.le_refl _) #[.int .i64 dp, .slice A' n c']
  exact ⟨h.below b1, setRow_heap _ _ _ _ _ _ (heap_alloc_new W _), s.below b1⟩
theorem KpN.new1 (h : KpS w0 g dp n L A c W) (s : StoI (D2 w0.heap.size g) W A' L' c') : KpN w0 g dp n L A c W.heap.size L' A' c' (W.alloc (lnsO dp A' n c')) := by
  have b1 := below_new (Below.refl W.heap.size W) (lnsO dp A' n c')
  exact ⟨h.below b1, heap_alloc_new W _, s.below b1⟩
theorem KpN.two (h : KpY w0 g dp n L A c y W) (s : StoI (fun b => D2 w0.heap.size g b ∨ b = y) W A' L' c') : KpN w0 g dp n L A c y L' A' c' (W.setRow y #[.int .i64 dp, .slice A' n c']) := by
  have hy := h.ne
  refine ⟨⟨below_row h.st.bel (by omega) _, h.st.src.grown (grown_row W y _) (fun k e => by injection e with e; omega), h.st.gR, by rw [setRow_other _ _ _ _ (Ne.symm hy.1)]; exact h.st.box, (h.sto.keep (KepS.setRow W _ (.inr rfl))).mono fun b _ e => .inl e, h.st.len⟩, setRow_heap _ _ _ _ _ _ h.yb, (s.keep (KepS.setRow W _ (.inr rfl))).mono fun b _ e => .inl e⟩
theorem KpN.below (h : KpN w0 g dp n L A c y L' A' c' W) (hb : Below W.heap.size W W') : KpN w0 g dp n L A c y L' A' c' W' := ⟨h.st.below hb, heap_below h.yb hb, h.new.below hb⟩
theorem KpN.take (k : KpN w0 g dp n L A c y L' A' c' W) (hl : L'.length = n) : KpS w0 g dp n L' A' c' (W.setRow g #[.int .i64 dp, .slice A' n c']) := k.st.put k.new hl
end
/-- The bags that are in. -/
def InK (L : List (List Bg)) (i : Nat) : Prop := L.flatten.length = i ∧ ∀ v : Int, v ∈ L.flatten.map (·.1) ↔ 1 ≤ v ∧ v ≤ i
theorem InK.zero (n : Nat) : InK (List.replicate n []) 0 := by
  have e : (List.replicate n ([] : List Bg)).flatten = [] := by simp
  rw [InK, e]
  exact ⟨rfl, fun v => ⟨fun h => absurd h (by simp), fun h => by omega⟩⟩
theorem InK.step {L L' : List (List Bg)} {i : Nat} {x : Int} (h : InK L i) (hp : L'.flatten.Perm (L.flatten ++ [(((i + 1 : Nat) : Int), x)])) : InK L' (i + 1) := by
  refine ⟨by rw [hp.length_eq, List.length_append, h.1]; rfl, fun v => ?_⟩
  rw [(hp.map (·.1)).mem_iff, List.map_append, List.mem_append, h.2 v]
  simp only [List.map_cons, List.map_nil, List.mem_singleton]
  omega
/-- Putting bag i + 1 into two lanes of six. -/
theorem fill_put {L : List (List Bg)} {i : Nat} {x : Int} (h : ValL 6 L) (hl : L.length = 2) (hk : InK L i) (hi : i < 10) (hx : 0 ≤ x ∧ x ≤ 1048576) :
    ∃ k, putS 6 L (((i + 1 : Nat) : Int), x) = (L.set k (L.getD k [] ++ [(((i + 1 : Nat) : Int), x)]), k, 0) ∧ ValL 6 (L.set k (L.getD k [] ++ [(((i + 1 : Nat) : Int), x)])) ∧ InK (L.set k (L.getD k [] ++ [(((i + 1 : Nat) : Int), x)])) (i + 1) := by
  obtain ⟨k, h1, h2, h3, h4⟩ := put_room (s := (((i + 1 : Nat) : Int), x)) h ⟨⟨by show (1 : Int) ≤ ((i + 1 : Nat) : Int); omega, by show ((i + 1 : Nat) : Int) ≤ 40; omega⟩, hx⟩ (fun hm => by
    have := (hk.2 _).1 hm
    have e : ((((i + 1 : Nat) : Int), x) : Bg).1 = ((i + 1 : Nat) : Int) := rfl
    omega) (two_room hl (by rw [hk.1]; omega))
  exact ⟨k, h2, h3, hk.step h4⟩
theorem ValL.shrink {dp f : Nat} {L : List (List Bg)} {l' : List Bg} (h : ValL dp L) (hf : f < L.length) (hs : l'.Sublist (L.getD f [])) : ValL dp (L.set f l') := by
  have hfl : ∀ {L : List (List Bg)} {f : Nat}, l'.Sublist (L.getD f []) → f < L.length → (L.set f l').flatten.Sublist L.flatten := fun {L} => by
    induction L with
    | nil => intro f _ h; exact absurd h (Nat.not_lt_zero _)
    | cons a L ih =>
      intro f hs hf
      cases f with
      | zero => exact List.Sublist.append hs (List.Sublist.refl _)
      | succ f => exact List.Sublist.append (List.Sublist.refl _) (ih (f := f) hs (Nat.lt_of_succ_lt_succ hf))
  refine ⟨h.d, by rw [List.length_set]; exact h.n, fun l hl => ?_, fun l hl t ht => ?_, ?_⟩
  · rcases List.mem_or_eq_of_mem_set hl with e | rfl
    · exact h.len l e
    · exact Nat.le_trans hs.length_le (h.len _ (mem_at hf))
  · rcases List.mem_or_eq_of_mem_set hl with e | rfl
    · exact h.bag l e t ht
    · exact h.bag _ (mem_at hf) t (hs.subset ht)
  · exact h.one.sublist ((hfl hs hf).map _)
/-- What stands before the bag, then the bag: each is at the front when it is its turn. -/
theorem front_take {L : List (List Bg)} {f : Nat} {s : Bg} {pre r : List Bg} (h : ValL 6 L) (hf : f < L.length) (hl : L.getD f [] = pre ++ s :: r) {k : Nat} (hk : k < (pre ++ [s]).length) :
    ValL 6 (L.set f ((pre ++ [s]).drop k ++ r)) ∧ takeS (L.set f ((pre ++ [s]).drop k ++ r)) ((pre ++ [s]).getD k (0, 0)).1 = (L.set f ((pre ++ [s]).drop (k + 1) ++ r), [], 0) := by
  have hl' : L.getD f [] = (pre ++ [s]) ++ r := by rw [hl]; simp
  have hv : ValL 6 (L.set f ((pre ++ [s]).drop k ++ r)) := h.shrink hf (by rw [hl']; exact List.Sublist.append (List.drop_sublist _ _) (List.Sublist.refl _))
  refine ⟨hv, ?_⟩
  have hd : (pre ++ [s]).drop k ++ r = (pre ++ [s]).getD k (0, 0) :: ((pre ++ [s]).drop (k + 1) ++ r) := by
    rw [List.drop_eq_getElem_cons hk, ← getElem_getD hk]; rfl
  have h1 := take_head hv.one (f := f) (s := (pre ++ [s]).getD k (0, 0)) (r := (pre ++ [s]).drop (k + 1) ++ r) (by rw [List.length_set]; exact hf) (by rw [getD_set hf, if_pos rfl, hd])
  rw [h1, List.set_set]
theorem front_all {L : List (List Bg)} {f : Nat} {s : Bg} {pre r : List Bg} (hf : f < L.length) (hl : L.getD f [] = pre ++ s :: r) : L.set f ((pre ++ [s]).drop 0 ++ r) = L := by
  have e : (pre ++ [s]).drop 0 ++ r = L.getD f [] := by rw [hl]; simp
  rw [e]
  refine ext_getD (d := []) (by rw [List.length_set]) fun i hi => ?_
  rw [getD_set hf]
  by_cases e : f = i
  · rw [if_pos e, e]
  · rw [if_neg e]
end Go.Proofs.Ytmmhchhekmcihaa
