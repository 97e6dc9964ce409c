/-
  Contracts of indices; rows of nodes that are built.
-/
import Derived.Test.YtfddpdognelhmaaGreatDoorNumR
import Derived.Test.YtfddpdognelhmaaGreatDoorLayR

/- LayU: The layout that lines say: plain mathematics; contract of indices; rows of nodes and devices under construction. -/
namespace Go.Proofs.YtfddpdognelhmaaGreatDoor
open Go.RowKit

/-- Some numbers, in a row known whole. -/
def IntRow (b : Nat) (w : World) (A : Option Addr) (l : List Int) : Prop :=
  0 < l.length → ∃ g cs fz, A = some ⟨g, 0, none⟩ ∧ g ≠ b ∧ w.heap[g]? = some (.cells cs 3 fz) ∧ ∀ i, i < l.length → cs[i]? = some (.int .i64 (l.getD i 0))
theorem IntRow.step {b : Nat} {w w1 : World} {A : Option Addr} {l : List Int} (h : IntRow b w A l) (k : KeepTy 3 w w1) : IntRow b w1 A l := fun hn => by
  obtain ⟨g, cs, fz, hA, hb, hg, hc⟩ := h hn
  exact ⟨g, cs, fz, hA, hb, k _ _ _ hg, hc⟩
theorem IntRow.nums {b : Nat} {w : World} {A : Option Addr} {l : List Int} (h : IntRow b w A l) : NumsIn b w A l := fun hn => by
  obtain ⟨g, cs, fz, hA, hb, hg, hc⟩ := h hn
  exact ⟨g, 0, hA, hb, fun i hi => by rw [Nat.zero_add, Lib.cell_of_heap hg]; exact hc i hi⟩
theorem IntRow.own {b base cap : Nat} {w : World} {A : Option Addr} {l : List Int} (h : w.ownsRow base 3 1 (.slice A l.length cap) l.length (l.map (Value.int .i64))) (hb : b < base) : IntRow b w A l := fun hn => by
  rcases h.2 with ⟨_, h0⟩ | ⟨g, cap', cur, hv, hbg, hg, _, _, _, ht⟩
  · omega
  · injection hv with hA
    refine ⟨g, cur, _, hA, by omega, hg, fun i hi => ?_⟩
    rw [← Array.getElem?_toList]
    have : (cur.toList.take (l.length * 1))[i]? = some (.int .i64 (l.getD i 0)) := by
      rw [ht, List.getElem?_map, List.getElem?_eq_getElem hi, at_k hi]; rfl
    rw [List.getElem?_take] at this
    split at this
    · exact this
    · cases this
theorem own_cap {w : World} {B : Nat} {e : TypeId} {size : Nat} {A : Option Addr} {n c m : Nat} {xs : List Value} (h : w.ownsRow B e size (.slice A n c) m xs) : m ≤ c := by
  rcases h.2 with ⟨_, h0⟩ | ⟨g, cap, cur, h1, _, _, h3, _⟩
  · omega
  · injection h1 with _ _ h1; omega

def idxF (l : List Nd) (ns : List ByteArray) : List Int := ns.map (findI l)
theorem idxF_len (l : List Nd) (ns : List ByteArray) : (idxF l ns).length = ns.length := by unfold idxF; simp
theorem idxF_step {l : List Nd} {ns : List ByteArray} {k : Nat} (h : k < ns.length) : idxF l (ns.take (k + 1)) = idxF l (ns.take k) ++ [findI l (ns.getD k ByteArray.empty)] := by
  unfold idxF
  rw [List.take_succ_eq_append_getElem h, List.map_append, at_k h]; rfl
set_option maxHeartbeats 4000000 in
theorem lindices_any (b : Nat) (l : List Nd) (ns : List ByteArray) (A B : Option Addr) (c d : Nat) (w : World) (hz : ns.length ≤ 3000) (hz2 : l.length ≤ 1000000) (h : NdsIn b w A l) (hi : StrsIn b w B ns) :
    Calls Tryz.prog 71 #[.slice A l.length c, .slice B ns.length d] w (IntsO (idxF l ns) w) := by
  obtain ⟨i0, hi1, hz0, hz1, hz2'⟩ := info_parts linfo_int
  have Hi := hide hi1
  have Hz0 := hide hz0
  have Hz1 := hide hz1
  have Hz2 := hide hz2'
  have HI := hide h
  have HN := hide hi
  clear hi1 hz0 hz1 hz2' h hi
  go_enter Tryz.func71, Tryz.ntmps71
  go_wp2
  go_loopw [5, 10] (fun v i wr => ∃ k : Nat, k ≤ ns.length ∧ i = .int .i64 k ∧ Hid (wr.ownsRow w.heap.size 3 1 v k ((idxF l (ns.take k)).map (Value.int .i64))) ∧ Hid (Below w.heap.size w wr)) (fun _ i _ => ns.length - (intOf i).toNat)
  case atStart => exact ⟨0, Nat.zero_le _, rfl, Lib.hid ⟨rfl, .inl ⟨rfl, rfl⟩⟩, Lib.hid (Below.refl _ _)⟩
  case round =>
    obtain ⟨k, hk, rfl, ho, hb⟩ := hrel
    obtain ⟨wo, rfl⟩ : ∃ wo : World, wo = wr := ⟨_, rfl⟩
    by_cases hlt : k < ns.length
    · obtain ⟨g', off', rfl, _, hc'⟩ := ((unhide HN).keep hb.out) (by omega)
      have y0 := hc' k hlt
      clear hc'
      have HS := hide (idxF_step (l := l) hlt)
      have HF := hide (lfind_any b l (ns.getD k ByteArray.empty) A c wo hz2 ((unhide HI).keep hb.out))
      generalize ns.getD k ByteArray.empty = nm at *
      generalize hff : findI l nm = f at *
      clear hff
      have HO := hide ho.out
      have HML := hide (show (idxF l (ns.take k)).length = k by rw [idxF_len, List.length_take]; omega)
      generalize idxF l (ns.take k) = M at *
      clear ho
      have hbs := hb.out.size
      have kl : (k : Int) < (ns.length : Int) := by omega
      have k0 : (0 : Int) ≤ (k : Int) := by omega
      go_wp2_with fail
      refine (unhide HF).mono ?_
      rintro e w1 ⟨rfl, hb1⟩
      have HO1 := hide (owns_later (unhide HO) hb1)
      have HB1 := hide (onward hb.out hb1)
      have hbs1 := (unhide HB1).size
      clear hb1 y0
      go_wp2_with (first
        | (at_builtin; refine wpList_append_own _ rfl _ _ 26 rfl w.heap.size 3 i0 (.int .i64 0) 1 8 Tryz.underlying26 (unhide Hi) (unhide Hz0) (unhide Hz1) (unhide Hz2) rfl (by decide) _ _ _ rfl ((unhide HO1).alloc _) ⟨w1.heap.size, 0, none⟩ 1 1 [.int .i64 f] rfl rfl ?c1 ?c2 ?c3 ?c4 ?c5 ?_))
      case c1 => exact lone_new w1 _ _
      case c2 =>
        intro u hu
        simp at hu
        subst hu
        rfl
      case c3 => unfold maxLen; omega
      case c4 => omega
      case c5 => rw [World.size_alloc]; omega
      intro v' w2 hown2 hgrow _
      have HR2 := hide hown2
      have HB2 := hide (((unhide HB1).alloc hbs1 _).grown hgrow (by rw [World.size_alloc]; omega) (fun g hg => ((unhide HO1).lt g hg).1))
      clear hown2 hgrow
      go_wp2
      go_roundw
      case rel => exact ⟨k + 1, by omega, by go_num, Lib.hid (by rw [unhide HS, List.map_append]; exact unhide HR2), Lib.hid (unhide HB2)⟩
      case measure => simp [intOf]; omega
    · have kl : ¬ (k : Int) < (ns.length : Int) := by omega
      obtain rfl : k = ns.length := by omega
      have HO := hide ho.out
      clear ho
      go_wp2
      go_ret
      refine ⟨_, rfl, ?_, hb.out⟩
      have := unhide HO
      rw [List.take_length] at this
      rw [idxF_len]
      exact this

/-- A node with its slice of exits. -/
structure NdS where
  x : Nd
  P : Option Addr
  c : Nat
def NdS.cs (u : NdS) : List Value := [.string u.x.name, .int .i64 u.x.kind, .int .i64 u.x.len, .int .i64 u.x.zone, .slice u.P u.x.exits.length u.c]
def nds0 : NdS := ⟨nd0, none, 0⟩
def ndsV (us : List NdS) : List Value := us.flatMap NdS.cs
def dvC (d : Dv) : List Value := [.int .i64 d.kind, .int .i64 d.node, .int .i64 d.win]
def dvsV (ds : List Dv) : List Value := ds.flatMap dvC
theorem ndsV_at (us : List NdS) (i : Nat) (h : i < us.length) (j : Nat) (hj : j < 5) : (ndsV us)[i * 5 + j]? = (us.getD i nds0).cs[j]? := by
  unfold ndsV
  induction us generalizing i with
  | nil => simp at h
  | cons u us ih =>
    rw [List.flatMap_cons]
    cases i with
    | zero => rw [Nat.zero_mul, Nat.zero_add, List.getElem?_append_left (by show j < 5; exact hj)]; rfl
    | succ i =>
      rw [show (i + 1) * 5 + j = 5 + (i * 5 + j) by omega, List.getElem?_append_right (by show 5 ≤ _; omega), show u.cs.length = 5 from rfl, Nat.add_sub_cancel_left]
      exact ih i (by simpa using h)
theorem dvsV_at (us : List Dv) (i : Nat) (h : i < us.length) (j : Nat) (hj : j < 3) : (dvsV us)[i * 3 + j]? = (dvC (us.getD i dv0))[j]? := by
  unfold dvsV
  induction us generalizing i with
  | nil => simp at h
  | cons u us ih =>
    rw [List.flatMap_cons]
    cases i with
    | zero => rw [Nat.zero_mul, Nat.zero_add, List.getElem?_append_left (by show j < 3; exact hj)]; rfl
    | succ i =>
      rw [show (i + 1) * 3 + j = 3 + (i * 3 + j) by omega, List.getElem?_append_right (by show 3 ≤ _; omega), show (dvC u).length = 3 from rfl, Nat.add_sub_cancel_left]
      exact ih i (by simpa using h)
theorem ndsV_set (us : List NdS) (i : Nat) (h : i < us.length) (es : List Int) (P : Option Addr) (c : Nat) :
    ndsV (us.set i ⟨{ (us.getD i nds0).x with exits := es }, P, c⟩) = (ndsV us).set (i * 5 + 4) (.slice P es.length c) := by
  unfold ndsV
  induction us generalizing i with
  | nil => simp at h
  | cons u us ih =>
    cases i with
    | zero => rfl
    | succ i =>
      rw [List.set_cons_succ, List.flatMap_cons, List.flatMap_cons, List.set_append_right _ _ (by show 5 ≤ _; omega), show u.cs.length = 5 from rfl, show (i + 1) * 5 + 4 - 5 = i * 5 + 4 by omega]
      rw [← ih i (by simpa using h)]
      rfl
theorem own_cell {w : World} {B m n c : Nat} {t : TypeId} {size : Nat} {A : Option Addr} {xs : List Value} (h : w.ownsRow B t size (.slice A n c) m xs) (hm : 0 < m) : ∃ g, A = some ⟨g, 0, none⟩ ∧ B ≤ g ∧ ∀ j u, xs[j]? = some u → w.cell? ⟨g, j, none⟩ = some u := by
  rcases h.2 with ⟨_, h0⟩ | ⟨g, cap', cur, hv, hb, hg, _, _, _, ht⟩
  · omega
  · injection hv with hA
    refine ⟨g, hA, hb, fun j u hu => ?_⟩
    rw [Lib.cell_of_heap hg, ← Array.getElem?_toList]
    rw [← ht, List.getElem?_take] at hu
    split at hu
    · exact hu
    · cases hu
theorem nds_own {b B n c : Nat} {w : World} {A : Option Addr} {us : List NdS} (h : w.ownsRow B 45 5 (.slice A n c) us.length (ndsV us)) (hb : b < B) (hl : ∀ u ∈ us, IntRow b w u.P u.x.exits ∧ u.x.exits.length ≤ u.c) : NdsIn b w A (us.map (·.x)) := fun hn => by
  rw [List.length_map] at hn
  obtain ⟨g, hA, hg, hc⟩ := own_cell h hn
  refine ⟨g, 0, hA, by omega, fun i hi => ?_⟩
  rw [List.length_map] at hi
  have k : ∀ j v, j < 5 → (us.getD i nds0).cs[j]? = some v → w.cell? ⟨g, 0 + i * 5 + j, none⟩ = some v := fun j v hj hv => by
    rw [Nat.zero_add]
    exact hc _ _ (by rw [ndsV_at us i hi j hj]; exact hv)
  have e : (us.map (·.x)).getD i nd0 = (us.getD i nds0).x := by
    rw [at_k (by rw [List.length_map]; exact hi), at_k hi, List.getElem_map]
  rw [e]
  have hm : us.getD i nds0 ∈ us := by rw [at_k hi]; exact List.getElem_mem _
  exact ⟨k 0 _ (by omega) rfl, k 1 _ (by omega) rfl, k 2 _ (by omega) rfl, k 3 _ (by omega) rfl, _, _, k 4 _ (by omega) rfl, (hl _ hm).2, (hl _ hm).1.nums⟩
theorem dvs_own {b B n c : Nat} {w : World} {A : Option Addr} {ds : List Dv} (h : w.ownsRow B 57 3 (.slice A n c) ds.length (dvsV ds)) (hb : b < B) : DvsIn b w A ds := fun hn => by
  obtain ⟨g, hA, hg, hc⟩ := own_cell h hn
  refine ⟨g, 0, hA, by omega, fun i hi => ?_⟩
  have k : ∀ j v, j < 3 → (dvC (ds.getD i dv0))[j]? = some v → w.cell? ⟨g, 0 + i * 3 + j, none⟩ = some v := fun j v hj hv => by
    rw [Nat.zero_add]
    exact hc _ _ (by rw [dvsV_at ds i hi j hj]; exact hv)
  exact ⟨k 0 _ (by omega) rfl, k 1 _ (by omega) rfl, k 2 _ (by omega) rfl⟩
end Go.Proofs.YtfddpdognelhmaaGreatDoor

/- LayV: The layout that lines say: plain mathematics. -/
namespace Go.Proofs.YtfddpdognelhmaaGreatDoor

def isDv (x : Ln) : Bool := decide (9 < x.kind)
def ndOf (x : Ln) : Nd := ⟨x.name, x.kind, x.len, x.zone, []⟩
/-- The first n lines are nodes, the others devices. -/
def SplitL (ls : List Ln) (n : Nat) : Prop := n ≤ ls.length ∧ ∀ i, i < ls.length → isDv (ls.getD i ln0) = decide (n ≤ i)
def LnG (x : Ln) : Prop := 0 ≤ x.kind ∧ x.kind ≤ 11 ∧ x.oth.length ≤ 6 ∧ (9 < x.kind → 0 < x.oth.length)
theorem lnFold_kind (k : Nat) (ws : List ByteArray) : ∀ n, (lnFold k ws n).kind = (k : Int)
  | 0 => rfl
  | n + 1 => by
    show (rdStep (lnFold k ws n) _ _).kind = _
    rw [rdStep_kind, lnFold_kind k ws n]
theorem readF_good {s : ByteArray} {x : Ln} (h : readF s = some x) : LnG x := by
  unfold readF readW at h
  split at h
  · split at h
    · have hx := Option.some.inj h
      have hk : lnKind (splitC 32 s) < 12 := kindF_lt _
      have hf := kf_few hk
      refine ⟨?_, ?_, ?_, fun h9 => ?_⟩
      · rw [← hx, lnFold_kind]; omega
      · rw [← hx, lnFold_kind]; omega
      · rw [← hx]; have := lnFold_oth (lnKind (splitC 32 s)) (splitC 32 s) (kfS (lnKind (splitC 32 s))).size; omega
      · rw [← hx, lnFold_kind] at h9
        rw [← hx]
        generalize lnKind (splitC 32 s) = k at *
        have : k = 10 ∨ k = 11 := by omega
        rcases this with rfl | rfl
        · show 0 < (lnFold 10 (splitC 32 s) 2).oth.length
          exact Nat.lt_succ_self 0
        · show 0 < (lnFold 11 (splitC 32 s) 2).oth.length
          exact Nat.lt_succ_self 0
    · cases h
  · cases h
theorem getD_snoc_lt {α : Type} {l : List α} {x d : α} {i : Nat} (h : i < l.length) : (l ++ [x]).getD i d = l.getD i d := by
  rw [at_k (by rw [List.length_append]; omega), at_k h, List.getElem_append_left h]
theorem getD_snoc_eq {α : Type} {l : List α} {x d : α} : (l ++ [x]).getD l.length d = x := by
  rw [at_k (by rw [List.length_append, List.length_singleton]; omega)]
  simp
theorem split_snoc {ls : List Ln} {n : Nat} {x : Ln} (h : SplitL ls n) (hf : folB ls x = true) : ∃ m, SplitL (ls ++ [x]) m := by
  obtain ⟨h1, h2⟩ := h
  cases hx : isDv x with
  | true =>
    refine ⟨n, by rw [List.length_append]; omega, fun i hi => ?_⟩
    rw [List.length_append, List.length_singleton] at hi
    by_cases e : i = ls.length
    · subst e; rw [getD_snoc_eq, hx, decide_eq_true h1]
    · rw [getD_snoc_lt (by omega)]; exact h2 i (by omega)
  | false =>
    have hn : n = ls.length := by
      unfold folB at hf
      rw [show decide (9 < x.kind) = false from hx, Bool.false_or, Bool.or_eq_true, decide_eq_true_eq] at hf
      by_cases e : ls.length = 0
      · omega
      · have h3 := hf.resolve_left e
        have h4 := h2 (ls.length - 1) (by omega)
        unfold isDv at h4
        rw [h4] at h3
        have : ¬ n ≤ ls.length - 1 := by simpa using h3
        omega
    refine ⟨ls.length + 1, by rw [List.length_append, List.length_singleton]; omega, fun i hi => ?_⟩
    rw [List.length_append, List.length_singleton] at hi
    rw [decide_eq_false (by omega)]
    by_cases e : i = ls.length
    · subst e; rw [getD_snoc_eq, hx]
    · rw [getD_snoc_lt (by omega), h2 i (by omega), decide_eq_false (by omega)]
theorem linesG_good : ∀ (f : Nat) (acc : List Ln) (s : ByteArray), (∀ x ∈ acc, LnG x) → (∃ n, SplitL acc n) → (∀ x ∈ (linesG f acc s).1, LnG x) ∧ ∃ n, SplitL (linesG f acc s).1 n
  | 0, acc, s, h1, h2 => ⟨h1, h2⟩
  | f + 1, acc, s, h1, h2 => by
    unfold linesG
    split
    · exact ⟨h1, h2⟩
    · split
      · exact ⟨h1, h2⟩
      · split
        · exact ⟨h1, h2⟩
        · rename_i x hx
          split
          · rename_i hf
            obtain ⟨n, hn⟩ := h2
            refine linesG_good f _ _ (fun y hy => ?_) (split_snoc hn hf)
            rcases List.mem_append.1 hy with hy | hy
            · exact h1 y hy
            · rw [List.mem_singleton.1 hy]; exact readF_good hx
          · exact ⟨h1, h2⟩
theorem linesF_good (s : ByteArray) : (∀ x ∈ (linesF s).1, LnG x) ∧ ∃ n, SplitL (linesF s).1 n :=
  linesG_good _ _ _ (fun _ h => (nomatch h)) ⟨0, Nat.le_refl 0, fun _ hi => absurd hi (Nat.not_lt_zero _)⟩

/-- The nodes of the first n lines, of which the first k have their exits. -/
def ndsU (ls : List Ln) (m : Nat) : List Nd := (List.range m).map fun i => ndOf (ls.getD i ln0)
def exAt (ls : List Ln) (N : List Nd) (k i : Nat) : Nd := if i < k then { ndOf (ls.getD i ln0) with exits := idxF N (ls.getD i ln0).oth } else ndOf (ls.getD i ln0)
def setEx (ls : List Ln) (n k : Nat) : List Nd := (List.range n).map (exAt ls (ndsU ls n) k)
def dvOf (N : List Nd) (x : Ln) : Dv := ⟨x.kind - 9, findI N (x.oth.getD 0 ByteArray.empty), x.win⟩
def dvsU (ls : List Ln) (n k : Nat) : List Dv := (List.range (k - n)).map fun i => dvOf (ndsU ls n) (ls.getD (n + i) ln0)
def missB (N : List Nd) (x : Ln) : Bool := (idxF N x.oth).contains (-1)
/-- The layout that lines say, or the number of the first line that names no node. -/
def buildL (ls : List Ln) (n : Nat) : Lay × Int :=
  match (List.range ls.length).find? fun i => missB (ndsU ls n) (ls.getD i ln0) with
  | some i => (⟨[], []⟩, (i : Int) + 1)
  | none => (⟨setEx ls n ls.length, dvsU ls n ls.length⟩, 0)
theorem buildL_hit {ls : List Ln} {n k : Nat} (hk : k < ls.length) (h : ∀ j, j < k → missB (ndsU ls n) (ls.getD j ln0) = false) (h1 : missB (ndsU ls n) (ls.getD k ln0) = true) : buildL ls n = (⟨[], []⟩, (k : Int) + 1) := by
  unfold buildL
  rw [show (List.range ls.length).find? (fun i => missB (ndsU ls n) (ls.getD i ln0)) = some k from by
    rw [List.find?_eq_some_iff_getElem]
    refine ⟨h1, k, by simpa using hk, by rw [List.getElem_range], fun j hj => ?_⟩
    rw [List.getElem_range, h j hj]; rfl]
theorem buildL_no {ls : List Ln} {n : Nat} (h : ∀ j, j < ls.length → missB (ndsU ls n) (ls.getD j ln0) = false) : buildL ls n = (⟨setEx ls n ls.length, dvsU ls n ls.length⟩, 0) := by
  unfold buildL
  rw [show (List.range ls.length).find? (fun i => missB (ndsU ls n) (ls.getD i ln0)) = none from by
    rw [List.find?_eq_none]
    intro j hj
    rw [h j (by simpa using hj)]; exact Bool.false_ne_true]
theorem ndsU_len (ls : List Ln) (m : Nat) : (ndsU ls m).length = m := by unfold ndsU; simp
theorem ndsU_succ (ls : List Ln) (m : Nat) : ndsU ls (m + 1) = ndsU ls m ++ [ndOf (ls.getD m ln0)] := by
  unfold ndsU; rw [List.range_succ, List.map_append]; rfl
theorem setEx_zero (ls : List Ln) (n : Nat) : setEx ls n 0 = ndsU ls n := by
  unfold setEx ndsU
  congr 1
theorem setEx_len (ls : List Ln) (n k : Nat) : (setEx ls n k).length = n := by unfold setEx; simp
theorem setEx_more (ls : List Ln) (n k : Nat) (h : n ≤ k) : setEx ls n (k + 1) = setEx ls n k := by
  unfold setEx
  apply List.map_congr_left
  intro i hi
  have hi' : i < n := by simpa using hi
  unfold exAt
  rw [if_pos (by omega), if_pos (by omega)]
theorem setEx_at {ls : List Ln} {n k i : Nat} (h : i < n) : (setEx ls n k).getD i nd0 = exAt ls (ndsU ls n) k i := by
  rw [at_k (by rw [setEx_len]; exact h)]
  unfold setEx
  rw [List.getElem_map, List.getElem_range]
theorem setEx_set {ls : List Ln} {n k : Nat} (h : k < n) : (setEx ls n k).set k { (setEx ls n k).getD k nd0 with exits := idxF (ndsU ls n) (ls.getD k ln0).oth } = setEx ls n (k + 1) := by
  rw [setEx_at h]
  apply List.ext_getElem
  · rw [List.length_set, setEx_len, setEx_len]
  · intro i h1 h2
    rw [List.length_set, setEx_len] at h1
    rw [List.getElem_set]
    have e2 : (setEx ls n (k + 1))[i] = exAt ls (ndsU ls n) (k + 1) i := (at_k (d := nd0) (by rw [setEx_len]; exact h1)).symm.trans (setEx_at h1)
    rw [e2]
    by_cases e : k = i
    · subst e
      rw [if_pos rfl]
      unfold exAt
      rw [if_neg (Nat.lt_irrefl _), if_pos (Nat.lt_succ_self _)]
    · rw [if_neg e]
      have e1 : (setEx ls n k)[i]'(by rw [setEx_len]; exact h1) = exAt ls (ndsU ls n) k i := (at_k (d := nd0) (by rw [setEx_len]; exact h1)).symm.trans (setEx_at h1)
      rw [e1]
      unfold exAt
      by_cases h3 : i < k
      · rw [if_pos h3, if_pos (by omega)]
      · rw [if_neg h3, if_neg (by omega)]
theorem dvsU_succ {ls : List Ln} {n k : Nat} (h : n ≤ k) : dvsU ls n (k + 1) = dvsU ls n k ++ [dvOf (ndsU ls n) (ls.getD k ln0)] := by
  unfold dvsU
  rw [show k + 1 - n = (k - n) + 1 by omega, List.range_succ, List.map_append]
  show _ ++ [dvOf _ (ls.getD (n + (k - n)) ln0)] = _
  rw [show n + (k - n) = k by omega]
theorem dvsU_none {ls : List Ln} {n k : Nat} (h : k ≤ n) : dvsU ls n k = [] := by
  unfold dvsU; rw [show k - n = 0 by omega]; rfl
theorem findI_names {l l' : List Nd} (h : l.map Nd.name = l'.map Nd.name) (s : ByteArray) : findI l s = findI l' s := by
  have hl : l.length = l'.length := by have := congrArg List.length h; simpa using this
  have e : ∀ l : List Nd, findN l s = (l.map Nd.name).findIdx fun x => decide (x = s) := fun l => by
    unfold findN; rw [List.findIdx_map]; rfl
  unfold findI
  rw [e l, e l', h, hl]
theorem setEx_names (ls : List Ln) (n k : Nat) : (setEx ls n k).map Nd.name = (ndsU ls n).map Nd.name := by
  unfold setEx ndsU
  rw [List.map_map, List.map_map]
  apply List.map_congr_left
  intro i _
  show (exAt ls _ k i).name = _
  unfold exAt
  split <;> rfl
theorem idxF_names {l l' : List Nd} (h : l.map Nd.name = l'.map Nd.name) (ns : List ByteArray) : idxF l ns = idxF l' ns := by
  unfold idxF
  apply List.map_congr_left
  intro s _
  exact findI_names h s
end Go.Proofs.YtfddpdognelhmaaGreatDoor

/- LayY: What build keeps, and its steps. -/
namespace Go.Proofs.YtfddpdognelhmaaGreatDoor
open Go.RowKit

theorem own_apart {w : World} {B B' n n' size size' : Nat} {t t' : TypeId} {v v' : Value} {xs xs' : List Value} (h : w.ownsRow B t size v n xs) (h' : w.ownsRow B' t' size' v' n' xs') (ht : t ≠ t') : v.ownBlock = none ∨ v.ownBlock ≠ v'.ownBlock := by
  rcases h.2 with ⟨rfl, _⟩ | ⟨g, cap, cur, rfl, _, hg, _⟩
  · exact .inl rfl
  · refine .inr fun e => ?_
    rcases h'.2 with ⟨rfl, _⟩ | ⟨g', cap', cur', rfl, _, hg', _⟩
    · cases e
    · have : g = g' := Option.some.inj e
      subst this
      rw [hg] at hg'
      injection hg' with hg'
      injection hg' with _ hg' _
      exact ht hg'
theorem keepTy_set {q i : Nat} {w : World} {cs : Array Value} {t t' : TypeId} {fz : Nat × Nat} (h : w.heap[q]? = some (.cells cs t fz)) (ht : t ≠ t') (v : Value) : KeepTy t' w (w.setCell ⟨q, i, none⟩ v) := fun g c fz' hg => by
  rw [RowKit.Below.heap_setCell _ _ _ _ (show g ≠ q from fun e => by
    subst e
    rw [h] at hg; injection hg with hg; injection hg with _ hg _; exact ht hg)]
  exact hg
theorem own_setOther {w : World} {B q i n size : Nat} {t : TypeId} {v u : Value} {xs : List Value} (h : w.ownsRow B t size v n xs) (hq : v.ownBlock = none ∨ v.ownBlock ≠ some q) : (w.setCell ⟨q, i, none⟩ u).ownsRow B t size v n xs := by
  refine ⟨h.1, ?_⟩
  rcases h.2 with h1 | ⟨g, cap, cur, rfl, h2, h3, h4⟩
  · exact .inl h1
  · refine .inr ⟨g, cap, cur, rfl, h2, ?_, h4⟩
    rw [RowKit.Below.heap_setCell _ _ _ _ (show g ≠ q from fun e => by
      rcases hq with hq | hq
      · cases hq
      · exact hq (by rw [← e]; rfl))]
    exact h3
theorem own_low {w : World} {B q n size : Nat} {t : TypeId} {v : Value} {xs : List Value} (h : w.ownsRow B t size v n xs) (hq : q < B) : v.ownBlock = none ∨ v.ownBlock ≠ some q := by
  cases hv : v.ownBlock with
  | none => exact .inl rfl
  | some k =>
    refine .inr fun e => ?_
    have h1 := (h.lt k hv).1
    have h2 := Option.some.inj e
    omega

/-- What build keeps. -/
structure BdS (b : Nat) (w : World) (A : Option Addr) (c : Nat) (us : List NdS) (B : Option Addr) (d : Nat) (ds : List Dv) (wr : World) : Prop where
  bel : Below w.heap.size w wr
  res : wr.heap[w.heap.size]? = some (.cells #[.slice none 0 0, .slice none 0 0] 25 (0, 0))
  box : wr.heap[w.heap.size + 1]? = some (.cells #[.slice A us.length c, .slice B ds.length d] 25 (0, 0))
  nrow : wr.ownsRow (w.heap.size + 2) 45 5 (.slice A us.length c) us.length (ndsV us)
  drow : wr.ownsRow (w.heap.size + 2) 57 3 (.slice B ds.length d) ds.length (dvsV ds)
  lies : ∀ u ∈ us, IntRow b wr u.P u.x.exits ∧ u.x.exits.length ≤ u.c
theorem BdS.lt {b : Nat} {w : World} {A : Option Addr} {c : Nat} {us : List NdS} {B : Option Addr} {d : Nat} {ds : List Dv} {wr : World} (h : BdS b w A c us B d ds wr) : w.heap.size + 1 < wr.heap.size := (Array.getElem?_eq_some_iff.1 h.box).1
theorem BdS.below {b : Nat} {w : World} {A : Option Addr} {c : Nat} {us : List NdS} {B : Option Addr} {d : Nat} {ds : List Dv} {wr w1 : World} (h : BdS b w A c us B d ds wr) (hb : Below wr.heap.size wr w1) : BdS b w A c us B d ds w1 :=
  ⟨onward h.bel hb, heap_below h.res hb, heap_below h.box hb, owns_later h.nrow hb, owns_later h.drow hb, fun u hu => ⟨(h.lies u hu).1.step (KeepTy.below hb), (h.lies u hu).2⟩⟩
theorem BdS.pushN {b : Nat} {w : World} {A A' : Option Addr} {c c' : Nat} {us : List NdS} {B : Option Addr} {d : Nat} {ds : List Dv} {wr w1 : World} {u : NdS} (h : BdS b w A c us B d ds wr) (hu : IntRow b wr u.P u.x.exits ∧ u.x.exits.length ≤ u.c)
    (hg : wr.grownBy w1 (Value.slice A us.length c).ownBlock) (hr : w1.ownsRow (w.heap.size + 2) 45 5 (.slice A' (us.length + 1) c') (us.length + 1) (ndsV us ++ u.cs)) :
    BdS b w A' c' (us ++ [u]) B d ds (w1.setCell ⟨w.heap.size + 1, 0, none⟩ (.slice A' (us.length + 1) c')) := by
  have hl : ∀ k, k < w.heap.size + 2 → some k ≠ (Value.slice A us.length c).ownBlock := fun k hk e => by have := (h.nrow.lt k e.symm).1; omega
  have hbox : w1.heap[w.heap.size + 1]? = some (.cells #[.slice A us.length c, .slice B ds.length d] 25 (0, 0)) := (hg.block _ h.lt (hl _ (by omega))).trans h.box
  have hk := KeepTy.grow (t' := 3) h.nrow (by decide) hg
  have hk2 := keepTy_set (i := 0) (t' := 3) hbox (by decide) (.slice A' (us.length + 1) c')
  have hlen : (us ++ [u]).length = us.length + 1 := by rw [List.length_append]; rfl
  refine ⟨(h.bel.grown hg h.bel.size (fun g e => by have := (h.nrow.lt g e).1; omega)).setCell (p := ⟨w.heap.size + 1, 0, none⟩) (Nat.le_succ _) _, heap_setOther ((hg.block _ (by have := h.lt; omega) (hl _ (by omega))).trans h.res) (by omega) _, ?_, ?_, own_setOther (h.drow.kept hg (own_apart h.drow h.nrow (by decide))) (own_low h.drow (by omega)), fun z hz => ?_⟩
  · rw [hlen]; exact heap_set hbox _
  · rw [hlen]
    refine own_setOther ?_ (own_low hr (by omega))
    unfold ndsV at hr ⊢
    rw [List.flatMap_append]
    simpa using hr
  · rcases List.mem_append.1 hz with hz | hz
    · exact ⟨((h.lies z hz).1.step hk).step hk2, (h.lies z hz).2⟩
    · rw [List.mem_singleton.1 hz]; exact ⟨(hu.1.step hk).step hk2, hu.2⟩
theorem BdS.pushD {b : Nat} {w : World} {A : Option Addr} {c : Nat} {us : List NdS} {B B' : Option Addr} {d d' : Nat} {ds : List Dv} {wr w1 : World} {u : Dv} (h : BdS b w A c us B d ds wr)
    (hg : wr.grownBy w1 (Value.slice B ds.length d).ownBlock) (hr : w1.ownsRow (w.heap.size + 2) 57 3 (.slice B' (ds.length + 1) d') (ds.length + 1) (dvsV ds ++ dvC u)) :
    BdS b w A c us B' d' (ds ++ [u]) (w1.setCell ⟨w.heap.size + 1, 1, none⟩ (.slice B' (ds.length + 1) d')) := by
  have hl : ∀ k, k < w.heap.size + 2 → some k ≠ (Value.slice B ds.length d).ownBlock := fun k hk e => by have := (h.drow.lt k e.symm).1; omega
  have hbox : w1.heap[w.heap.size + 1]? = some (.cells #[.slice A us.length c, .slice B ds.length d] 25 (0, 0)) := (hg.block _ h.lt (hl _ (by omega))).trans h.box
  have hk := KeepTy.grow (t' := 3) h.drow (by decide) hg
  have hk2 := keepTy_set (i := 1) (t' := 3) hbox (by decide) (.slice B' (ds.length + 1) d')
  have hlen : (ds ++ [u]).length = ds.length + 1 := by rw [List.length_append]; rfl
  refine ⟨(h.bel.grown hg h.bel.size (fun g e => by have := (h.drow.lt g e).1; omega)).setCell (p := ⟨w.heap.size + 1, 1, none⟩) (Nat.le_succ _) _, heap_setOther ((hg.block _ (by have := h.lt; omega) (hl _ (by omega))).trans h.res) (by omega) _, ?_, own_setOther (h.nrow.kept hg (own_apart h.nrow h.drow (by decide))) (own_low h.nrow (by omega)), ?_, fun z hz => ⟨((h.lies z hz).1.step hk).step hk2, (h.lies z hz).2⟩⟩
  · rw [hlen]; exact heap_set hbox _
  · rw [hlen]
    refine own_setOther ?_ (own_low hr (by omega))
    unfold dvsV at hr ⊢
    rw [List.flatMap_append]
    simpa using hr
theorem BdS.setExits {b : Nat} {w : World} {g c : Nat} {us : List NdS} {B : Option Addr} {d : Nat} {ds : List Dv} {wr : World} {k : Nat} {es : List Int} {P : Option Addr} {cp : Nat} (h : BdS b w (some ⟨g, 0, none⟩) c us B d ds wr) (hk : k < us.length) (hu : IntRow b wr P es ∧ es.length ≤ cp) :
    BdS b w (some ⟨g, 0, none⟩) c (us.set k ⟨{ (us.getD k nds0).x with exits := es }, P, cp⟩) B d ds (wr.setCell ⟨g, k * 5 + 4, none⟩ (.slice P es.length cp)) := by
  have hgb := (h.nrow.lt g rfl).1
  have hap := own_apart h.drow h.nrow (by decide)
  obtain ⟨g', cap, cur, hv, _, hgg, _⟩ := h.nrow.2.resolve_left (fun e => by cases e.1)
  have : g = g' := by injection hv with hv; injection hv with hv; injection hv
  subst this
  have hk2 := keepTy_set (i := k * 5 + 4) (t' := 3) hgg (by decide) (.slice P es.length cp)
  refine ⟨h.bel.setCell (p := ⟨g, k * 5 + 4, none⟩) (by show w.heap.size ≤ g; omega) _, heap_setOther h.res (by omega) _, ?_, ?_, own_setOther h.drow hap, fun z hz => ?_⟩
  · rw [List.length_set]; exact heap_setOther h.box (by omega) _
  · rw [List.length_set, ndsV_set us k hk]; exact own_put h.nrow _
  · rcases List.mem_or_eq_of_mem_set hz with hz | rfl
    · exact ⟨(h.lies z hz).1.step hk2, (h.lies z hz).2⟩
    · exact ⟨hu.1.step hk2, hu.2⟩
theorem linfo_node : (Tryz.prog.info? 45).map (fun i => (i.zero, i.size, i.bytes)) = some (some (.agg #[.string ⟨#[]⟩, .int .i64 0, .int .i64 0, .int .i64 0, .slice none 0 0]), 5, 64) := by kernel_rfl
theorem linfo_dev : (Tryz.prog.info? 57).map (fun i => (i.zero, i.size, i.bytes)) = some (some (.agg #[.int .i64 0, .int .i64 0, .int .i64 0]), 3, 24) := by kernel_rfl
theorem linfo_lay : (Tryz.prog.info? 25).map (·.size) = some 2 := by kernel_rfl
end Go.Proofs.YtfddpdognelhmaaGreatDoor
