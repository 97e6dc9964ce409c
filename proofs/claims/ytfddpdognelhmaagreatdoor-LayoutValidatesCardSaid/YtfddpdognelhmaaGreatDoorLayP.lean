/-
  Contract of Format of layouts.
-/
import Derived.Test.YtfddpdognelhmaaGreatDoorNumR
import Derived.Test.YtfddpdognelhmaaGreatDoorLayK

/- LayP: Contract of Format of layouts. -/
namespace Go.Proofs.YtfddpdognelhmaaGreatDoor
open Go.RowKit

theorem jnT_lenm {m : Nat} {r : List ByteArray} (h : ∀ y ∈ r, y.size ≤ m) : (jnT r).length ≤ (m + 1) * r.length := by
  induction r with
  | nil => simp [jnT]
  | cons x r ih =>
    have h1 := ih fun y hy => h y (List.mem_cons_of_mem _ hy)
    have h2 := h x (List.mem_cons_self ..)
    have e : jnT (x :: r) = 32 :: (x.data.toList ++ jnT r) := by unfold jnT; rw [List.flatMap_cons]; rfl
    have e2 : x.data.toList.length = x.size := by simp
    rw [e, List.length_cons, List.length_append, e2, List.length_cons, Nat.mul_succ]
    omega
/-- How many names the lines of a kind have. -/
def needN (n : Nat) : Nat := if n ≤ 9 then exN n else 1
def letB (c : Int) : Bool := decide (c = 78) || (decide (c = 76) || (decide (c = 90) || (decide (c = 87) || (decide (c = 62) || (decide (c = 48) || decide (c = 49))))))
def askB (n : Nat) (c : Int) : Bool := letB c && ((!decide (c = 48) || decide (0 < needN n)) && (!decide (c = 49) || decide (1 < needN n)))
theorem frm_all : ((List.range 12).all fun n => (frmI n).all (askB n)) = true := by decide +kernel
theorem frm_asks {n : Nat} (hn : n < 12) {x : Ln} (ho : x.oth.length = needN n) : ∀ ch ∈ frmI n, Asks x ch := fun ch hch => by
  have h1 := List.all_eq_true.1 frm_all n (by simpa using hn)
  have h2 := List.all_eq_true.1 h1 ch hch
  unfold askB letB at h2
  simp only [Bool.and_eq_true, Bool.or_eq_true, decide_eq_true_eq, Bool.not_eq_true', decide_eq_false_iff_not] at h2
  unfold Asks letC
  rw [ho]
  refine ⟨h2.1, fun e => ?_, fun e => ?_⟩
  · exact h2.2.1.resolve_left fun h => h e
  · exact h2.2.2.resolve_left fun h => h e
theorem frm_two : ((List.range 12).all fun n => decide (n = 0) || decide (2 ≤ (kfS n).size)) = true := by decide +kernel
theorem frm_size {n : Nat} (hn : n < 12) (h0 : n ≠ 0) : 2 ≤ (kfS n).size := by
  have h1 := List.all_eq_true.1 frm_two n (by simpa using hn)
  simpa [h0] using h1

/-- What a valid node is by itself. -/
structure VNd (l : List Nd) (x : Nd) : Prop where
  name : nameB x.name = true
  kind : 1 ≤ x.kind ∧ x.kind ≤ 9
  len : 0 ≤ x.len ∧ x.len ≤ 8
  zone : 0 ≤ x.zone ∧ x.zone ≤ 1
  exl : x.exits.length = exN x.kind
  exr : ∀ t ∈ x.exits, 0 ≤ t ∧ t < l.length
theorem vnd_of {l : List Nd} (h : ndsE l = 0) {i : Nat} (hi : i < l.length) : VNd l (l.getD i nd0) := by
  have h1 := fstE_all (show fstE (ndsF l) l.length = 0 from h) i hi
  have hx := (exg_of h).rng i hi
  have hl := lens_of h i hi
  unfold ndsF ndE at h1
  split at h1
  · rename_i hn
    split at h1
    · rename_i hk
      split at h1
      · rename_i h2
        simp only [Bool.and_eq_true] at h2
        have h3 := h2.2.2
        unfold exOk at h3
        rw [Bool.and_eq_true, decide_eq_true_eq] at h3
        exact ⟨hn, wIn_iff.1 hk, hl, wIn_iff.1 h2.2.1, h3.1, hx⟩
      · omega
    · omega
  · omega
theorem lname_size {s : ByteArray} (h : nameB s = true) : s.size ≤ 12 := by
  unfold nameB at h
  rw [Bool.and_eq_true, decide_eq_true_eq] at h
  exact h.1.2
theorem nmF_size {l : List Nd} (h : ndsE l = 0) {is : List Int} (hr : ∀ t ∈ is, 0 ≤ t ∧ t < l.length) : ∀ y ∈ nmF l is, y.size ≤ 12 := fun y hy => by
  obtain ⟨t, ht, rfl⟩ := List.mem_map.1 hy
  have h1 := hr t ht
  exact lname_size (vnd_of h (i := t.toNat) (by omega)).name
theorem wrd_size {x : Ln} (hn : x.name.size ≤ 12) (ho : ∀ y ∈ x.oth, y.size ≤ 12) (ch : Int) : (wrdC x ch).size ≤ 12 := by
  have hd : ∀ n, (decS n).size ≤ 12 := fun n => by have := (decS_size n).2; omega
  unfold wrdC
  split
  · exact hn
  · split
    · exact hd _
    · split
      · exact hd _
      · split
        · exact hd _
        · split
          · decide
          · rw [List.getD_eq_getElem?_getD]
            cases h : x.oth[(ch - 48).toNat]? with
            | none => decide
            | some y => exact ho y (List.mem_of_getElem? h)
def lnNd (l : List Nd) (x : Nd) : Ln := ⟨x.kind, x.name, x.len, x.zone, 0, nmF l x.exits⟩
def lnDv (l : List Nd) (d : Dv) : Ln := ⟨9 + d.kind, ⟨#[]⟩, 0, 0, d.win, nmF l [d.node]⟩
theorem lin_size {n : Nat} (hn : n < 12) {x : Ln} (h : ∀ ch, (wrdC x ch).size ≤ 12) : (linX n x).size ≤ 100 := by
  unfold linX
  rw [ByteArray.size_append]
  show (jn (kwS n :: (frmI n).map (wrdC x))).toArray.size + 1 ≤ 100
  unfold jn
  rw [List.size_toArray, List.length_append]
  have h3 := jnT_lenm (m := 12) (r := (frmI n).map (wrdC x)) (fun y hy => by
    obtain ⟨ch, _, rfl⟩ := List.mem_map.1 hy
    exact h ch)
  have h4 : (kwS n).data.toList.length = (kwS n).size := by simp
  have h5 := kw_few hn
  have h6 := kf_few hn
  have h7 : ((frmI n).map (wrdC x)).length = (kfS n).size := by rw [List.length_map]; unfold frmI; rw [List.length_map]; simp
  rw [h7] at h3
  omega
def ndX (l : List Nd) (x : Nd) : List UInt8 := (linX x.kind.toNat (lnNd l x)).data.toList
def dvX (l : List Nd) (d : Dv) : List UInt8 := (linX (9 + d.kind).toNat (lnDv l d)).data.toList
/-- The text of a layout. -/
def fmtX (x : Lay) : List UInt8 := x.nodes.flatMap (ndX x.nodes) ++ x.devs.flatMap (dvX x.nodes)
def fmtS (x : Lay) : ByteArray := if layE x = 0 then ⟨(fmtX x).toArray⟩ else ByteArray.empty

theorem bld_later {B b : Nat} {l : List UInt8} {w w1 : World} (h : Bld B b l w) (hb : Below w.heap.size w w1) : Bld B b l w1 := by
  rcases h with ⟨h1, v, h2, h3, h4⟩ | ⟨h1, v, h2, h3, h4⟩
  · exact .inl ⟨h1, v, (hb.block _ (Array.getElem?_eq_some_iff.1 h2).1).trans h2, owns_later h3 hb, h4⟩
  · exact .inr ⟨h1, v, (hb.block _ (Array.getElem?_eq_some_iff.1 h2).1).trans h2, owns_later h3 hb, h4⟩
theorem bld_zero {w : World} {B : Nat} (hB : B ≤ w.heap.size) : Bld B w.heap.size [] (w.alloc (.cells #[.pointer none, .slice none 0 0] 60)) :=
  .inl ⟨hB, .slice none 0 0, heap_alloc_new w _, ⟨rfl, .inl ⟨rfl, rfl⟩⟩, by simp [Value.ownBlock]⟩
/-- What a region of Format reads. -/
theorem fm_cells {W : World} {m p : Nat} {x : Nd} {B : Option Addr} {d : Nat} {y : Lay} {A A' : Option Addr} {c c' : Nat} (h1 : W.heap[m]? = some (ndO x B d)) (h2 : W.heap[p]? = some (lO y A c A' c')) :
    W.heap[m]? = some (ndO x B d) ∧ W.heap[p]? = some (lO y A c A' c') ∧ W.cell? ⟨m, 0, none⟩ = some (.string x.name) ∧ W.cell? ⟨m, 1, none⟩ = some (.int .i64 x.kind) ∧ W.cell? ⟨m, 2, none⟩ = some (.int .i64 x.len) ∧ W.cell? ⟨m, 3, none⟩ = some (.int .i64 x.zone) ∧ W.cell? ⟨m, 4, none⟩ = some (.slice B x.exits.length d) ∧ W.cell? ⟨p, 0, none⟩ = some (.slice A y.nodes.length c) :=
  ⟨h1, h2, by rw [Lib.cell_of_heap h1]; rfl, by rw [Lib.cell_of_heap h1]; rfl, by rw [Lib.cell_of_heap h1]; rfl, by rw [Lib.cell_of_heap h1]; rfl, by rw [Lib.cell_of_heap h1]; rfl, by rw [Lib.cell_of_heap h2]; rfl⟩
end Go.Proofs.YtfddpdognelhmaaGreatDoor

/- LayQ: Contract of Format of layouts: the walk. -/
namespace Go.Proofs.YtfddpdognelhmaaGreatDoor
open Go.RowKit

theorem lflat_len {α : Type} {f : α → List UInt8} {m : Nat} {l : List α} (h : ∀ x ∈ l, (f x).length ≤ m) : (l.flatMap f).length ≤ m * l.length := by
  induction l with
  | nil => simp
  | cons x l ih =>
    have h1 := ih fun y hy => h y (List.mem_cons_of_mem _ hy)
    have h2 := h x (List.mem_cons_self ..)
    rw [List.flatMap_cons, List.length_append, List.length_cons, Nat.mul_succ]
    omega
theorem lflat_step {α : Type} {f : α → List UInt8} {l : List α} {d : α} {k : Nat} (h : k < l.length) : (l.take (k + 1)).flatMap f = (l.take k).flatMap f ++ f (l.getD k d) := by
  rw [List.take_succ_eq_append_getElem h, List.flatMap_append, at_k h]; simp
/-- What Format keeps. -/
structure FmS (w : World) (q : Nat) (x : Lay) (A : Option Addr) (c : Nat) (A' : Option Addr) (c' : Nat) (t : List UInt8) (wr : World) : Prop where
  bel : Below w.heap.size w wr
  bld : Bld w.heap.size q t wr
  par : wr.heap[w.heap.size]? = some (lO x A c A' c')
  qlt : w.heap.size < q
theorem FmS.below {w wr w1 : World} {q : Nat} {x : Lay} {A A' : Option Addr} {c c' : Nat} {t : List UInt8} (h : FmS w q x A c A' c' t wr) (hb : Below wr.heap.size wr w1) : FmS w q x A c A' c' t w1 :=
  ⟨onward h.bel hb, bld_later h.bld hb, heap_below h.par hb, h.qlt⟩
theorem FmS.write {w wr w1 : World} {q : Nat} {x : Lay} {A A' : Option Addr} {c c' : Nat} {t t' : List UInt8} (h : FmS w q x A c A' c' t wr) (h1 : Bld w.heap.size q t' w1) (h2 : Below w.heap.size wr w1) (h3 : Oth q wr w1) : FmS w q x A c A' c' t' w1 :=
  ⟨h.bel.trans h2, h1, h3 _ _ h.par (by have := h.qlt; simp; omega) (fun _ _ e => by injection e with _ e _; exact absurd e (by decide)), h.qlt⟩
theorem FmS.blt {w wr : World} {q : Nat} {x : Lay} {A A' : Option Addr} {c c' : Nat} {t : List UInt8} (h : FmS w q x A c A' c' t wr) : q < wr.heap.size := by
  rcases h.bld with h1 | h1 <;> exact h1.lt
theorem FmS.start {w w1 : World} {x : Lay} {A A' : Option Addr} {c c' : Nat} (hb : Below w.heap.size w w1) (hp : w1.heap[w.heap.size]? = some (lO x A c A' c')) : FmS w w1.heap.size x A c A' c' [] (w1.alloc (.cells #[.pointer none, .slice none 0 0] 60)) :=
  ⟨hb.alloc hb.size _, bld_zero hb.size, heap_below hp (below_new (Below.refl _ _) _), (Array.getElem?_eq_some_iff.1 hp).1⟩
theorem node_oth {w w1 : World} {b m : Nat} {x : Nd} {B : Option Addr} {d : Nat} (h : w.heap[m]? = some (ndO x B d)) (hm : m ≠ b) (h3 : Oth b w w1) : w1.heap[m]? = some (ndO x B d) :=
  h3 _ _ h (by simpa using hm) (fun _ _ e => by injection e with _ e _; exact absurd e (by decide))
theorem dev_oth {w w1 : World} {b m : Nat} {x : Dv} (h : w.heap[m]? = some (dvO x)) (hm : m ≠ b) (h3 : Oth b w w1) : w1.heap[m]? = some (dvO x) :=
  h3 _ _ h (by simpa using hm) (fun _ _ e => by injection e with _ e _; exact absurd e (by decide))

/-- What a valid device is. -/
structure VDv (l : List Nd) (d : Dv) : Prop where
  kind : 1 ≤ d.kind ∧ d.kind ≤ 2
  node : 0 ≤ d.node ∧ d.node < l.length
  win : 0 ≤ d.win ∧ d.win ≤ 7
theorem vdv_of {x : Lay} (h : layE x = 0) {i : Nat} (hi : i < x.devs.length) : VDv x.nodes (x.devs.getD i dv0) := by
  have hv := layE_zero h
  have h1 : dvE x.nodes (x.devs.getD i dv0) = 0 := by
    have h2 := hv.2.2.2.1
    unfold dvsE at h2
    split at h2
    · rename_i h3
      exact fstE_all h3 i hi
    · rename_i h3; exact absurd h2 h3
  unfold dvE at h1
  split at h1
  · rename_i hk
    split at h1
    · rename_i h2
      rw [Bool.and_eq_true] at h2
      have h3 := wIn_iff.1 h2.1
      have h4 := wIn_iff.1 h2.2
      have h5 := lens_of (nds_zero hv.2.2.1) (x.devs.getD i dv0).node.toNat (by omega)
      exact ⟨wIn_iff.1 hk, by omega, by omega⟩
    · omega
  · omega
theorem fd_cells {W : World} {m p : Nat} {x : Dv} {y : Lay} {A A' : Option Addr} {c c' : Nat} (h1 : W.heap[m]? = some (dvO x)) (h2 : W.heap[p]? = some (lO y A c A' c')) :
    W.heap[m]? = some (dvO x) ∧ W.heap[p]? = some (lO y A c A' c') ∧ W.cell? ⟨m, 0, none⟩ = some (.int .i64 x.kind) ∧ W.cell? ⟨m, 1, none⟩ = some (.int .i64 x.node) ∧ W.cell? ⟨m, 2, none⟩ = some (.int .i64 x.win) ∧ W.cell? ⟨p, 0, none⟩ = some (.slice A y.nodes.length c) :=
  ⟨h1, h2, by rw [Lib.cell_of_heap h1]; rfl, by rw [Lib.cell_of_heap h1]; rfl, by rw [Lib.cell_of_heap h1]; rfl, by rw [Lib.cell_of_heap h2]; rfl⟩
theorem nums_new {b : Nat} {W : World} (hb : b < W.heap.size) (v : Int) : NumsIn b (W.alloc (.cells #[.int .i64 v] 3)) (some ⟨W.heap.size, 0, none⟩) [v] := fun _ => by
  refine ⟨W.heap.size, 0, rfl, by omega, fun i hi => ?_⟩
  obtain rfl : i = 0 := by simpa using hi
  rw [Lib.cell_of_heap (heap_alloc_new W _)]; rfl
set_option maxHeartbeats 4000000 in
set_option maxRecDepth 100000 in
theorem lformat_any (b : Nat) (x : Lay) (A A' : Option Addr) (c c' : Nat) (w : World) (hT : LTab w) (hbw : b < w.heap.size) (h : LayIn b w x A A') :
    Calls Tryz.prog 10 #[lV x A c A' c'] w fun e w' => e = .returned (.tuple #[.string (fmtS x), .int .i64 (layE x)]) ∧ Below w.heap.size w w' := by
  have b1 := (Below.refl w.heap.size w).alloc (Nat.le_refl _) (lO x A c A' c')
  have HI := hide (h.keep b1)
  have B1 := hide b1
  have HC := hide (lval_any b x A A' c c' _ (unhide HI))
  have HI0 := hide h
  have HT0 := hide hT
  clear h b1 hT
  by_cases he : layE x = 0
  · have HR := hide (show fmtS x = ⟨(fmtX x).toArray⟩ from if_pos he)
    have hv := layE_zero he
    have HN := hide (nds_zero hv.2.2.1)
    have HVd := hide fun i hi => vdv_of he (i := i) hi
    have hn24 := hv.1
    have hd24 := hv.2.1
    rw [he] at HC ⊢
    clear he hv
    go_enter Tryz.func10, Tryz.ntmps10
    go_wp2_with fail
    refine (unhide HC).mono ?_
    rintro e w1 ⟨rfl, hb1⟩
    have hp1 := heap_below (heap_alloc_new w (lO x A c A' c')) hb1
    have hB1 := (unhide B1).trans (hb1.mono (unhide B1).size)
    have y0 : w1.cell? ⟨w.heap.size, 0, none⟩ = some (.slice A x.nodes.length c) := by rw [Lib.cell_of_heap hp1]; rfl
    have HS0 := hide (FmS.start hB1 hp1)
    have hlt1 : w.heap.size < w1.heap.size := (Array.getElem?_eq_some_iff.1 hp1).1
    clear hb1 hp1 hB1
    go_wp2
    clear y0
    go_loopw [18] (fun i wr => ∃ k : Nat, k ≤ x.nodes.length ∧ i = .int .i64 k ∧ FmS w w1.heap.size x A c A' c' ((x.nodes.take k).flatMap (ndX x.nodes)) wr) (fun i _ => x.nodes.length - (intOf i).toNat)
    case atStart => exact ⟨0, Nat.zero_le _, rfl, unhide HS0⟩
    case round =>
      obtain ⟨k, hk, rfl, hS⟩ := hrel
      obtain ⟨wo, rfl⟩ : ∃ wo : World, wo = wr := ⟨_, rfl⟩
      have HS := hide hS
      have hI := (unhide HI0).keep hS.bel
      have hq := hS.blt
      clear hS
      by_cases hlt : k < x.nodes.length
      · obtain ⟨g, off, hA, _, hc⟩ := hI.nds (by omega)
        obtain ⟨c0, c1, c2, c3, B, d, c4, hld, hn⟩ := hc k hlt
        have hV := vnd_of (unhide HN) hlt
        have HST := hide (lflat_step (f := ndX x.nodes) (d := nd0) hlt)
        have HLen := hide (show ((x.nodes.take k).flatMap (ndX x.nodes)).length ≤ 2400 from Nat.le_trans (lflat_len (m := 100) fun z hz => by
          obtain ⟨i, hi, rfl⟩ := List.getElem_of_mem (List.mem_of_mem_take hz)
          have hV' := vnd_of (unhide HN) hi
          rw [at_k hi] at hV'
          unfold ndX
          have := lin_size (n := (x.nodes[i]).kind.toNat) (by have := hV'.kind; omega) (x := lnNd x.nodes x.nodes[i]) (wrd_size (lname_size hV'.name) (nmF_size (unhide HN) hV'.exr))
          simpa using this) (by rw [List.length_take]; omega))
        generalize x.nodes.getD k nd0 = y at *
        obtain ⟨W1, hW1⟩ : ∃ W1 : World, wo.alloc (ndO y B d) = W1 := ⟨_, rfl⟩
        have b1 : Below wo.heap.size wo W1.drew := by rw [← hW1]; exact ((Below.refl wo.heap.size wo).alloc (Nat.le_refl _) (ndO y B d)).drew
        have hm0 : W1.drew.heap[wo.heap.size]? = some (ndO y B d) := by rw [← hW1]; exact heap_alloc_new wo _
        have HS1 := hide ((unhide HS).below b1)
        have HI1 := hide (hI.keep b1)
        have HNx := hide (hn.keep b1)
        have kp0 := (unhide HS1).par
        have HV := hide hV
        obtain ⟨n, hkn⟩ := Int.eq_ofNat_of_zero_le (show 0 ≤ y.kind by have := hV.kind; omega)
        have hn9 : n < 12 ∧ n ≠ 0 := by have := hV.kind; omega
        have HNm := hide (lnames_any b x.nodes y.exits A B c d W1.drew (by have := hV.exl; have := exN_le y.kind; omega) hV.exr (hI.keep b1).nds (hn.keep b1))
        have HWl := hide (fun (W : World) (ao : Option Addr) (cp : Nat) (hT' : LTab W) (hb' : b < W.heap.size) (hs' : StrsIn b W ao (nmF x.nodes y.exits)) => lwline_any b (lnNd x.nodes y) n ao cp W hT' hn9.1 (frm_size hn9.1 hn9.2) hkn ⟨by show 0 ≤ y.len ∧ y.len ≤ 999; have := hV.len; omega, by show 0 ≤ y.zone ∧ y.zone ≤ 999; have := hV.zone; omega, by show (0 : Int) ≤ 0 ∧ (0 : Int) ≤ 999; omega⟩ (frm_asks hn9.1 (by show (nmF x.nodes y.exits).length = _; rw [nmF_len, hV.exl, hkn]; unfold needN; rw [if_pos (by have := hV.kind; omega)])) (fun ch _ => by have := wrd_size (x := lnNd x.nodes y) (lname_size hV.name) (nmF_size (unhide HN) hV.exr) ch; omega) hb' hs')
        have HLs := hide (lin_size hn9.1 (x := lnNd x.nodes y) (wrd_size (lname_size hV.name) (nmF_size (unhide HN) hV.exr)))
        have HTx := hide (show ndX x.nodes y = (linX n (lnNd x.nodes y)).data.toList by unfold ndX; rw [hkn]; rfl)
        have kl : (k : Int) < (x.nodes.length : Int) := by omega
        have k0 : (0 : Int) ≤ (k : Int) := by omega
        have hmq : wo.heap.size ≠ w1.heap.size := by omega
        have hbo := (unhide HS).bel.size
        obtain rfl := hA
        clear hI hc hV hkn hn9 hn hld
        go_wp2_with fail
        go_region_held3 (fun W => W.heap[wo.heap.size]? = some (ndO y B d) ∧ W.heap[w.heap.size]? = some (lO x (some ⟨g, off, none⟩) c A' c') ∧ W.cell? ⟨wo.heap.size, 0, none⟩ = some (.string y.name) ∧ W.cell? ⟨wo.heap.size, 1, none⟩ = some (.int .i64 y.kind) ∧ W.cell? ⟨wo.heap.size, 2, none⟩ = some (.int .i64 y.len) ∧ W.cell? ⟨wo.heap.size, 3, none⟩ = some (.int .i64 y.zone) ∧ W.cell? ⟨wo.heap.size, 4, none⟩ = some (.slice B y.exits.length d) ∧ W.cell? ⟨w.heap.size, 0, none⟩ = some (.slice (some ⟨g, off, none⟩) x.nodes.length c))
          (first | exact fm_cells hm7 kp7 | exact fm_cells hm6 kp6 | exact fm_cells hm5 kp5 | exact fm_cells hm0 kp0)
          (first
            | (go_at_call 29; refine (unhide HNm).mono ?_; rintro e w5 ⟨v, rfl, hown, hb5⟩; obtain ⟨ao, cp, hv⟩ := own_form hown; subst hv; have hm5 := heap_below hm0 hb5; have kp5 := heap_below kp0 hb5; have HS5 := hide ((unhide HS1).below hb5); have HO5 := hide (StrRow.own hown (Nat.lt_of_lt_of_le hbw (unhide HS1).bel.size)).strs; clear hown hb5)
            | (go_at_call 28; refine (unhide HWl _ ao cp ((unhide HT0).keep (unhide HS5).bel) (Nat.lt_of_lt_of_le hbw (unhide HS5).bel.size) (unhide HO5)).mono ?_; rintro e w6 ⟨rfl, hb6⟩; have hm6 := heap_below hm5 hb6; have kp6 := heap_below kp5 hb6; have HS6 := hide ((unhide HS5).below hb6); clear hb6)
            | (go_at_call 27; refine (bwrite_any w.heap.size w1.heap.size _ _ _ (unhide HS6).bld (by have h1 := unhide HLen; have h2 := unhide HLs; omega) (unhide HS6).bel.size).mono ?_; rintro e w7 ⟨rfl, hbl7, hb7, ho7⟩; have hm7 := node_oth hm6 hmq ho7; have HS7 := hide ((unhide HS6).write hbl7 hb7 ho7); have kp7 := (unhide HS7).par; clear hbl7 hb7 ho7))
        rename_i hH
        clear hH hm0 kp0 hm5 kp5 hm6 kp6 hm7 kp7 hW1
        go_wp2
        go_roundw
        case rel => exact ⟨k + 1, by omega, by go_num, by rw [unhide HST, unhide HTx]; exact unhide HS7⟩
        case measure => simp [intOf]; omega
      · have kl : ¬ (k : Int) < (x.nodes.length : Int) := by omega
        have y1 : wo.cell? ⟨w.heap.size, 1, none⟩ = some (.slice A' x.devs.length c') := by rw [Lib.cell_of_heap (unhide HS).par]; rfl
        have HS2 := hide (unhide HS)
        rw [List.take_of_length_le (by omega)] at HS2
        clear hI hlt HS
        have hlt2 : w.heap.size < wo.heap.size := by omega
        go_wp2
        clear y1
        go_loopw [42] (fun i wr => ∃ k : Nat, k ≤ x.devs.length ∧ i = .int .i64 k ∧ FmS w w1.heap.size x A c A' c' (x.nodes.flatMap (ndX x.nodes) ++ (x.devs.take k).flatMap (dvX x.nodes)) wr) (fun i _ => x.devs.length - (intOf i).toNat)
        case atStart => exact ⟨0, Nat.zero_le _, rfl, by simpa using unhide HS2⟩
        case round =>
          obtain ⟨k2, hk2, rfl, hS⟩ := hrel
          obtain ⟨wi, rfl⟩ : ∃ wi : World, wi = wr := ⟨_, rfl⟩
          have HS := hide hS
          have hI := (unhide HI0).keep hS.bel
          have hq2 := hS.blt
          clear hS
          by_cases hlt2 : k2 < x.devs.length
          · obtain ⟨g, off, hA, _, hc⟩ := hI.dvs (by omega)
            obtain ⟨c0, c1, c2⟩ := hc k2 hlt2
            have hV := unhide HVd k2 hlt2
            have HST := hide (lflat_step (f := dvX x.nodes) (d := dv0) hlt2)
            have HLen := hide (show (x.nodes.flatMap (ndX x.nodes) ++ (x.devs.take k2).flatMap (dvX x.nodes)).length ≤ 4800 from by
              have e1 : (x.nodes.flatMap (ndX x.nodes)).length ≤ 2400 := Nat.le_trans (lflat_len (m := 100) fun z hz => by
                obtain ⟨i, hi, rfl⟩ := List.getElem_of_mem hz
                have hV' := vnd_of (unhide HN) hi
                rw [at_k hi] at hV'
                unfold ndX
                have := lin_size (n := (x.nodes[i]).kind.toNat) (by have := hV'.kind; omega) (x := lnNd x.nodes x.nodes[i]) (wrd_size (lname_size hV'.name) (nmF_size (unhide HN) hV'.exr))
                simpa using this) (by omega)
              have e2 : ((x.devs.take k2).flatMap (dvX x.nodes)).length ≤ 2400 := Nat.le_trans (lflat_len (m := 100) fun z hz => by
                obtain ⟨i, hi, rfl⟩ := List.getElem_of_mem (List.mem_of_mem_take hz)
                have hV' := unhide HVd i hi
                rw [at_k hi] at hV'
                unfold dvX
                have := lin_size (n := (9 + (x.devs[i]).kind).toNat) (by have := hV'.kind; omega) (x := lnDv x.nodes x.devs[i]) (wrd_size (show (⟨#[]⟩ : ByteArray).size ≤ 12 by decide) (nmF_size (unhide HN) (fun t ht => by rw [List.mem_singleton.1 ht]; exact hV'.node)))
                simpa using this) (by rw [List.length_take]; omega)
              rw [List.length_append]; omega)
            generalize x.devs.getD k2 dv0 = y at *
            obtain ⟨W1, hW1⟩ : ∃ W1 : World, wi.alloc (dvO y) = W1 := ⟨_, rfl⟩
            have hz1 : W1.heap.size = wi.heap.size + 1 := by rw [← hW1, World.size_alloc]
            have b1 : Below wi.heap.size wi W1.drew := by rw [← hW1]; exact ((Below.refl wi.heap.size wi).alloc (Nat.le_refl _) (dvO y)).drew
            have hm0 : W1.drew.heap[wi.heap.size]? = some (dvO y) := by rw [← hW1]; exact heap_alloc_new wi _
            have HS0' := hide ((unhide HS).below b1)
            have kp0 := (unhide HS0').par
            have hnb := ((unhide HS).below b1).bel.size
            have bA : Below W1.drew.heap.size W1.drew ((W1.alloc (.cells #[.int .i64 y.node] 3)).drew) := (Below.refl W1.drew.heap.size W1.drew).alloc (Nat.le_refl _) (.cells #[.int .i64 y.node] 3)
            have hnu : NumsIn b ((W1.alloc (.cells #[.int .i64 y.node] 3)).drew) (some ⟨wi.heap.size + 1, 0, none⟩) [y.node] := by
              have h9 : NumsIn b ((W1.alloc (.cells #[.int .i64 y.node] 3)).drew) (some ⟨W1.heap.size, 0, none⟩) [y.node] := nums_new (W := W1.drew) (Nat.lt_of_lt_of_le hbw hnb) y.node
              rwa [hz1] at h9
            have hmA := heap_below hm0 bA
            have kpA := heap_below kp0 bA
            have HS1 := hide ((unhide HS0').below bA)
            have HNm := hide (show Calls Tryz.prog 29 #[.slice A x.nodes.length c, .slice (some ⟨wi.heap.size + 1, 0, none⟩) 1 1] ((W1.alloc (.cells #[.int .i64 y.node] 3)).drew) (StrsO (nmF x.nodes [y.node]) ((W1.alloc (.cells #[.int .i64 y.node] 3)).drew)) from lnames_any b x.nodes [y.node] A (some ⟨wi.heap.size + 1, 0, none⟩) c 1 ((W1.alloc (.cells #[.int .i64 y.node] 3)).drew) (by simp) (fun t ht => by rw [List.mem_singleton.1 ht]; exact hV.node) ((hI.keep b1).keep bA).nds hnu)
            obtain ⟨n, hkn⟩ := Int.eq_ofNat_of_zero_le (show 0 ≤ 9 + y.kind by have := hV.kind; omega)
            have hn9 : n < 12 ∧ n ≠ 0 ∧ ¬ n ≤ 9 := by have := hV.kind; omega
            have HWl := hide (fun (W : World) (ao : Option Addr) (cp : Nat) (hT' : LTab W) (hb' : b < W.heap.size) (hs' : StrsIn b W ao (nmF x.nodes [y.node])) => (show Calls Tryz.prog 28 #[.agg #[.int .i64 (9 + y.kind), .string ⟨#[]⟩, .int .i64 0, .int .i64 0, .int .i64 y.win, .slice ao (nmF x.nodes [y.node]).length cp]] W fun e w' => e = .returned (.string (linX n (lnDv x.nodes y))) ∧ Below W.heap.size W w' from lwline_any b (lnDv x.nodes y) n ao cp W hT' hn9.1 (frm_size hn9.1 hn9.2.1) hkn ⟨by show (0 : Int) ≤ 0 ∧ (0 : Int) ≤ 999; omega, by show (0 : Int) ≤ 0 ∧ (0 : Int) ≤ 999; omega, by show 0 ≤ y.win ∧ y.win ≤ 999; have := hV.win; omega⟩ (frm_asks hn9.1 (by show (nmF x.nodes [y.node]).length = _; rw [nmF_len]; unfold needN; rw [if_neg hn9.2.2]; rfl)) (fun ch _ => by have := wrd_size (x := lnDv x.nodes y) (show (⟨#[]⟩ : ByteArray).size ≤ 12 by decide) (nmF_size (unhide HN) (fun t ht => by rw [List.mem_singleton.1 ht]; exact hV.node)) ch; omega) hb' hs'))
            have HLs := hide (lin_size hn9.1 (x := lnDv x.nodes y) (wrd_size (show (⟨#[]⟩ : ByteArray).size ≤ 12 by decide) (nmF_size (unhide HN) (fun t ht => by rw [List.mem_singleton.1 ht]; exact hV.node))))
            have HTx := hide (show dvX x.nodes y = (linX n (lnDv x.nodes y)).data.toList by unfold dvX; rw [hkn]; rfl)
            have kl : (k2 : Int) < (x.devs.length : Int) := by omega
            have k0 : (0 : Int) ≤ (k2 : Int) := by omega
            have hmq : wi.heap.size ≠ w1.heap.size := by omega
            have hks := hV.kind
            have hsum : IntKind.i64.wrap (9 + y.kind) = 9 + y.kind := IntWalk.i64_in _ (by omega)
            obtain rfl := hA
            clear hI hc hV hkn hn9 b1 bA hnb hnu
            go_wp2_with fail
            go_region_held3 (fun W => W.heap[wi.heap.size]? = some (dvO y) ∧ W.heap[w.heap.size]? = some (lO x A c (some ⟨g, off, none⟩) c') ∧ W.cell? ⟨wi.heap.size, 0, none⟩ = some (.int .i64 y.kind) ∧ W.cell? ⟨wi.heap.size, 1, none⟩ = some (.int .i64 y.node) ∧ W.cell? ⟨wi.heap.size, 2, none⟩ = some (.int .i64 y.win) ∧ W.cell? ⟨w.heap.size, 0, none⟩ = some (.slice A x.nodes.length c))
              (first | exact fd_cells hm7 kp7 | exact fd_cells hm6 kp6 | exact fd_cells hm5 kp5 | exact fd_cells hmA kpA | exact fd_cells hm0 kp0)
              (first
                | (go_at_call 29; (with_reducible refine (unhide HNm).mono ?_); rintro e w5 ⟨v, rfl, hown, hb5⟩; obtain ⟨ao, cp, hv⟩ := own_form hown; subst hv; have hm5 := heap_below hmA hb5; have kp5 := heap_below kpA hb5; have HS5 := hide ((unhide HS1).below hb5); have HO5 := hide (StrRow.own hown (Nat.lt_of_lt_of_le hbw (unhide HS1).bel.size)).strs; clear hown hb5)
                | (go_at_call 28; (with_reducible refine (unhide HWl _ ao cp ((unhide HT0).keep (unhide HS5).bel) (Nat.lt_of_lt_of_le hbw (unhide HS5).bel.size) (unhide HO5)).mono ?_); rintro e w6 ⟨rfl, hb6⟩; have hm6 := heap_below hm5 hb6; have kp6 := heap_below kp5 hb6; have HS6 := hide ((unhide HS5).below hb6); clear hb6)
                | (go_at_call 27; refine (bwrite_any w.heap.size w1.heap.size _ _ _ (unhide HS6).bld (by have h1 := unhide HLen; have h2 := unhide HLs; omega) (unhide HS6).bel.size).mono ?_; rintro e w7 ⟨rfl, hbl7, hb7, ho7⟩; have hm7 := dev_oth hm6 hmq ho7; have HS7 := hide ((unhide HS6).write hbl7 hb7 ho7); have kp7 := (unhide HS7).par; clear hbl7 hb7 ho7))
            rename_i hH
            clear hH hm0 kp0 hmA kpA hm5 kp5 hm6 kp6 hm7 kp7 hW1
            go_wp2
            go_roundw
            case rel => exact ⟨k2 + 1, by omega, by go_num, by rw [unhide HST, unhide HTx, ← List.append_assoc]; exact unhide HS7⟩
            case measure => simp [intOf]; omega
          · have kl2 : ¬ (k2 : Int) < (x.devs.length : Int) := by omega
            have HT := hide (show x.nodes.flatMap (ndX x.nodes) ++ (x.devs.take k2).flatMap (dvX x.nodes) = fmtX x by rw [List.take_of_length_le (by omega)]; rfl)
            have HBl := hide (unhide HS).bld
            have HBe := hide (unhide HS).bel
            rw [unhide HT] at HBl
            have hbs := (unhide HS).bel.size
            clear HS hI HT
            go_wp2_with fail
            refine (bstring_any w.heap.size w1.heap.size _ _ (unhide HBl) hbs).mono ?_
            rintro e w8 ⟨rfl, hb8⟩
            have HB8 := hide ((unhide HBe).trans hb8)
            clear hb8
            go_wp2
            go_ret2
            exact ⟨by rw [unhide HR]; rfl, unhide HB8⟩
  · have HR := hide (show fmtS x = ByteArray.empty from if_neg he)
    generalize layE x = r at *
    have hrb : (r != 0) = true := by rw [bne_iff_ne]; exact he
    clear he
    go_enter Tryz.func10, Tryz.ntmps10
    go_wp2_with fail
    refine (unhide HC).mono ?_
    rintro e w1 ⟨rfl, hb1⟩
    have HB1 := hide ((unhide B1).trans (hb1.mono (unhide B1).size))
    clear hb1
    go_wp2
    go_ret2
    exact ⟨by rw [unhide HR]; rfl, unhide HB1⟩
end Go.Proofs.YtfddpdognelhmaaGreatDoor
