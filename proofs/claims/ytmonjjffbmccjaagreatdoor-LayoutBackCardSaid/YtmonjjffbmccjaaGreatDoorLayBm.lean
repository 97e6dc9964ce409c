/-
  Texts and valid layouts correspond to each other: plain mathematics.
-/
import Derived.Test.YtmonjjffbmccjaaGreatDoorLayPa
import Derived.Test.YtmonjjffbmccjaaGreatDoorSplM
namespace Go.Proofs.YtmonjjffbmccjaaGreatDoor

theorem nodes_nds {l : List Nd} (h : nodesE l = 0) : ndsE l = 0 := by
  unfold nodesE at h
  split at h
  · assumption
  · exact h
theorem jn_flat {ws : List ByteArray} (h : ws ≠ []) : (ws.map (·.data.toList)).flatMap (fun p => (32 : UInt8) :: p) = 32 :: jn ws := by
  cases ws with
  | nil => exact absurd rfl h
  | cons x r => rw [List.flatMap_map, List.flatMap_cons]; rfl
theorem spl_jn {ws : List ByteArray} {s : ByteArray} (h : ws ≠ []) (hp : ∀ p ∈ ws, (32 : UInt8) ∉ p.data.toList) (hs : s.data.toList = jn ws) : splitC 32 s = ws := by
  have h2 := splitL_uniq 32 (ws.map (·.data.toList)) s.data.toList (fun p hp' => by
    obtain ⟨x, hx, rfl⟩ := List.mem_map.1 hp'
    exact hp x hx) (by rw [hs]; exact jn_flat h)
  rw [← splitC_list] at h2
  exact (List.map_inj_right (fun a b e => ba_ext e)).1 h2
theorem jn_spl (s : ByteArray) : jn (splitC 32 s) = s.data.toList := by
  have h := splitL_join 32 s.data.toList
  rw [← splitC_list, jn_flat (fun e => by
    have := splitC_length 32 s
    rw [e] at this
    simp at this)] at h
  injection h

/-- The line of a text, without its end. -/
def lnT (x : Ln) : ByteArray := ⟨(jn (kwS x.kind.toNat :: (frmI x.kind.toNat).map (wrdC x))).toArray⟩
def txtL (ls : List Ln) : List UInt8 := ls.flatMap fun x => (lnT x).data.toList ++ [10]
theorem lin_list (x : Ln) : (linX x.kind.toNat x).data.toList = (lnT x).data.toList ++ [10] := by
  unfold linX lnT; simp [ByteArray.data_append]
/-- A line as it is read: each word fits, and what is not written is 0. -/
structure LnR (x : Ln) : Prop where
  k1 : 1 ≤ x.kind
  k2 : x.kind ≤ 11
  ok : ∀ ch ∈ frmI x.kind.toNat, rdOk ch (wrdC x ch) = true
  nam : 9 < x.kind → x.name = ⟨#[]⟩
  len : 6 < x.kind → x.len = 0
  zone : 9 < x.kind → x.zone = 0
  win : x.kind ≤ 9 → x.win = 0
  nl : 0 ≤ x.len ∧ x.len ≤ 999
  nz : 0 ≤ x.zone ∧ x.zone ≤ 999
  nw : 0 ≤ x.win ∧ x.win ≤ 999
  oth : x.oth.length = needN x.kind.toNat

theorem is_62 {s : ByteArray} (h : (s.toList == [62]) = true) : s = ⟨#[62]⟩ := by
  have e : (s.toList == (⟨#[62]⟩ : ByteArray).toList) = true := by rw [← h]; congr 1; decide +kernel
  rw [toList_eq] at e
  exact of_decide_eq_true e
theorem rd_clean {c : Int} {s : ByteArray} (h : rdOk c s = true) : ∀ b ∈ s.data.toList, b ≠ 32 ∧ b ≠ 10 := by
  have dig : ∀ b : UInt8, isDig b = true → b ≠ 32 ∧ b ≠ 10 := fun b hb => by
    rw [isDig_isD, isD_iff] at hb
    exact ⟨fun e => by rw [e] at hb; exact absurd hb (by decide), fun e => by rw [e] at hb; exact absurd hb (by decide)⟩
  unfold rdOk at h
  split at h
  · unfold numOk at h
    rw [Bool.and_eq_true] at h
    have h1 := h.1
    unfold numB at h1
    rw [Bool.and_eq_true] at h1
    intro b hb
    exact dig b (List.all_eq_true.1 h1.2 b hb)
  · split at h
    · have e := is_62 h
      intro b hb
      rw [e] at hb
      have hb2 : b ∈ [(62 : UInt8)] := hb
      rw [List.mem_singleton.1 hb2]
      decide
    · unfold nameB at h
      rw [Bool.and_eq_true, Bool.and_eq_true] at h
      intro b hb
      have h3 := List.all_eq_true.1 h.2.2 b hb
      unfold ldU isLe isD at h3
      simp only [Bool.or_eq_true, decide_eq_true_eq] at h3
      exact ⟨fun e => by rw [e] at h3; exact absurd h3 (by decide), fun e => by rw [e] at h3; exact absurd h3 (by decide)⟩
theorem kw_clean {n : Nat} (h : n < 12) : ∀ b ∈ (kwS n).data.toList, b ≠ 32 ∧ b ≠ 10 := by
  have : n = 0 ∨ n = 1 ∨ n = 2 ∨ n = 3 ∨ n = 4 ∨ n = 5 ∨ n = 6 ∨ n = 7 ∨ n = 8 ∨ n = 9 ∨ n = 10 ∨ n = 11 := by omega
  rcases this with rfl | rfl | rfl | rfl | rfl | rfl | rfl | rfl | rfl | rfl | rfl | rfl <;> decide +kernel
theorem LnR.clean {x : Ln} (h : LnR x) : ∀ p ∈ kwS x.kind.toNat :: (frmI x.kind.toNat).map (wrdC x), ∀ b ∈ p.data.toList, b ≠ 32 ∧ b ≠ 10 := fun p hp => by
  rcases List.mem_cons.1 hp with rfl | hp
  · exact kw_clean (by have := h.k2; omega)
  · obtain ⟨ch, hc, rfl⟩ := List.mem_map.1 hp
    exact rd_clean (h.ok ch hc)
theorem LnR.words {x : Ln} (h : LnR x) : splitC 32 (lnT x) = kwS x.kind.toNat :: (frmI x.kind.toNat).map (wrdC x) :=
  spl_jn (List.cons_ne_nil _ _) (fun p hp hm => (h.clean p hp 32 hm).1 rfl) rfl
theorem LnR.no10 {x : Ln} (h : LnR x) : (10 : UInt8) ∉ (lnT x).data.toList := by
  intro hm
  have hm : (10 : UInt8) ∈ jn (kwS x.kind.toNat :: (frmI x.kind.toNat).map (wrdC x)) := hm
  have h1 : (10 : UInt8) ∈ (32 : UInt8) :: jn (kwS x.kind.toNat :: (frmI x.kind.toNat).map (wrdC x)) := List.mem_cons_of_mem _ hm
  rw [← jn_flat (List.cons_ne_nil _ _)] at h1
  obtain ⟨p, hp, hb⟩ := List.mem_flatMap.1 h1
  obtain ⟨q, hq, rfl⟩ := List.mem_map.1 hp
  rcases List.mem_cons.1 hb with e | hb
  · exact absurd e (by decide)
  · exact (h.clean q hq 10 hb).2 rfl

theorem kw_inj {i j : Nat} (hi : i < 12) (hj : j < 12) (h : kwS i = kwS j) : i = j := by
  have hall : ((List.range 12).all fun i => (List.range 12).all fun j => decide (i = j) || !decide ((kwS i).data.toList = (kwS j).data.toList)) = true := by decide +kernel
  have h1 := List.all_eq_true.1 (List.all_eq_true.1 hall i (by simpa using hi)) j (by simpa using hj)
  rw [h] at h1
  simpa using h1
theorem kind_kw {n : Nat} (h : n < 12) : kindF (kwS n) = n := kindF_hit h (fun j hj e => by have := kw_inj (by omega) h e; omega) rfl
theorem kind_is {s : ByteArray} (h : kindF s ≠ 0) : kwS (kindF s) = s := by
  unfold kindF at h ⊢
  cases e : (List.range 12).find? (fun i => decide (kwS i = s)) with
  | none => rw [e] at h; exact absurd rfl h
  | some i => simpa using List.find?_some e

/-- The forms, as numbers. -/
theorem frm_1 : frmI 1 = [78, 76, 90, 62, 48] := by decide +kernel
theorem frm_2 : frmI 2 = [78, 76, 90, 62, 48] := by decide +kernel
theorem frm_3 : frmI 3 = [78, 76, 90, 62, 48] := by decide +kernel
theorem frm_4 : frmI 4 = [78, 76, 90, 62, 48, 49] := by decide +kernel
theorem frm_5 : frmI 5 = [78, 76, 90, 62, 48, 49] := by decide +kernel
theorem frm_6 : frmI 6 = [78, 76, 90, 62, 48, 49] := by decide +kernel
theorem frm_7 : frmI 7 = [78, 90, 62, 48] := by decide +kernel
theorem frm_8 : frmI 8 = [78, 90] := by decide +kernel
theorem frm_9 : frmI 9 = [78, 90] := by decide +kernel
theorem frm_10 : frmI 10 = [48, 87] := by decide +kernel
theorem frm_11 : frmI 11 = [48, 87] := by decide +kernel
theorem frm_len (n : Nat) : (frmI n).length = (kfS n).size := by unfold frmI; simp

theorem num_dec {s : ByteArray} (h : numOk s = true) : decS (numV s) = s := by
  unfold numOk at h
  rw [Bool.and_eq_true, Bool.and_eq_true, toList_eq] at h
  exact of_decide_eq_true h.2.2
theorem num_range {s : ByteArray} (h : numOk s = true) : 0 ≤ numV s ∧ numV s ≤ 999 := by
  unfold numOk at h
  simp only [Bool.and_eq_true, decide_eq_true_eq] at h
  exact ⟨numV_pos s h.1, h.2.1⟩
theorem numV_dec {n : Int} (h0 : 0 ≤ n) (h1 : n ≤ 999) : numV (decS n) = n := by
  have hb : numB (decS n) = true := by
    have hz := decS_size n
    rw [numB_of ⟨hz.1, by omega⟩]; exact decS_dig n
  rw [numV_yes hb]; exact decS_val h0 (by omega)
theorem dec_ok3 {n : Int} (h0 : 0 ≤ n) (h1 : n ≤ 999) : numOk (decS n) = true := by
  have hb : numB (decS n) = true := by
    have hz := decS_size n
    rw [numB_of ⟨hz.1, by omega⟩]; exact decS_dig n
  unfold numOk
  rw [hb, numV_dec h0 h1]
  simp [h1]

theorem two_of {α : Type} {l : List α} (h : l.length = 2) : ∃ a b, l = [a, b] := by
  match l, h with
  | [a, b], _ => exact ⟨a, b, rfl⟩
theorem one_of {α : Type} {l : List α} (h : l.length = 1) : ∃ a, l = [a] := by
  match l, h with
  | [a], _ => exact ⟨a, rfl⟩
theorem nil_of {α : Type} {l : List α} (h : l.length = 0) : l = [] := List.length_eq_zero_iff.1 h
theorem kf_full : ((List.range 12).all fun n => decide (n = 0) || !(kfS n).toList.isEmpty) = true := by decide +kernel
theorem kf_size (n : Nat) : (kfS n).size = (frmI n).length := (frm_len n).symm
theorem fold_kind {x : Ln} (h : LnR x) : lnFold x.kind.toNat (kwS x.kind.toNat :: (frmI x.kind.toNat).map (wrdC x)) (frmI x.kind.toNat).length = x := by
  obtain ⟨k, nm, ln, zn, wn, ot⟩ := x
  obtain ⟨k1, k2, _, hn, hl, hz, hw, ⟨l0, l1⟩, ⟨z0, z1⟩, ⟨w0, w1⟩, ho⟩ := h
  simp only [] at k1 k2 hn hl hz hw ho l0 l1 z0 z1 w0 w1
  have vl := numV_dec l0 l1
  have vz := numV_dec z0 z1
  have vw := numV_dec w0 w1
  have hk : k = 1 ∨ k = 2 ∨ k = 3 ∨ k = 4 ∨ k = 5 ∨ k = 6 ∨ k = 7 ∨ k = 8 ∨ k = 9 ∨ k = 10 ∨ k = 11 := by omega
  rcases hk with rfl | rfl | rfl | rfl | rfl | rfl | rfl | rfl | rfl | rfl | rfl
  all_goals
    simp only [Int.reduceToNat] at ho ⊢
    first | (simp at hn; subst hn) | skip
    first | (simp at hl; subst hl) | skip
    first | (simp at hz; subst hz) | skip
    first | (simp at hw; subst hw) | skip
  all_goals first
    | (obtain ⟨a, rfl⟩ := one_of ho)
    | (obtain rfl := nil_of ho)
    | (obtain ⟨a, b, rfl⟩ := two_of ho)
  all_goals simp [frm_1, frm_2, frm_3, frm_4, frm_5, frm_6, frm_7, frm_8, frm_9, frm_10, frm_11, lnFold, rdStep, wrdC, *] <;> rfl
/-- A line that is written is read. -/
theorem LnR.read {x : Ln} (h : LnR x) : readF (lnT x) = some x := by
  have hk := h.k2
  have hk1 := h.k1
  unfold readF
  rw [h.words]
  have e : lnKind (kwS x.kind.toNat :: (frmI x.kind.toNat).map (wrdC x)) = x.kind.toNat := by
    unfold lnKind; exact kind_kw (by omega)
  have e2 : lnSized (kwS x.kind.toNat :: (frmI x.kind.toNat).map (wrdC x)) = true := by
    unfold lnSized
    rw [e, List.length_cons, List.length_map, ← kf_size]
    have hn : (kfS x.kind.toNat).toList.isEmpty = false := by
      have := List.all_eq_true.1 kf_full x.kind.toNat (by simp; omega)
      have h0 : decide (x.kind.toNat = 0) = false := decide_eq_false (by omega)
      rw [h0, Bool.false_or] at this
      simpa using this
    rw [hn, bne_eq_false_iff_eq.2 (by push_cast; omega)]
    rfl
  rw [readW_yes e2 (fun j hj => by
    rw [e] at hj ⊢
    rw [kf_size] at hj
    unfold rdAt
    rw [at_k hj]
    have : (kwS x.kind.toNat :: (frmI x.kind.toNat).map (wrdC x)).getD (j + 1) ByteArray.empty = wrdC x ((frmI x.kind.toNat)[j]) := by
      show ((frmI x.kind.toNat).map (wrdC x)).getD j ByteArray.empty = _
      rw [at_k (by rw [List.length_map]; exact hj), List.getElem_map]
    rw [this]
    exact h.ok _ (List.getElem_mem _)), e, kf_size, fold_kind h]
/-- A line that is read is the one that is written. -/
theorem read_inv {s : ByteArray} {x : Ln} (h : readF s = some x) : LnR x ∧ lnT x = s := by
  unfold readF at h
  generalize hw : splitC 32 s = ws at h
  have hj := jn_spl s
  rw [hw] at hj
  cases h1 : lnSized ws with
  | false => rw [readW_no1 h1] at h; cases h
  | true =>
    have h1' := h1
    unfold lnSized at h1'
    rw [Bool.not_eq_true', Bool.or_eq_false_iff] at h1'
    obtain ⟨hne, hlen⟩ := h1'
    rw [bne_eq_false_iff_eq] at hlen
    have hall : ∀ j, j < (kfS (lnKind ws)).size → rdAt (lnKind ws) ws j = true := fun j hj' => by
      cases hh : rdAt (lnKind ws) ws j with
      | true => rfl
      | false => rw [readW_no2 h1 hj' hh] at h; cases h
    rw [readW_yes h1 hall] at h
    have hx := Option.some.inj h
    have hk12 : lnKind ws < 12 := kindF_lt _
    have hk0 : lnKind ws ≠ 0 := fun e => by
      rw [e] at hne
      exact absurd hne (by decide +kernel)
    have hkw : kwS (lnKind ws) = ws.getD 0 ByteArray.empty := kind_is hk0
    generalize lnKind ws = k at *
    have hk : k = 1 ∨ k = 2 ∨ k = 3 ∨ k = 4 ∨ k = 5 ∨ k = 6 ∨ k = 7 ∨ k = 8 ∨ k = 9 ∨ k = 10 ∨ k = 11 := by omega
    rw [kf_size] at hall hx hlen
    unfold rdAt at hall
    clear h h1 hne
    rcases hk with rfl | rfl | rfl | rfl | rfl | rfl | rfl | rfl | rfl | rfl | rfl
    all_goals simp only [frm_1, frm_2, frm_3, frm_4, frm_5, frm_6, frm_7, frm_8, frm_9, frm_10, frm_11, List.length_cons, List.length_nil, Nat.reduceAdd] at hall hx hlen
    · match ws, (show ws.length = 6 by omega) with
      | [w0, w1, w2, w3, w4, w5], _ =>
        have o0 : rdOk 78 w1 = true := hall 0 (by omega)
        have o1 : rdOk 76 w2 = true := hall 1 (by omega)
        have p1 : numOk w2 = true := by simpa [rdOk] using o1
        have d1 := num_dec p1
        have r1 := num_range p1
        have o2 : rdOk 90 w3 = true := hall 2 (by omega)
        have p2 : numOk w3 = true := by simpa [rdOk] using o2
        have d2 := num_dec p2
        have r2 := num_range p2
        have o3 : rdOk 62 w4 = true := hall 3 (by omega)
        have e3 : w4 = ⟨#[62]⟩ := is_62 (by simpa [rdOk] using o3)
        have o4 : rdOk 48 w5 = true := hall 4 (by omega)
        have hx' : x = (⟨1, w1, numV w2, numV w3, 0, [w5]⟩ : Ln) := by rw [← hx]; simp [lnFold, rdStep, frm_1]
        rw [hx']
        refine ⟨⟨show (1 : Int) ≤ 1 by decide, show (1 : Int) ≤ 11 by decide, fun ch hch => ?_, fun h => ?_, fun h => ?_, fun h => ?_, fun h => ?_, r1, r2, ⟨show (0 : Int) ≤ 0 by decide, show (0 : Int) ≤ 999 by decide⟩, show (1 : Nat) = needN 1 by decide⟩, ba_ext ?_⟩
        · have hch : ch ∈ frmI 1 := hch
          rw [frm_1] at hch
          simp only [List.mem_cons, List.not_mem_nil, or_false] at hch
          rcases hch with rfl | rfl | rfl | rfl | rfl
          · exact o0
          · show rdOk 76 (decS (numV w2)) = true; rw [d1]; exact o1
          · show rdOk 90 (decS (numV w3)) = true; rw [d2]; exact o2
          · show rdOk 62 ⟨#[62]⟩ = true; decide +kernel
          · exact o4
        · exact absurd (show (9 : Int) < 1 from h) (by decide)
        · exact absurd (show (6 : Int) < 1 from h) (by decide)
        · exact absurd (show (9 : Int) < 1 from h) (by decide)
        · rfl
        · rw [← hj]
          show jn (kwS 1 :: (frmI 1).map (wrdC ⟨1, w1, numV w2, numV w3, 0, [w5]⟩)) = jn [w0, w1, w2, w3, w4, w5]
          rw [frm_1]
          show jn [kwS 1, w1, decS (numV w2), decS (numV w3), ⟨#[62]⟩, w5] = jn [w0, w1, w2, w3, w4, w5]
          rw [show kwS 1 = w0 from hkw, d1, d2, ← e3]
    · match ws, (show ws.length = 6 by omega) with
      | [w0, w1, w2, w3, w4, w5], _ =>
        have o0 : rdOk 78 w1 = true := hall 0 (by omega)
        have o1 : rdOk 76 w2 = true := hall 1 (by omega)
        have p1 : numOk w2 = true := by simpa [rdOk] using o1
        have d1 := num_dec p1
        have r1 := num_range p1
        have o2 : rdOk 90 w3 = true := hall 2 (by omega)
        have p2 : numOk w3 = true := by simpa [rdOk] using o2
        have d2 := num_dec p2
        have r2 := num_range p2
        have o3 : rdOk 62 w4 = true := hall 3 (by omega)
        have e3 : w4 = ⟨#[62]⟩ := is_62 (by simpa [rdOk] using o3)
        have o4 : rdOk 48 w5 = true := hall 4 (by omega)
        have hx' : x = (⟨2, w1, numV w2, numV w3, 0, [w5]⟩ : Ln) := by rw [← hx]; simp [lnFold, rdStep, frm_2]
        rw [hx']
        refine ⟨⟨show (1 : Int) ≤ 2 by decide, show (2 : Int) ≤ 11 by decide, fun ch hch => ?_, fun h => ?_, fun h => ?_, fun h => ?_, fun h => ?_, r1, r2, ⟨show (0 : Int) ≤ 0 by decide, show (0 : Int) ≤ 999 by decide⟩, show (1 : Nat) = needN 2 by decide⟩, ba_ext ?_⟩
        · have hch : ch ∈ frmI 2 := hch
          rw [frm_2] at hch
          simp only [List.mem_cons, List.not_mem_nil, or_false] at hch
          rcases hch with rfl | rfl | rfl | rfl | rfl
          · exact o0
          · show rdOk 76 (decS (numV w2)) = true; rw [d1]; exact o1
          · show rdOk 90 (decS (numV w3)) = true; rw [d2]; exact o2
          · show rdOk 62 ⟨#[62]⟩ = true; decide +kernel
          · exact o4
        · exact absurd (show (9 : Int) < 2 from h) (by decide)
        · exact absurd (show (6 : Int) < 2 from h) (by decide)
        · exact absurd (show (9 : Int) < 2 from h) (by decide)
        · rfl
        · rw [← hj]
          show jn (kwS 2 :: (frmI 2).map (wrdC ⟨2, w1, numV w2, numV w3, 0, [w5]⟩)) = jn [w0, w1, w2, w3, w4, w5]
          rw [frm_2]
          show jn [kwS 2, w1, decS (numV w2), decS (numV w3), ⟨#[62]⟩, w5] = jn [w0, w1, w2, w3, w4, w5]
          rw [show kwS 2 = w0 from hkw, d1, d2, ← e3]
    · match ws, (show ws.length = 6 by omega) with
      | [w0, w1, w2, w3, w4, w5], _ =>
        have o0 : rdOk 78 w1 = true := hall 0 (by omega)
        have o1 : rdOk 76 w2 = true := hall 1 (by omega)
        have p1 : numOk w2 = true := by simpa [rdOk] using o1
        have d1 := num_dec p1
        have r1 := num_range p1
        have o2 : rdOk 90 w3 = true := hall 2 (by omega)
        have p2 : numOk w3 = true := by simpa [rdOk] using o2
        have d2 := num_dec p2
        have r2 := num_range p2
        have o3 : rdOk 62 w4 = true := hall 3 (by omega)
        have e3 : w4 = ⟨#[62]⟩ := is_62 (by simpa [rdOk] using o3)
        have o4 : rdOk 48 w5 = true := hall 4 (by omega)
        have hx' : x = (⟨3, w1, numV w2, numV w3, 0, [w5]⟩ : Ln) := by rw [← hx]; simp [lnFold, rdStep, frm_3]
        rw [hx']
        refine ⟨⟨show (1 : Int) ≤ 3 by decide, show (3 : Int) ≤ 11 by decide, fun ch hch => ?_, fun h => ?_, fun h => ?_, fun h => ?_, fun h => ?_, r1, r2, ⟨show (0 : Int) ≤ 0 by decide, show (0 : Int) ≤ 999 by decide⟩, show (1 : Nat) = needN 3 by decide⟩, ba_ext ?_⟩
        · have hch : ch ∈ frmI 3 := hch
          rw [frm_3] at hch
          simp only [List.mem_cons, List.not_mem_nil, or_false] at hch
          rcases hch with rfl | rfl | rfl | rfl | rfl
          · exact o0
          · show rdOk 76 (decS (numV w2)) = true; rw [d1]; exact o1
          · show rdOk 90 (decS (numV w3)) = true; rw [d2]; exact o2
          · show rdOk 62 ⟨#[62]⟩ = true; decide +kernel
          · exact o4
        · exact absurd (show (9 : Int) < 3 from h) (by decide)
        · exact absurd (show (6 : Int) < 3 from h) (by decide)
        · exact absurd (show (9 : Int) < 3 from h) (by decide)
        · rfl
        · rw [← hj]
          show jn (kwS 3 :: (frmI 3).map (wrdC ⟨3, w1, numV w2, numV w3, 0, [w5]⟩)) = jn [w0, w1, w2, w3, w4, w5]
          rw [frm_3]
          show jn [kwS 3, w1, decS (numV w2), decS (numV w3), ⟨#[62]⟩, w5] = jn [w0, w1, w2, w3, w4, w5]
          rw [show kwS 3 = w0 from hkw, d1, d2, ← e3]
    · match ws, (show ws.length = 7 by omega) with
      | [w0, w1, w2, w3, w4, w5, w6], _ =>
        have o0 : rdOk 78 w1 = true := hall 0 (by omega)
        have o1 : rdOk 76 w2 = true := hall 1 (by omega)
        have p1 : numOk w2 = true := by simpa [rdOk] using o1
        have d1 := num_dec p1
        have r1 := num_range p1
        have o2 : rdOk 90 w3 = true := hall 2 (by omega)
        have p2 : numOk w3 = true := by simpa [rdOk] using o2
        have d2 := num_dec p2
        have r2 := num_range p2
        have o3 : rdOk 62 w4 = true := hall 3 (by omega)
        have e3 : w4 = ⟨#[62]⟩ := is_62 (by simpa [rdOk] using o3)
        have o4 : rdOk 48 w5 = true := hall 4 (by omega)
        have o5 : rdOk 49 w6 = true := hall 5 (by omega)
        have hx' : x = (⟨4, w1, numV w2, numV w3, 0, [w5, w6]⟩ : Ln) := by rw [← hx]; simp [lnFold, rdStep, frm_4]
        rw [hx']
        refine ⟨⟨show (1 : Int) ≤ 4 by decide, show (4 : Int) ≤ 11 by decide, fun ch hch => ?_, fun h => ?_, fun h => ?_, fun h => ?_, fun h => ?_, r1, r2, ⟨show (0 : Int) ≤ 0 by decide, show (0 : Int) ≤ 999 by decide⟩, show (2 : Nat) = needN 4 by decide⟩, ba_ext ?_⟩
        · have hch : ch ∈ frmI 4 := hch
          rw [frm_4] at hch
          simp only [List.mem_cons, List.not_mem_nil, or_false] at hch
          rcases hch with rfl | rfl | rfl | rfl | rfl | rfl
          · exact o0
          · show rdOk 76 (decS (numV w2)) = true; rw [d1]; exact o1
          · show rdOk 90 (decS (numV w3)) = true; rw [d2]; exact o2
          · show rdOk 62 ⟨#[62]⟩ = true; decide +kernel
          · exact o4
          · exact o5
        · exact absurd (show (9 : Int) < 4 from h) (by decide)
        · exact absurd (show (6 : Int) < 4 from h) (by decide)
        · exact absurd (show (9 : Int) < 4 from h) (by decide)
        · rfl
        · rw [← hj]
          show jn (kwS 4 :: (frmI 4).map (wrdC ⟨4, w1, numV w2, numV w3, 0, [w5, w6]⟩)) = jn [w0, w1, w2, w3, w4, w5, w6]
          rw [frm_4]
          show jn [kwS 4, w1, decS (numV w2), decS (numV w3), ⟨#[62]⟩, w5, w6] = jn [w0, w1, w2, w3, w4, w5, w6]
          rw [show kwS 4 = w0 from hkw, d1, d2, ← e3]
    · match ws, (show ws.length = 7 by omega) with
      | [w0, w1, w2, w3, w4, w5, w6], _ =>
        have o0 : rdOk 78 w1 = true := hall 0 (by omega)
        have o1 : rdOk 76 w2 = true := hall 1 (by omega)
        have p1 : numOk w2 = true := by simpa [rdOk] using o1
        have d1 := num_dec p1
        have r1 := num_range p1
        have o2 : rdOk 90 w3 = true := hall 2 (by omega)
        have p2 : numOk w3 = true := by simpa [rdOk] using o2
        have d2 := num_dec p2
        have r2 := num_range p2
        have o3 : rdOk 62 w4 = true := hall 3 (by omega)
        have e3 : w4 = ⟨#[62]⟩ := is_62 (by simpa [rdOk] using o3)
        have o4 : rdOk 48 w5 = true := hall 4 (by omega)
        have o5 : rdOk 49 w6 = true := hall 5 (by omega)
        have hx' : x = (⟨5, w1, numV w2, numV w3, 0, [w5, w6]⟩ : Ln) := by rw [← hx]; simp [lnFold, rdStep, frm_5]
        rw [hx']
        refine ⟨⟨show (1 : Int) ≤ 5 by decide, show (5 : Int) ≤ 11 by decide, fun ch hch => ?_, fun h => ?_, fun h => ?_, fun h => ?_, fun h => ?_, r1, r2, ⟨show (0 : Int) ≤ 0 by decide, show (0 : Int) ≤ 999 by decide⟩, show (2 : Nat) = needN 5 by decide⟩, ba_ext ?_⟩
        · have hch : ch ∈ frmI 5 := hch
          rw [frm_5] at hch
          simp only [List.mem_cons, List.not_mem_nil, or_false] at hch
          rcases hch with rfl | rfl | rfl | rfl | rfl | rfl
          · exact o0
          · show rdOk 76 (decS (numV w2)) = true; rw [d1]; exact o1
          · show rdOk 90 (decS (numV w3)) = true; rw [d2]; exact o2
          · show rdOk 62 ⟨#[62]⟩ = true; decide +kernel
          · exact o4
          · exact o5
        · exact absurd (show (9 : Int) < 5 from h) (by decide)
        · exact absurd (show (6 : Int) < 5 from h) (by decide)
        · exact absurd (show (9 : Int) < 5 from h) (by decide)
        · rfl
        · rw [← hj]
          show jn (kwS 5 :: (frmI 5).map (wrdC ⟨5, w1, numV w2, numV w3, 0, [w5, w6]⟩)) = jn [w0, w1, w2, w3, w4, w5, w6]
          rw [frm_5]
          show jn [kwS 5, w1, decS (numV w2), decS (numV w3), ⟨#[62]⟩, w5, w6] = jn [w0, w1, w2, w3, w4, w5, w6]
          rw [show kwS 5 = w0 from hkw, d1, d2, ← e3]
    · match ws, (show ws.length = 7 by omega) with
      | [w0, w1, w2, w3, w4, w5, w6], _ =>
        have o0 : rdOk 78 w1 = true := hall 0 (by omega)
        have o1 : rdOk 76 w2 = true := hall 1 (by omega)
        have p1 : numOk w2 = true := by simpa [rdOk] using o1
        have d1 := num_dec p1
        have r1 := num_range p1
        have o2 : rdOk 90 w3 = true := hall 2 (by omega)
        have p2 : numOk w3 = true := by simpa [rdOk] using o2
        have d2 := num_dec p2
        have r2 := num_range p2
        have o3 : rdOk 62 w4 = true := hall 3 (by omega)
        have e3 : w4 = ⟨#[62]⟩ := is_62 (by simpa [rdOk] using o3)
        have o4 : rdOk 48 w5 = true := hall 4 (by omega)
        have o5 : rdOk 49 w6 = true := hall 5 (by omega)
        have hx' : x = (⟨6, w1, numV w2, numV w3, 0, [w5, w6]⟩ : Ln) := by rw [← hx]; simp [lnFold, rdStep, frm_6]
        rw [hx']
        refine ⟨⟨show (1 : Int) ≤ 6 by decide, show (6 : Int) ≤ 11 by decide, fun ch hch => ?_, fun h => ?_, fun h => ?_, fun h => ?_, fun h => ?_, r1, r2, ⟨show (0 : Int) ≤ 0 by decide, show (0 : Int) ≤ 999 by decide⟩, show (2 : Nat) = needN 6 by decide⟩, ba_ext ?_⟩
        · have hch : ch ∈ frmI 6 := hch
          rw [frm_6] at hch
          simp only [List.mem_cons, List.not_mem_nil, or_false] at hch
          rcases hch with rfl | rfl | rfl | rfl | rfl | rfl
          · exact o0
          · show rdOk 76 (decS (numV w2)) = true; rw [d1]; exact o1
          · show rdOk 90 (decS (numV w3)) = true; rw [d2]; exact o2
          · show rdOk 62 ⟨#[62]⟩ = true; decide +kernel
          · exact o4
          · exact o5
        · exact absurd (show (9 : Int) < 6 from h) (by decide)
        · exact absurd (show (6 : Int) < 6 from h) (by decide)
        · exact absurd (show (9 : Int) < 6 from h) (by decide)
        · rfl
        · rw [← hj]
          show jn (kwS 6 :: (frmI 6).map (wrdC ⟨6, w1, numV w2, numV w3, 0, [w5, w6]⟩)) = jn [w0, w1, w2, w3, w4, w5, w6]
          rw [frm_6]
          show jn [kwS 6, w1, decS (numV w2), decS (numV w3), ⟨#[62]⟩, w5, w6] = jn [w0, w1, w2, w3, w4, w5, w6]
          rw [show kwS 6 = w0 from hkw, d1, d2, ← e3]
    · match ws, (show ws.length = 5 by omega) with
      | [w0, w1, w2, w3, w4], _ =>
        have o0 : rdOk 78 w1 = true := hall 0 (by omega)
        have o1 : rdOk 90 w2 = true := hall 1 (by omega)
        have p1 : numOk w2 = true := by simpa [rdOk] using o1
        have d1 := num_dec p1
        have r1 := num_range p1
        have o2 : rdOk 62 w3 = true := hall 2 (by omega)
        have e2 : w3 = ⟨#[62]⟩ := is_62 (by simpa [rdOk] using o2)
        have o3 : rdOk 48 w4 = true := hall 3 (by omega)
        have hx' : x = (⟨7, w1, 0, numV w2, 0, [w4]⟩ : Ln) := by rw [← hx]; simp [lnFold, rdStep, frm_7]
        rw [hx']
        refine ⟨⟨show (1 : Int) ≤ 7 by decide, show (7 : Int) ≤ 11 by decide, fun ch hch => ?_, fun h => ?_, fun h => ?_, fun h => ?_, fun h => ?_, ⟨show (0 : Int) ≤ 0 by decide, show (0 : Int) ≤ 999 by decide⟩, r1, ⟨show (0 : Int) ≤ 0 by decide, show (0 : Int) ≤ 999 by decide⟩, show (1 : Nat) = needN 7 by decide⟩, ba_ext ?_⟩
        · have hch : ch ∈ frmI 7 := hch
          rw [frm_7] at hch
          simp only [List.mem_cons, List.not_mem_nil, or_false] at hch
          rcases hch with rfl | rfl | rfl | rfl
          · exact o0
          · show rdOk 90 (decS (numV w2)) = true; rw [d1]; exact o1
          · show rdOk 62 ⟨#[62]⟩ = true; decide +kernel
          · exact o3
        · exact absurd (show (9 : Int) < 7 from h) (by decide)
        · rfl
        · exact absurd (show (9 : Int) < 7 from h) (by decide)
        · rfl
        · rw [← hj]
          show jn (kwS 7 :: (frmI 7).map (wrdC ⟨7, w1, 0, numV w2, 0, [w4]⟩)) = jn [w0, w1, w2, w3, w4]
          rw [frm_7]
          show jn [kwS 7, w1, decS (numV w2), ⟨#[62]⟩, w4] = jn [w0, w1, w2, w3, w4]
          rw [show kwS 7 = w0 from hkw, d1, ← e2]
    · match ws, (show ws.length = 3 by omega) with
      | [w0, w1, w2], _ =>
        have o0 : rdOk 78 w1 = true := hall 0 (by omega)
        have o1 : rdOk 90 w2 = true := hall 1 (by omega)
        have p1 : numOk w2 = true := by simpa [rdOk] using o1
        have d1 := num_dec p1
        have r1 := num_range p1
        have hx' : x = (⟨8, w1, 0, numV w2, 0, []⟩ : Ln) := by rw [← hx]; simp [lnFold, rdStep, frm_8]
        rw [hx']
        refine ⟨⟨show (1 : Int) ≤ 8 by decide, show (8 : Int) ≤ 11 by decide, fun ch hch => ?_, fun h => ?_, fun h => ?_, fun h => ?_, fun h => ?_, ⟨show (0 : Int) ≤ 0 by decide, show (0 : Int) ≤ 999 by decide⟩, r1, ⟨show (0 : Int) ≤ 0 by decide, show (0 : Int) ≤ 999 by decide⟩, show (0 : Nat) = needN 8 by decide⟩, ba_ext ?_⟩
        · have hch : ch ∈ frmI 8 := hch
          rw [frm_8] at hch
          simp only [List.mem_cons, List.not_mem_nil, or_false] at hch
          rcases hch with rfl | rfl
          · exact o0
          · show rdOk 90 (decS (numV w2)) = true; rw [d1]; exact o1
        · exact absurd (show (9 : Int) < 8 from h) (by decide)
        · rfl
        · exact absurd (show (9 : Int) < 8 from h) (by decide)
        · rfl
        · rw [← hj]
          show jn (kwS 8 :: (frmI 8).map (wrdC ⟨8, w1, 0, numV w2, 0, []⟩)) = jn [w0, w1, w2]
          rw [frm_8]
          show jn [kwS 8, w1, decS (numV w2)] = jn [w0, w1, w2]
          rw [show kwS 8 = w0 from hkw, d1]
    · match ws, (show ws.length = 3 by omega) with
      | [w0, w1, w2], _ =>
        have o0 : rdOk 78 w1 = true := hall 0 (by omega)
        have o1 : rdOk 90 w2 = true := hall 1 (by omega)
        have p1 : numOk w2 = true := by simpa [rdOk] using o1
        have d1 := num_dec p1
        have r1 := num_range p1
        have hx' : x = (⟨9, w1, 0, numV w2, 0, []⟩ : Ln) := by rw [← hx]; simp [lnFold, rdStep, frm_9]
        rw [hx']
        refine ⟨⟨show (1 : Int) ≤ 9 by decide, show (9 : Int) ≤ 11 by decide, fun ch hch => ?_, fun h => ?_, fun h => ?_, fun h => ?_, fun h => ?_, ⟨show (0 : Int) ≤ 0 by decide, show (0 : Int) ≤ 999 by decide⟩, r1, ⟨show (0 : Int) ≤ 0 by decide, show (0 : Int) ≤ 999 by decide⟩, show (0 : Nat) = needN 9 by decide⟩, ba_ext ?_⟩
        · have hch : ch ∈ frmI 9 := hch
          rw [frm_9] at hch
          simp only [List.mem_cons, List.not_mem_nil, or_false] at hch
          rcases hch with rfl | rfl
          · exact o0
          · show rdOk 90 (decS (numV w2)) = true; rw [d1]; exact o1
        · exact absurd (show (9 : Int) < 9 from h) (by decide)
        · rfl
        · exact absurd (show (9 : Int) < 9 from h) (by decide)
        · rfl
        · rw [← hj]
          show jn (kwS 9 :: (frmI 9).map (wrdC ⟨9, w1, 0, numV w2, 0, []⟩)) = jn [w0, w1, w2]
          rw [frm_9]
          show jn [kwS 9, w1, decS (numV w2)] = jn [w0, w1, w2]
          rw [show kwS 9 = w0 from hkw, d1]
    · match ws, (show ws.length = 3 by omega) with
      | [w0, w1, w2], _ =>
        have o0 : rdOk 48 w1 = true := hall 0 (by omega)
        have o1 : rdOk 87 w2 = true := hall 1 (by omega)
        have p1 : numOk w2 = true := by simpa [rdOk] using o1
        have d1 := num_dec p1
        have r1 := num_range p1
        have hx' : x = (⟨10, ⟨#[]⟩, 0, 0, numV w2, [w1]⟩ : Ln) := by rw [← hx]; simp [lnFold, rdStep, frm_10]
        rw [hx']
        refine ⟨⟨show (1 : Int) ≤ 10 by decide, show (10 : Int) ≤ 11 by decide, fun ch hch => ?_, fun h => ?_, fun h => ?_, fun h => ?_, fun h => ?_, ⟨show (0 : Int) ≤ 0 by decide, show (0 : Int) ≤ 999 by decide⟩, ⟨show (0 : Int) ≤ 0 by decide, show (0 : Int) ≤ 999 by decide⟩, r1, show (1 : Nat) = needN 10 by decide⟩, ba_ext ?_⟩
        · have hch : ch ∈ frmI 10 := hch
          rw [frm_10] at hch
          simp only [List.mem_cons, List.not_mem_nil, or_false] at hch
          rcases hch with rfl | rfl
          · exact o0
          · show rdOk 87 (decS (numV w2)) = true; rw [d1]; exact o1
        · rfl
        · rfl
        · rfl
        · exact absurd (show (10 : Int) ≤ 9 from h) (by decide)
        · rw [← hj]
          show jn (kwS 10 :: (frmI 10).map (wrdC ⟨10, ⟨#[]⟩, 0, 0, numV w2, [w1]⟩)) = jn [w0, w1, w2]
          rw [frm_10]
          show jn [kwS 10, w1, decS (numV w2)] = jn [w0, w1, w2]
          rw [show kwS 10 = w0 from hkw, d1]
    · match ws, (show ws.length = 3 by omega) with
      | [w0, w1, w2], _ =>
        have o0 : rdOk 48 w1 = true := hall 0 (by omega)
        have o1 : rdOk 87 w2 = true := hall 1 (by omega)
        have p1 : numOk w2 = true := by simpa [rdOk] using o1
        have d1 := num_dec p1
        have r1 := num_range p1
        have hx' : x = (⟨11, ⟨#[]⟩, 0, 0, numV w2, [w1]⟩ : Ln) := by rw [← hx]; simp [lnFold, rdStep, frm_11]
        rw [hx']
        refine ⟨⟨show (1 : Int) ≤ 11 by decide, show (11 : Int) ≤ 11 by decide, fun ch hch => ?_, fun h => ?_, fun h => ?_, fun h => ?_, fun h => ?_, ⟨show (0 : Int) ≤ 0 by decide, show (0 : Int) ≤ 999 by decide⟩, ⟨show (0 : Int) ≤ 0 by decide, show (0 : Int) ≤ 999 by decide⟩, r1, show (1 : Nat) = needN 11 by decide⟩, ba_ext ?_⟩
        · have hch : ch ∈ frmI 11 := hch
          rw [frm_11] at hch
          simp only [List.mem_cons, List.not_mem_nil, or_false] at hch
          rcases hch with rfl | rfl
          · exact o0
          · show rdOk 87 (decS (numV w2)) = true; rw [d1]; exact o1
        · rfl
        · rfl
        · rfl
        · exact absurd (show (11 : Int) ≤ 9 from h) (by decide)
        · rw [← hj]
          show jn (kwS 11 :: (frmI 11).map (wrdC ⟨11, ⟨#[]⟩, 0, 0, numV w2, [w1]⟩)) = jn [w0, w1, w2]
          rw [frm_11]
          show jn [kwS 11, w1, decS (numV w2)] = jn [w0, w1, w2]
          rw [show kwS 11 = w0 from hkw, d1]
/-- The lines of a layout. -/
def lnsOf (z : Lay) : List Ln := z.nodes.map (lnNd z.nodes) ++ z.devs.map (lnDv z.nodes)
theorem fmt_lns (z : Lay) : fmtX z = txtL (lnsOf z) := by
  unfold fmtX txtL lnsOf
  rw [List.flatMap_append, List.flatMap_map, List.flatMap_map]
  have e1 : ndX z.nodes = fun x => (lnT (lnNd z.nodes x)).data.toList ++ [10] := funext fun x => lin_list (lnNd z.nodes x)
  have e2 : dvX z.nodes = fun x => (lnT (lnDv z.nodes x)).data.toList ++ [10] := funext fun x => lin_list (lnDv z.nodes x)
  rw [e1, e2]
theorem fol_of {ls : List Ln} {n i : Nat} (hs : SplitL ls n) (hi : i < ls.length) : folB (ls.take i) (ls.getD i ln0) = true := by
  unfold folB
  have hl : (ls.take i).length = i := by rw [List.length_take]; omega
  rw [hl]
  by_cases h0 : i = 0
  · rw [decide_eq_true h0]; rfl
  · have e : (ls.take i).getD (i - 1) ln0 = ls.getD (i - 1) ln0 := by
      rw [at_k (by omega), at_k (by omega), List.getElem_take]
    have h1 := hs.2 i hi
    have h2 := hs.2 (i - 1) (by omega)
    unfold isDv at h1 h2
    rw [e, h1, h2]
    by_cases hn : n ≤ i
    · rw [decide_eq_true hn]; simp
    · rw [decide_eq_false (show ¬ n ≤ i - 1 by omega)]; simp
theorem take_snoc_at {α : Type} {l : List α} {d : α} {i : Nat} (h : i < l.length) : l.take i ++ [l.getD i d] = l.take (i + 1) := by
  rw [List.take_succ_eq_append_getElem h, at_k h]
theorem txtL_drop {ls : List Ln} {i : Nat} (h : i < ls.length) : txtL (ls.drop i) = (lnT (ls.getD i ln0)).data.toList ++ 10 :: txtL (ls.drop (i + 1)) := by
  unfold txtL
  rw [List.drop_eq_getElem_cons h, List.flatMap_cons, at_k h, List.append_assoc]; rfl
theorem bb (s : ByteArray) : (⟨s.data.toList.toArray⟩ : ByteArray) = s := ba_ext (by simp)
theorem lines_fwd {ls : List Ln} {n : Nat} (hs : SplitL ls n) (hg : ∀ x ∈ ls, LnR x) : ∀ (f i : Nat) (s : ByteArray), i ≤ ls.length → s.size ≤ f → s.data.toList = txtL (ls.drop i) → linesG f (ls.take i) s = (ls, true) := by
  intro f
  induction f with
  | zero =>
    intro i s hi hf ht
    by_cases e : i = ls.length
    · rw [linesG_end (by omega), e, List.take_length]
    · exfalso
      rw [txtL_drop (by omega)] at ht
      have := congrArg List.length ht
      rw [slen, List.length_append, List.length_cons] at this
      omega
  | succ f ih =>
    intro i s hi hf ht
    by_cases e : i = ls.length
    · have h0 : s.size = 0 := by
        rw [← slen, ht, e, List.drop_length]; rfl
      rw [linesG_end h0, e, List.take_length]
    · have hi' : i < ls.length := by omega
      rw [txtL_drop hi'] at ht
      have hx : LnR (ls.getD i ln0) := by rw [at_k hi']; exact hg _ (List.getElem_mem _)
      obtain ⟨c1, c2, c3, c4⟩ := cut_app hx.no10 ht
      have e2 : s.extract 0 (lnT (ls.getD i ln0)).data.toList.length = lnT (ls.getD i ln0) := by rw [c2]
      rw [linesG_go (by omega) c1 (by rw [e2]; exact hx.read) f _ (fol_of hs hi'), take_snoc_at hi', c3]
      refine ih (i + 1) _ (by omega) ?_ (by simp)
      have : (⟨(txtL (ls.drop (i + 1))).toArray⟩ : ByteArray).size = (txtL (ls.drop (i + 1))).length := by rw [← slen]
      show (⟨(txtL (ls.drop (i + 1))).toArray⟩ : ByteArray).size ≤ f
      omega
theorem lines_inv : ∀ (f : Nat) (acc : List Ln) (s : ByteArray) (ls : List Ln), s.size ≤ f → linesG f acc s = (ls, true) → ∃ xs, ls = acc ++ xs ∧ (∀ x ∈ xs, LnR x) ∧ s.data.toList = txtL xs := by
  intro f
  induction f with
  | zero =>
    intro acc s ls hf h
    rw [linesG_end (by omega)] at h
    refine ⟨[], by rw [List.append_nil]; exact (congrArg Prod.fst h).symm, fun _ h => (nomatch h), ?_⟩
    exact List.length_eq_zero_iff.1 (by rw [slen]; omega)
  | succ f ih =>
    intro acc s ls hf h
    by_cases h0 : s.size = 0
    · rw [linesG_end h0] at h
      refine ⟨[], by rw [List.append_nil]; exact (congrArg Prod.fst h).symm, fun _ h => (nomatch h), ?_⟩
      exact List.length_eq_zero_iff.1 (by rw [slen]; omega)
    · rcases cutC_cases 10 s with hc | ⟨k, hc, hk⟩
      · rw [linesG_cut h0 hc] at h; cases congrArg Prod.snd h
      · cases hr : readF (s.extract 0 k) with
        | none => rw [linesG_none h0 hc hr] at h; cases congrArg Prod.snd h
        | some x =>
          cases hf2 : folB acc x with
          | false => rw [linesG_fol h0 hc hr f acc hf2] at h; cases congrArg Prod.snd h
          | true =>
            rw [linesG_go h0 hc hr f acc hf2] at h
            obtain ⟨xs, h1, h2, h3⟩ := ih _ _ _ (by simp only [ByteArray.size_extract]; omega) h
            obtain ⟨r1, r2⟩ := read_inv hr
            refine ⟨x :: xs, by rw [h1]; simp, fun y hy => ?_, ?_⟩
            · rcases List.mem_cons.1 hy with rfl | hy
              · exact r1
              · exact h2 y hy
            · rw [cut_at hc, h3, ← r2]
              unfold txtL
              rw [List.flatMap_cons, List.append_assoc]; rfl
/-- The words of a line that is made of names and small numbers fit. -/
theorem words_ok {x : Ln} (hk : x.kind.toNat < 12) (h78 : 78 ∈ frmI x.kind.toNat → nameB x.name = true) (hl : 0 ≤ x.len ∧ x.len ≤ 999) (hz : 0 ≤ x.zone ∧ x.zone ≤ 999) (hw : 0 ≤ x.win ∧ x.win ≤ 999)
    (ho : x.oth.length = needN x.kind.toNat) (hN : ∀ s ∈ x.oth, nameB s = true) : ∀ ch ∈ frmI x.kind.toNat, rdOk ch (wrdC x ch) = true := fun ch hch => by
  obtain ⟨hc, h48, h49⟩ := frm_asks hk ho ch hch
  rcases hc with rfl | rfl | rfl | rfl | rfl | rfl | rfl
  · exact h78 hch
  · exact dec_ok3 hl.1 hl.2
  · exact dec_ok3 hz.1 hz.2
  · exact dec_ok3 hw.1 hw.2
  · show rdOk 62 ⟨#[62]⟩ = true; decide +kernel
  · have h := h48 rfl
    show nameB (x.oth.getD 0 ByteArray.empty) = true
    rw [at_k h]; exact hN _ (List.getElem_mem _)
  · have h := h49 rfl
    show nameB (x.oth.getD 1 ByteArray.empty) = true
    rw [at_k h]; exact hN _ (List.getElem_mem _)
theorem nd_name {l : List Nd} (h : ndsE l = 0) {is : List Int} (hr : ∀ t ∈ is, 0 ≤ t ∧ t < l.length) : ∀ y ∈ nmF l is, nameB y = true := fun y hy => by
  obtain ⟨t, ht, rfl⟩ := List.mem_map.1 hy
  have h1 := hr t ht
  exact (vnd_of h (i := t.toNat) (by omega)).name
theorem nd_len {l : List Nd} (h : ndsE l = 0) {i : Nat} (hi : i < l.length) (hk : 6 < (l.getD i nd0).kind) : (l.getD i nd0).len = 0 := by
  have hv := (vnd_of h hi).kind
  have h1 := fstE_all (show fstE (fun i => ndE l.length i (l.getD i nd0)) l.length = 0 from h) i hi
  unfold ndE at h1
  split at h1
  · split at h1
    · split at h1
      · rename_i h2
        simp only [Bool.and_eq_true] at h2
        have h3 := h2.1
        unfold lenOk at h3
        rw [if_pos (by omega)] at h3
        exact of_decide_eq_true h3
      · omega
    · omega
  · omega
theorem exN_nat {k : Int} (h : 0 ≤ k) (h9 : k ≤ 9) : exN k = needN k.toNat := by
  unfold needN
  rw [if_pos (by omega)]
  congr 1
  omega
theorem no78 {k : Nat} (h : k = 10 ∨ k = 11) : (78 : Int) ∉ frmI k := by
  rcases h with rfl | rfl
  · rw [frm_10]; decide
  · rw [frm_11]; decide
theorem lnr_nd {l : List Nd} (h : ndsE l = 0) {i : Nat} (hi : i < l.length) : LnR (lnNd l (l.getD i nd0)) := by
  have v := vnd_of h hi
  have hk := v.kind
  have hl := v.len
  have hz := v.zone
  have ho : (nmF l (l.getD i nd0).exits).length = needN (l.getD i nd0).kind.toNat := by rw [nmF_len, v.exl]; exact exN_nat (by omega) (by omega)
  exact ⟨hk.1, by show (l.getD i nd0).kind ≤ 11; omega, words_ok (x := lnNd l (l.getD i nd0)) (by show (l.getD i nd0).kind.toNat < 12; omega) (fun _ => v.name) ⟨hl.1, by show (l.getD i nd0).len ≤ 999; omega⟩ ⟨hz.1, by show (l.getD i nd0).zone ≤ 999; omega⟩ ⟨Int.le_refl 0, by show (0 : Int) ≤ 999; decide⟩ ho (nd_name h v.exr),
    fun h9 => by have : 9 < (l.getD i nd0).kind := h9
                 omega, fun h6 => nd_len h hi h6, fun h9 => by have : 9 < (l.getD i nd0).kind := h9
                                                               omega, fun _ => rfl, ⟨hl.1, by show (l.getD i nd0).len ≤ 999; omega⟩, ⟨hz.1, by show (l.getD i nd0).zone ≤ 999; omega⟩, ⟨Int.le_refl 0, by show (0 : Int) ≤ 999; decide⟩, ho⟩
theorem lnr_dv {z : Lay} (h : layE z = 0) {i : Nat} (hi : i < z.devs.length) : LnR (lnDv z.nodes (z.devs.getD i dv0)) := by
  have hn : ndsE z.nodes = 0 := nodes_nds (layE_zero h).2.2.1
  have v := vdv_of h hi
  have hk := v.kind
  have hw := v.win
  have hn' := v.node
  have hkk : (9 + (z.devs.getD i dv0).kind).toNat = 10 ∨ (9 + (z.devs.getD i dv0).kind).toNat = 11 := by omega
  have ho : (nmF z.nodes [(z.devs.getD i dv0).node]).length = needN (9 + (z.devs.getD i dv0).kind).toNat := by
    rcases hkk with e | e <;> rw [e] <;> rfl
  exact ⟨by show 1 ≤ 9 + (z.devs.getD i dv0).kind; omega, by show 9 + (z.devs.getD i dv0).kind ≤ 11; omega, words_ok (x := lnDv z.nodes (z.devs.getD i dv0)) (by show (9 + (z.devs.getD i dv0).kind).toNat < 12; omega) (fun hm => absurd hm (no78 hkk)) ⟨Int.le_refl 0, by show (0 : Int) ≤ 999; decide⟩ ⟨Int.le_refl 0, by show (0 : Int) ≤ 999; decide⟩ ⟨hw.1, by show (z.devs.getD i dv0).win ≤ 999; omega⟩ ho (nd_name hn fun t ht => by rw [List.mem_singleton.1 ht]; exact hn'),
    fun _ => rfl, fun _ => rfl, fun _ => rfl, fun h9 => by have : 9 + (z.devs.getD i dv0).kind ≤ 9 := h9
                                                           omega, ⟨Int.le_refl 0, by show (0 : Int) ≤ 999; decide⟩, ⟨Int.le_refl 0, by show (0 : Int) ≤ 999; decide⟩, ⟨hw.1, by show (z.devs.getD i dv0).win ≤ 999; omega⟩, ho⟩

theorem lns_len (z : Lay) : (lnsOf z).length = z.nodes.length + z.devs.length := by unfold lnsOf; simp
theorem lns_nd {z : Lay} {i : Nat} (h : i < z.nodes.length) : (lnsOf z).getD i ln0 = lnNd z.nodes (z.nodes.getD i nd0) := by
  rw [at_k (by rw [lns_len]; omega), at_k h]
  unfold lnsOf
  rw [List.getElem_append_left (by simpa using h), List.getElem_map]
theorem lns_dv {z : Lay} {i : Nat} (h : i < z.devs.length) : (lnsOf z).getD (z.nodes.length + i) ln0 = lnDv z.nodes (z.devs.getD i dv0) := by
  rw [at_k (by rw [lns_len]; omega), at_k h]
  unfold lnsOf
  rw [List.getElem_append_right (by simp)]
  simp
theorem lns_split {z : Lay} (h : layE z = 0) : SplitL (lnsOf z) z.nodes.length := by
  refine ⟨by rw [lns_len]; omega, fun i hi => ?_⟩
  rw [lns_len] at hi
  by_cases e : i < z.nodes.length
  · rw [lns_nd e]
    have := (vnd_of (nodes_nds (layE_zero h).2.2.1) e).kind
    show decide (9 < (z.nodes.getD i nd0).kind) = _
    rw [decide_eq_false (by omega), decide_eq_false (by omega)]
  · obtain ⟨j, rfl⟩ : ∃ j, i = z.nodes.length + j := ⟨i - z.nodes.length, by omega⟩
    rw [lns_dv (by omega)]
    have := (vdv_of h (i := j) (by omega)).kind
    show decide (9 < 9 + (z.devs.getD j dv0).kind) = _
    rw [decide_eq_true (by omega), decide_eq_true (by omega)]
theorem lns_r {z : Lay} (h : layE z = 0) : ∀ x ∈ lnsOf z, LnR x := fun x hx => by
  unfold lnsOf at hx
  rcases List.mem_append.1 hx with hx | hx
  · obtain ⟨y, hy, rfl⟩ := List.mem_map.1 hx
    obtain ⟨i, hi, rfl⟩ := List.getElem_of_mem hy
    have := lnr_nd (nodes_nds (layE_zero h).2.2.1) hi
    rwa [at_k hi] at this
  · obtain ⟨y, hy, rfl⟩ := List.mem_map.1 hx
    obtain ⟨i, hi, rfl⟩ := List.getElem_of_mem hy
    have := lnr_dv h hi
    rwa [at_k hi] at this
theorem nodes_dif {l : List Nd} (h : nodesE l = 0) : difB l = true := by
  unfold nodesE at h
  split at h
  · split at h
    · split at h
      · assumption
      · omega
    · omega
  · rename_i h2; exact absurd h h2
/-- The name of a node leads to it. -/
theorem find_name {l : List Nd} (h : nodesE l = 0) {i : Nat} (hi : i < l.length) : findI l (l.getD i nd0).name = i := by
  have h1 := nodes_dif h
  unfold difB at h1
  have h2 := of_decide_eq_true (List.all_eq_true.1 h1 i (by simpa using hi))
  have hf : findN l (l.getD i nd0).name ≤ i := by
    unfold findN
    rcases Nat.lt_or_ge i (l.findIdx fun x => decide (x.name = (l.getD i nd0).name)) with hlt | hge
    · exfalso
      have := List.not_of_lt_findIdx hlt
      exact absurd (of_decide_eq_false this) (fun h => h (congrArg Nd.name (at_k (d := nd0) hi)).symm)
    · exact hge
  unfold findI at h2 ⊢
  rw [if_pos (by omega)] at h2 ⊢
  omega
theorem idx_names {l : List Nd} (h : nodesE l = 0) {is : List Int} (hr : ∀ t ∈ is, 0 ≤ t ∧ t < l.length) : idxF l (nmF l is) = is := by
  unfold idxF nmF
  rw [List.map_map]
  conv => rhs; rw [← List.map_id is]
  refine List.map_congr_left fun t ht => ?_
  have h1 := hr t ht
  show findI l (l.getD t.toNat nd0).name = t
  rw [find_name h (by omega)]
  omega
theorem find_at {l : List Nd} {s : ByteArray} (h : findI l s ≠ -1) : (l.getD (findI l s).toNat nd0).name = s := by
  unfold findI at h ⊢
  split at h
  · rename_i hlt
    rw [if_pos hlt, Int.toNat_natCast, at_k hlt]
    unfold findN at hlt ⊢
    simpa using List.findIdx_getElem (w := hlt)
  · exact absurd rfl h
theorem names_idx {l : List Nd} {ns : List ByteArray} (h : (idxF l ns).contains (-1) = false) : nmF l (idxF l ns) = ns := by
  unfold nmF idxF
  rw [List.map_map]
  conv => rhs; rw [← List.map_id ns]
  refine List.map_congr_left fun s hs => ?_
  show (l.getD (findI l s).toNat nd0).name = s
  refine find_at fun e => ?_
  have : (-1 : Int) ∈ idxF l ns := List.mem_map.2 ⟨s, hs, e⟩
  rw [List.contains_iff_mem.2 this] at h
  exact Bool.noConfusion h
theorem nmF_names {l l' : List Nd} (h : l.map Nd.name = l'.map Nd.name) (is : List Int) : nmF l is = nmF l' is := by
  unfold nmF
  refine List.map_congr_left fun t _ => ?_
  have hl : l.length = l'.length := by have := congrArg List.length h; simpa using this
  by_cases e : t.toNat < l.length
  · rw [at_k e, at_k (by omega)]
    have := congrArg (·[t.toNat]?) h
    simpa [e, show t.toNat < l'.length by omega] using this
  · rw [List.getD_eq_getElem?_getD, List.getD_eq_getElem?_getD, List.getElem?_eq_none (by omega), List.getElem?_eq_none (by omega)]
theorem ndsU_names {z : Lay} : (ndsU (lnsOf z) z.nodes.length).map Nd.name = z.nodes.map Nd.name := by
  refine List.ext_getElem (by simp [ndsU_len]) fun i h1 h2 => ?_
  have hi : i < z.nodes.length := by simpa using h2
  rw [List.getElem_map, List.getElem_map]
  unfold ndsU
  rw [List.getElem_map, List.getElem_range, lns_nd hi, at_k hi]; rfl
theorem no_miss {N : List Nd} {is : List Int} {x : Ln} (h : idxF N x.oth = is) (h1 : ∀ t ∈ is, 0 ≤ t) : missB N x = false := by
  unfold missB
  rw [h]
  cases hc : is.contains (-1) with
  | false => rfl
  | true => have := h1 _ (List.contains_iff_mem.1 hc)
            omega
theorem dvsU_at {ls : List Ln} {n k i : Nat} (h : i < k - n) : (dvsU ls n k).getD i dv0 = dvOf (ndsU ls n) (ls.getD (n + i) ln0) := by
  unfold dvsU
  rw [at_k (by simpa using h), List.getElem_map, List.getElem_range]
theorem build_fwd {z : Lay} (h : layE z = 0) : buildL (lnsOf z) z.nodes.length = (z, 0) := by
  have hn := (layE_zero h).2.2.1
  have hnd := nodes_nds hn
  have hN : ∀ ns, idxF (ndsU (lnsOf z) z.nodes.length) ns = idxF z.nodes ns := idxF_names ndsU_names
  have hF : ∀ s, findI (ndsU (lnsOf z) z.nodes.length) s = findI z.nodes s := findI_names ndsU_names
  have e1 : ∀ i, i < z.nodes.length → idxF (ndsU (lnsOf z) z.nodes.length) ((lnsOf z).getD i ln0).oth = (z.nodes.getD i nd0).exits := fun i hi => by
    rw [hN, lns_nd hi]
    exact idx_names hn (vnd_of hnd hi).exr
  have e2 : ∀ i, i < z.devs.length → idxF (ndsU (lnsOf z) z.nodes.length) ((lnsOf z).getD (z.nodes.length + i) ln0).oth = [(z.devs.getD i dv0).node] := fun i hi => by
    rw [hN, lns_dv hi]
    exact idx_names hn fun t ht => by rw [List.mem_singleton.1 ht]; exact (vdv_of h hi).node
  rw [buildL_no fun j hj => by
    rw [lns_len] at hj
    by_cases e : j < z.nodes.length
    · exact no_miss (e1 j e) fun t ht => ((vnd_of hnd e).exr t ht).1
    · obtain ⟨i, rfl⟩ : ∃ i, j = z.nodes.length + i := ⟨j - z.nodes.length, by omega⟩
      exact no_miss (e2 i (by omega)) fun t ht => by rw [List.mem_singleton.1 ht]; exact (vdv_of h (i := i) (by omega)).node.1]
  have a1 : setEx (lnsOf z) z.nodes.length (lnsOf z).length = z.nodes := by
    refine List.ext_getElem (setEx_len _ _ _) fun i h1 h2 => ?_
    rw [← at_k (d := nd0) h1, ← at_k (d := nd0) h2, setEx_at h2]
    unfold exAt
    rw [if_pos (by rw [lns_len]; omega), e1 i h2, lns_nd h2]
    rfl
  have a2 : dvsU (lnsOf z) z.nodes.length (lnsOf z).length = z.devs := by
    have hl : (dvsU (lnsOf z) z.nodes.length (lnsOf z).length).length = z.devs.length := by unfold dvsU; rw [List.length_map, List.length_range, lns_len]; omega
    refine List.ext_getElem hl fun i h1 h2 => ?_
    rw [← at_k (d := dv0) h1, ← at_k (d := dv0) h2, dvsU_at (by have := lns_len z; omega), lns_dv h2]
    unfold dvOf
    rw [hF]
    have e3 : findI z.nodes ((lnDv z.nodes (z.devs.getD i dv0)).oth.getD 0 ByteArray.empty) = (z.devs.getD i dv0).node := by
      have := (vdv_of h h2).node
      show findI z.nodes (z.nodes.getD (z.devs.getD i dv0).node.toNat nd0).name = _
      rw [find_name hn (by omega)]; omega
    rw [e3]
    show (⟨9 + (z.devs.getD i dv0).kind - 9, _, _⟩ : Dv) = _
    rw [show 9 + (z.devs.getD i dv0).kind - 9 = (z.devs.getD i dv0).kind by omega]
    rfl
  rw [a1, a2]
theorem build_inv {ls : List Ln} {n : Nat} (hs : SplitL ls n) (hg : ∀ x ∈ ls, LnR x) (h : (buildL ls n).2 = 0) : lnsOf (buildL ls n).1 = ls := by
  have hm : ∀ j, j < ls.length → missB (ndsU ls n) (ls.getD j ln0) = false := fun j hj => by
    unfold buildL at h
    split at h
    · rename_i i hi
      have h0 : (i : Int) + 1 = 0 := h
      omega
    · rename_i hi
      have := List.find?_eq_none.1 hi j (by simpa using hj)
      simpa using this
  rw [buildL_no hm]
  have hn := hs.1
  have hle : (setEx ls n ls.length).length = n := setEx_len _ _ _
  have hld : (dvsU ls n ls.length).length = ls.length - n := by unfold dvsU; rw [List.length_map, List.length_range]
  refine List.ext_getElem (by rw [lns_len]; show (setEx ls n ls.length).length + (dvsU ls n ls.length).length = _; omega) fun i h1 h2 => ?_
  rw [← at_k (d := ln0) h1, ← at_k (d := ln0) h2]
  have hx : LnR (ls.getD i ln0) := by rw [at_k h2]; exact hg _ (List.getElem_mem _)
  have hmi := hm i h2
  have hsp := hs.2 i h2
  have hnm : ∀ is, nmF (setEx ls n ls.length) is = nmF (ndsU ls n) is := nmF_names (setEx_names ls n ls.length)
  by_cases e : i < n
  · rw [lns_nd (z := ⟨setEx ls n ls.length, dvsU ls n ls.length⟩) (by show i < (setEx ls n ls.length).length; omega)]
    show lnNd (setEx ls n ls.length) ((setEx ls n ls.length).getD i nd0) = _
    rw [setEx_at e]
    unfold exAt
    rw [if_pos h2]
    generalize ls.getD i ln0 = x at *
    show (⟨x.kind, x.name, x.len, x.zone, 0, nmF (setEx ls n ls.length) (idxF (ndsU ls n) x.oth)⟩ : Ln) = x
    have hk : ¬ 9 < x.kind := by
      unfold isDv at hsp
      rw [decide_eq_false (show ¬ n ≤ i by omega)] at hsp
      exact of_decide_eq_false hsp
    have hw := hx.win (by omega)
    rw [hnm, names_idx hmi, ← hw]
  · obtain ⟨j, rfl⟩ : ∃ j, i = n + j := ⟨i - n, by omega⟩
    have hq := lns_dv (z := ⟨setEx ls n ls.length, dvsU ls n ls.length⟩) (i := j) (by show j < (dvsU ls n ls.length).length; omega)
    have hq1 : (lnsOf ⟨setEx ls n ls.length, dvsU ls n ls.length⟩).getD (n + j) ln0 = lnDv (setEx ls n ls.length) ((dvsU ls n ls.length).getD j dv0) := by
      have e3 : n + j = (setEx ls n ls.length).length + j := by rw [hle]
      rw [e3]; exact hq
    rw [hq1, dvsU_at (by omega)]
    generalize ls.getD (n + j) ln0 = x at *
    have hk : 9 < x.kind := by
      unfold isDv at hsp
      rw [decide_eq_true (show n ≤ n + j by omega)] at hsp
      exact of_decide_eq_true hsp
    have hk2 := hx.k2
    have ho : x.oth.length = 1 := by
      rw [hx.oth]
      have : x.kind.toNat = 10 ∨ x.kind.toNat = 11 := by omega
      rcases this with e4 | e4 <;> rw [e4] <;> rfl
    obtain ⟨a, ha⟩ := one_of ho
    show (⟨9 + (x.kind - 9), ⟨#[]⟩, 0, 0, x.win, nmF (setEx ls n ls.length) [findI (ndsU ls n) (x.oth.getD 0 ByteArray.empty)]⟩ : Ln) = x
    rw [hnm]
    have e5 : nmF (ndsU ls n) [findI (ndsU ls n) (x.oth.getD 0 ByteArray.empty)] = x.oth := by
      unfold missB at hmi
      have := names_idx hmi
      rw [ha] at this ⊢
      exact this
    rw [e5, show 9 + (x.kind - 9) = x.kind by omega, ← hx.nam hk, ← hx.len (by omega)]
    have hz := hx.zone hk
    have hl := hx.len (by omega)
    cases x
    simp only [] at hz hl
    subst hz hl
    rfl

/-- How long the words of a form may be. -/
def wMax (c : Int) : Nat := if c = 78 ∨ c = 48 ∨ c = 49 then 12 else 1
theorem frm_max : ((List.range 12).all fun n => decide ((kwS n).size + ((frmI n).map fun c => 1 + wMax c).sum ≤ 56)) = true := by decide +kernel
theorem jnT_sum : ∀ (r : List ByteArray), (jnT r).length = (r.map fun y => 1 + y.size).sum
  | [] => rfl
  | y :: r => by
    have := jnT_sum r
    unfold jnT at this ⊢
    rw [List.flatMap_cons, List.length_append, this, List.map_cons, List.sum_cons, List.length_cons, slen]
    omega
theorem sum_le {α : Type} {f g : α → Nat} : ∀ {l : List α}, (∀ x ∈ l, f x ≤ g x) → (l.map f).sum ≤ (l.map g).sum
  | [], _ => Nat.le_refl _
  | x :: l, h => by
    rw [List.map_cons, List.map_cons, List.sum_cons, List.sum_cons]
    have := sum_le (f := f) (g := g) (l := l) fun y hy => h y (List.mem_cons_of_mem _ hy)
    have := h x (List.mem_cons_self ..)
    omega
theorem lnT_size {x : Ln} (hk : x.kind.toNat < 12) (h : ∀ c ∈ frmI x.kind.toNat, (wrdC x c).size ≤ wMax c) : (lnT x).size ≤ 56 := by
  have e : (lnT x).size = (jn (kwS x.kind.toNat :: (frmI x.kind.toNat).map (wrdC x))).length := by rw [← slen]; rfl
  rw [e]
  show ((kwS x.kind.toNat).data.toList ++ jnT ((frmI x.kind.toNat).map (wrdC x))).length ≤ 56
  rw [List.length_append, slen, jnT_sum, List.map_map]
  have h1 := of_decide_eq_true (List.all_eq_true.1 frm_max x.kind.toNat (by simpa using hk))
  have h2 := sum_le (f := (fun y : ByteArray => 1 + y.size) ∘ wrdC x) (g := fun c => 1 + wMax c) (l := frmI x.kind.toNat) fun c hc => by
    have := h c hc
    show 1 + (wrdC x c).size ≤ _
    omega
  omega
theorem decS_one {n : Int} (h : n < 10) : (decS n).size = 1 := by unfold decS; rw [size_str, if_pos h]
theorem wrd_max {x : Ln} (hk : x.kind.toNat < 12) (h78 : x.name.size ≤ 12) (hl : x.len < 10) (hz : x.zone < 10) (hw : x.win < 10) (ho : x.oth.length = needN x.kind.toNat) (hN : ∀ s ∈ x.oth, s.size ≤ 12) : ∀ c ∈ frmI x.kind.toNat, (wrdC x c).size ≤ wMax c := fun ch hch => by
  obtain ⟨hc, h48, h49⟩ := frm_asks hk ho ch hch
  rcases hc with rfl | rfl | rfl | rfl | rfl | rfl | rfl
  · exact h78
  · exact Nat.le_of_eq (decS_one hl)
  · exact Nat.le_of_eq (decS_one hz)
  · exact Nat.le_of_eq (decS_one hw)
  · exact Nat.le_refl 1
  · have h := h48 rfl
    show (x.oth.getD 0 ByteArray.empty).size ≤ 12
    rw [at_k h]; exact hN _ (List.getElem_mem _)
  · have h := h49 rfl
    show (x.oth.getD 1 ByteArray.empty).size ≤ 12
    rw [at_k h]; exact hN _ (List.getElem_mem _)
theorem txtL_len : ∀ {ls : List Ln}, (∀ x ∈ ls, (lnT x).size ≤ 56) → (txtL ls).length ≤ 57 * ls.length
  | [], _ => Nat.le_refl _
  | x :: ls, h => by
    have h1 := txtL_len (ls := ls) fun y hy => h y (List.mem_cons_of_mem _ hy)
    have h2 := h x (List.mem_cons_self ..)
    unfold txtL at h1 ⊢
    rw [List.flatMap_cons, List.length_append, List.length_append, slen, List.length_cons, List.length_cons]
    simp only [List.length_nil]
    omega
theorem lns_size {z : Lay} (h : layE z = 0) : (txtL (lnsOf z)).length ≤ 4096 := by
  obtain ⟨l1, l2, l3, l4, l5⟩ := layE_zero h
  have hn := nodes_nds l3
  have h1 : (txtL (lnsOf z)).length ≤ 57 * (lnsOf z).length := txtL_len fun x hx => by
    unfold lnsOf at hx
    rcases List.mem_append.1 hx with hx | hx
    · obtain ⟨y, hy, rfl⟩ := List.mem_map.1 hx
      obtain ⟨i, hi, rfl⟩ := List.getElem_of_mem hy
      have v := vnd_of hn hi
      rw [at_k hi] at v
      have hk := v.kind
      refine lnT_size (by show (z.nodes[i]).kind.toNat < 12; omega) (wrd_max (by show (z.nodes[i]).kind.toNat < 12; omega) (lname_size v.name) (by have := v.len; show (z.nodes[i]).len < 10; omega) (by have := v.zone; show (z.nodes[i]).zone < 10; omega) (by show (0 : Int) < 10; decide) ?_ (nmF_size hn v.exr))
      show (nmF z.nodes (z.nodes[i]).exits).length = _
      rw [nmF_len, v.exl]; exact exN_nat (by omega) (by omega)
    · obtain ⟨y, hy, rfl⟩ := List.mem_map.1 hx
      obtain ⟨i, hi, rfl⟩ := List.getElem_of_mem hy
      have v := vdv_of h hi
      rw [at_k hi] at v
      have hk := v.kind
      have hkk : (9 + (z.devs[i]).kind).toNat = 10 ∨ (9 + (z.devs[i]).kind).toNat = 11 := by omega
      refine lnT_size (by show (9 + (z.devs[i]).kind).toNat < 12; omega) (wrd_max (by show (9 + (z.devs[i]).kind).toNat < 12; omega) (Nat.zero_le 12) (by show (0 : Int) < 10; decide) (by show (0 : Int) < 10; decide) (by have := v.win; show (z.devs[i]).win < 10; omega) ?_ (nmF_size hn fun t ht => by rw [List.mem_singleton.1 ht]; exact v.node))
      show (nmF z.nodes [(z.devs[i]).node]).length = needN (9 + (z.devs[i]).kind).toNat
      rcases hkk with e | e <;> rw [e] <;> rfl
  rw [lns_len] at h1
  omega
theorem fmt_of {z : Lay} (h : layE z = 0) : (fmtS z).data.toList = txtL (lnsOf z) := by
  unfold fmtS
  rw [if_pos h, ← fmt_lns]
/-- The text of a valid layout is read back. -/
theorem par_fmt {z : Lay} (h : layE z = 0) : parX (fmtS z) = (z, 0, 0) := by
  have ht := fmt_of h
  have hz : (fmtS z).size ≤ 4096 := by rw [← slen, ht]; exact lns_size h
  have hl : linesF (fmtS z) = (lnsOf z, true) := by
    have := lines_fwd (lns_split h) (lns_r h) (fmtS z).size 0 (fmtS z) (Nat.zero_le _) (Nat.le_refl _) (by rw [List.drop_zero]; exact ht)
    rw [List.take_zero] at this
    exact this
  unfold parX
  rw [if_pos hz, hl]
  unfold parL
  rw [if_pos rfl]
  show parB (buildL (lnsOf z) (splN (lnsOf z))) = _
  rw [splN_eq (lns_split h), build_fwd h]
  unfold parB
  rw [if_neg (by show ¬ (0 : Int) < 0; omega), if_pos h]
/-- A text that is accepted is the text of the result. -/
theorem fmt_par {s : ByteArray} (h : (parX s).2.2 = 0) : layE (parX s).1 = 0 ∧ fmtS (parX s).1 = s := by
  unfold parX at h ⊢
  split at h
  · rename_i hz
    rw [if_pos hz]
    unfold parL at h ⊢
    split at h
    · rename_i hl
      rw [if_pos hl]
      unfold parB at h ⊢
      split at h
      · exact absurd (show (6 : Int) = 0 from h) (by decide)
      · rename_i h0
        rw [if_neg h0]
        split at h
        · rename_i he
          rw [if_pos he]
          refine ⟨he, ba_ext ?_⟩
          show (fmtS (buildL (linesF s).1 (splN (linesF s).1)).1).data.toList = _
          rw [fmt_of he]
          obtain ⟨-, n, hs⟩ := linesF_good s
          have hh : linesG s.size [] s = ((linesF s).1, true) := by
            show linesF s = _
            rw [← hl]
          obtain ⟨xs, e1, e2, e3⟩ := lines_inv s.size [] s _ (Nat.le_refl _) hh
          rw [List.nil_append] at e1
          have hb := buildL_pos (linesF s).1 (splN (linesF s).1)
          rw [splN_eq hs] at h0 hb ⊢
          rw [build_inv hs (by rw [e1]; exact e2) (by omega), e1, e3]
        · rename_i he
          exact absurd h he
    · exact absurd (show (3 : Int) = 0 from h) (by decide)
  · exact absurd (show (2 : Int) = 0 from h) (by decide)
end Go.Proofs.YtmonjjffbmccjaaGreatDoor
