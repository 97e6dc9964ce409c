/-
  MessageBack: the law holds where the arguments are together of bulk at most 1048576: for every such input the call returns true, and each argument reads afterwards as it did; and its tied card.
-/
import Derived.Test.YtglgobmmmghdoaaGreatDoorMsgBl
import Derived.Test.YtglgobmmmghdoaaGreatDoorOpenT
import Derived.Test.YtglgobmmmghdoaaGreatDoorRows
import Derived.Test.YtglgobmmmghdoaaGreatDoorMsgAH
import Derived.Test.YtglgobmmmghdoaaGreatDoorTie
import Derived.Test.YtglgobmmmghdoaaGreatDoorCards
import Derived.ProofKit
import Derived.OpenShut
import Derived.ShutString
import Derived.LaidMore
import Derived.Lay
import Derived.SevenTiedAt
import Derived.Stop.Joined
import Derived.Deep.DeepHandedRow
namespace Go.Proofs.YtglgobmmmghdoaaGreatDoor
open Go.ChangeShapes Go.WideShapes Go.ChangeAt Go.RowKit Go.Joins

section
variable {H : Type}
theorem bulk_le {d : DataW H} {l : List (DataW H)} (h : d ∈ l) : Rows.uptoBulk d ≤ Rows.uptoBulkAll l := by
  induction l with
  | nil => cases h
  | cons x r ih =>
    simp only [Rows.uptoBulkAll]
    rcases List.mem_cons.1 h with e | h
    · subst e; omega
    · have := ih h; omega
theorem bulk_pos (d : DataW H) : 1 ≤ Rows.uptoBulk d := by
  rcases d with l | _ | _ | _ | _ | _ | _ | _
  · cases l <;> simp [Rows.uptoBulk]
  all_goals simp [Rows.uptoBulk]
theorem bulk_len (l : List (DataW H)) : l.length ≤ Rows.uptoBulkAll l := by
  induction l with
  | nil => simp [Rows.uptoBulkAll]
  | cons x r ih => have := bulk_pos x; simp only [Rows.uptoBulkAll, List.length_cons]; omega
end

/-- Few strings, and short ones. -/
def Slim (N : Nat) (ps : List ByteArray) : Prop := ps.length ≤ N ∧ ∀ p ∈ ps, p.size ≤ N

section
variable {H : Type} {enc : TypeId × Value → H} {W : World} {base : Nat} {v : Value} {d : DataW H} {p : List MemPlace} {b : Nat} {sp : Nat → Bool} {hd : Bool} {n : Nat}

theorem strs_bulk {x : DataW H × List MemPlace} (h : DataW.trod enc Tryz.prog W b sp hd n 53 [v] = some x) :
    ∃ (A : Option Addr) (c : Nat) (ps : List ByteArray), v = .slice A ps.length c ∧ (∀ b', W.heap.size ≤ b' → StrsIn b' W A ps) ∧ ∀ N, Rows.uptoBulk x.1 ≤ N → Slim N ps := by
  rcases Deep.open_slice1 Tryz.underlying53 cellsStr h with ⟨hcs, _⟩ | ⟨a, len, cap, m, n', V, D, Pl, hcs, _, hl, _, hm, hX, hx⟩
  · injection hcs with hcs
    exact ⟨none, 0, [], hcs, fun _ _ h => absurd h (Nat.lt_irrefl 0), fun N _ => ⟨Nat.zero_le _, fun _ h => by cases h⟩⟩
  · injection hcs with hcs
    have hall : ∀ i, i < len → ∃ s : ByteArray, W.cell? (a.add i) = some (.string s) ∧ D i = .lit (.string s.data.toList) := fun i hi => by
      obtain ⟨h1, h2⟩ := hx i (by rw [hm]; split <;> omega)
      obtain ⟨s, e, e2, _⟩ := DataW.trod_string Tryz.underlying9 h2
      injection e with e
      rw [e] at h1
      exact ⟨s, h1, congrArg Prod.fst e2⟩
    obtain ⟨f, hF⟩ := Deep.choose_lt (α := ByteArray) (p := fun i s => W.cell? (a.add i) = some (.string s) ∧ D i = .lit (.string s.data.toList)) hall
    refine ⟨some a, cap, (List.range len).map f, by rw [hcs]; simp, fun b' hb' hpos => ?_, fun N hN => ?_⟩
    · have hpos' : 0 < len := by simpa using hpos
      obtain ⟨g, off, spot⟩ := a
      have h0 := (hF 0 hpos').1
      have hs : spot = none := by simpa [Addr.add] using World.cell?_spot h0
      subst hs
      rw [addr_add] at h0
      have hg := World.block_lt_of_cell? W _ h0
      refine ⟨g, off, rfl, by simp only [] at hg; omega, fun i hi => ?_⟩
      have hi' : i < len := by simpa using hi
      have := (hF i hi').1
      rw [addr_add] at this
      rw [this, List.getD_eq_getElem?_getD, List.getElem?_map, List.getElem?_range hi']
      rfl
    · rw [hX] at hN
      simp only [Rows.uptoBulk] at hN
      have h1 := bulk_len ((List.range len).map D)
      rw [List.length_map, List.length_range] at h1
      refine ⟨by rw [List.length_map, List.length_range]; omega, fun q hq => ?_⟩
      obtain ⟨i, hi, rfl⟩ := List.mem_map.1 hq
      have h2 := bulk_le (List.mem_map.2 ⟨i, hi, rfl⟩ : D i ∈ (List.range len).map D)
      rw [(hF i (List.mem_range.1 hi)).2] at h2
      simp only [Rows.uptoBulk] at h2
      have h3 : (f i).data.toList.length = (f i).size := by simp
      omega

theorem el_bulk {a : Addr} {cs : List Value} {x : DataW H × List MemPlace} (hc : W.cells? b a 2 = some cs) (h : DataW.trod enc Tryz.prog W b sp hd n 55 cs = some x) :
    ∃ (e : El) (A : Option Addr) (c : Nat), W.cell? (a.add 0) = some (.string e.1) ∧ W.cell? (a.add 1) = some (.slice A e.2.length c) ∧ (∀ b', W.heap.size ≤ b' → StrsIn b' W A e.2) ∧ ∀ N, Rows.uptoBulk x.1 ≤ N → Slim N e.2 := by
  obtain ⟨_, hl, hat⟩ := World.cells?_some hc
  obtain ⟨y0, y1, m, hX, _, h0, h1⟩ := trod_struct2 Tryz.underlying55 h
  obtain ⟨c0, c1, rfl⟩ := two_of cs hl
  simp only [cellsStr, cellsSl] at h0 h1
  obtain ⟨key, e0, _, _⟩ := DataW.trod_string Tryz.underlying9 h0
  obtain ⟨A, c, ps, e1, hst, hN⟩ := strs_bulk h1
  injection e0 with e0
  subst e0 e1
  refine ⟨(key, ps), A, c, hat 0 (by omega), hat 1 (by omega), hst, fun N hB => hN N ?_⟩
  rw [hX] at hB
  simp only [Rows.uptoBulk, Rows.uptoBulkAll] at hB
  omega

theorem els_bulk {x : DataW H × List MemPlace} (h : DataW.trod enc Tryz.prog W b sp hd n 23 [v] = some x) :
    ∃ (A : Option Addr) (c : Nat) (es : List El), v = .slice A es.length c ∧ (∀ b', W.heap.size ≤ b' → ElsIn b' W A es) ∧ ∀ N, Rows.uptoBulk x.1 ≤ N → ∀ e ∈ es, Slim N e.2 := by
  rcases Deep.open_slice Tryz.underlying23 h with ⟨hcs, _⟩ | ⟨a, len, cap, m, n', D, Pl, hcs, _, hl, _, hm, hX, hx⟩
  · injection hcs with hcs
    exact ⟨none, 0, [], hcs, fun _ _ h => absurd h (Nat.lt_irrefl 0), fun _ _ _ h => by cases h⟩
  · injection hcs with hcs
    rw [cellsEl] at hx
    have hall : ∀ i, i < len → ∃ e : El, (∃ (A : Option Addr) (c : Nat), W.cell? ((a.add (i * 2)).add 0) = some (.string e.1) ∧ W.cell? ((a.add (i * 2)).add 1) = some (.slice A e.2.length c) ∧ ∀ b', W.heap.size ≤ b' → StrsIn b' W A e.2) ∧ ∀ N, Rows.uptoBulk (D i) ≤ N → Slim N e.2 := fun i hi => by
      obtain ⟨cs', h1, h2⟩ := hx i (by rw [hm]; split <;> omega)
      obtain ⟨e, A, c, k1, k2, k3, k4⟩ := el_bulk h1 h2
      exact ⟨e, ⟨A, c, k1, k2, k3⟩, k4⟩
    obtain ⟨f, hF⟩ := Deep.choose_lt (α := El) (p := fun i e => (∃ (A : Option Addr) (c : Nat), W.cell? ((a.add (i * 2)).add 0) = some (.string e.1) ∧ W.cell? ((a.add (i * 2)).add 1) = some (.slice A e.2.length c) ∧ ∀ b', W.heap.size ≤ b' → StrsIn b' W A e.2) ∧ ∀ N, Rows.uptoBulk (D i) ≤ N → Slim N e.2) hall
    refine ⟨some a, cap, (List.range len).map f, by rw [hcs]; simp, fun b' hb' hpos => ?_, fun N hN => ?_⟩
    · have hpos' : 0 < len := by simpa using hpos
      obtain ⟨g, off, spot⟩ := a
      obtain ⟨⟨_, _, h0, _⟩, _⟩ := hF 0 hpos'
      have hs : spot = none := by simpa [Addr.add] using World.cell?_spot h0
      subst hs
      rw [addr_add, addr_add] at h0
      have hg := World.block_lt_of_cell? W _ h0
      refine ⟨g, off, rfl, by simp only [] at hg; omega, fun i hi => ?_⟩
      have hi' : i < len := by simpa using hi
      obtain ⟨⟨A, c, k0, k1, k2⟩, _⟩ := hF i hi'
      rw [addr_add, addr_add] at k0 k1
      have e1 : ((List.range len).map f).getD i el0 = f i := by rw [List.getD_eq_getElem?_getD, List.getElem?_map, List.getElem?_range hi']; rfl
      rw [e1]
      exact ⟨k0, A, c, k1, k2 b' hb'⟩
    · rw [hX] at hN
      simp only [Rows.uptoBulk] at hN
      intro e he
      obtain ⟨i, hi, rfl⟩ := List.mem_map.1 he
      have h2 := bulk_le (List.mem_map.2 ⟨i, hi, rfl⟩ : D i ∈ (List.range len).map D)
      exact (hF i (List.mem_range.1 hi)).2 N (by omega)

set_option maxRecDepth 100000 in
theorem law_telB (hv : Value.okWide Tryz.prog W .any base 25 v) (h : DataW.Trod enc Tryz.prog W 0 (fun _ => true) true 25 v d p) :
    ∃ (t : Tel) (A : Option Addr) (c : Nat), v = .agg #[.string t.kind, .string t.change, .slice A t.els.length c] ∧ (∀ b', W.heap.size ≤ b' → ElsIn b' W A t.els) ∧ ∀ N, Rows.uptoBulk d ≤ N → ∀ e ∈ t.els, Slim N e.2 := by
  obtain ⟨c0, c1, c2, y0, y1, y2, m, rfl, rfl, rfl, hy0, hy1, hy2⟩ := open_agg3 Tryz.underlying25 (by kernel_rfl) cellsTel hv h
  obtain ⟨K, e0, _, _⟩ := DataW.trod_string Tryz.underlying9 hy0
  obtain ⟨C, e1, _, _⟩ := DataW.trod_string Tryz.underlying9 hy1
  obtain ⟨A, c, es, e2, hels, hN⟩ := els_bulk hy2
  simp at e0 e1
  subst e0 e1 e2
  refine ⟨⟨K, C, es⟩, A, c, rfl, hels, fun N hB => hN N ?_⟩
  simp only [Rows.uptoBulk, Rows.uptoBulkAll] at hB
  omega
end
end Go.Proofs.YtglgobmmmghdoaaGreatDoor

namespace Go.Proofs.YtglgobmmmghdoaaGreatDoor.messageBack
open Go.ChangeShapes Go.WideShapes Go.ChangeAt Go.RowKit
open Go.ChangeMaps (open_string shut_string)

set_option maxRecDepth 100000 in
theorem tables {W : World} (h : laidMetH Tryz.prog Rows.messageBackUptoRow.laid W) : Keys W ∧ Tabs W := by
  rw [MakeChecks.laidMetH_plain _ _ _ (by kernel_rfl)] at h
  obtain ⟨ps, hL, _, _⟩ := h
  obtain ⟨_, _, _, _, _, q1, _, _, v1, _, hL, _⟩ := hL
  obtain ⟨_, _, _, _, _, q2, _, _, v2, _, hL, _⟩ := hL
  have hp := pow_laid hL
  obtain ⟨_, _, _, _, _, q3, _, _, _, _, hL, _⟩ := hL
  obtain ⟨_, _, _, _, _, q5, _, _, v5, _, hL, _⟩ := hL
  have hk := keys_laid hL
  obtain ⟨_, _, _, _, _, q4, _, _, _, _, hL, _⟩ := hL
  have hw := words_laid hL
  have s1 := World.block_lt_of_cell? W _ (hk 0 (by omega))
  have s2 := World.block_lt_of_cell? W _ (hw 0 0 (by omega) (by omega))
  refine ⟨hk, hw, hp, ?_⟩
  have s3 := World.block_lt_of_cell? W _ (Lib.TabIs.cell hp (show Tryz.prog.globalNamed "internal/strconv.uint64pow10" = some 3 by kernel_rfl) 0 (by decide))
  have s4 := var_lt (show Tryz.prog.globalNamed "math/bits.deBruijn32tab" = some 4 by kernel_rfl) v1
  have s5 := var_lt (show Tryz.prog.globalNamed "math/bits.deBruijn64tab" = some 5 by kernel_rfl) v2
  simp only [] at s1 s2 s3
  omega

set_option maxRecDepth 100000 in
theorem contract (H : Type) (enc : TypeId × Value → H) (W : World) (base : Nat) (args : Array Value) (ds gs : List (DataW H)) (before : List MemPlace)
    (hval0 : ∀ (j : Nat) t v, Tryz.f3.params[j]? = some t → args[j]? = some v → Value.okWide Tryz.prog W .any base t v)
    (hW : DataW.Whole enc Tryz.prog Tryz.f3.params.toList Rows.messageBackSpec.vars false W args.toList ds gs before) (hlaid : laidMetH Tryz.prog Rows.messageBackUptoRow.laid W) (hB : Rows.uptoSmall H (ds ++ gs) = true) :
    Calls Tryz.prog 3 args W fun e W' => ∃ v, e = .returned v ∧ Rows.messageBackSpec.post enc Tryz.prog Tryz.f3 false true false false W args v W' := by
  have hval : ∀ (j : Nat) t v, Tryz.f3.params[j]? = some t → args[j]? = some v → Value.okWide Tryz.prog W .any base t v := hval0
  have hW' := hW
  obtain ⟨p, q, hA0, hV, rfl, hfz, hnd⟩ := hW
  have hA : DataW.TrodAll enc Tryz.prog W 0 (fun _ => true) true Tryz.f3.params.toList args.toList ds p := hA0
  rw [Tryz.params3] at hA hval
  obtain ⟨v0, vs0, d0, ds0, p0, q0, hargs, rfl, rfl, h0, r0⟩ := trodAll_cons hA
  obtain ⟨v1, vs1, d1, ds1, p1, q1, rfl, rfl, rfl, h1, r1⟩ := trodAll_cons r0
  obtain ⟨rfl, rfl, rfl⟩ := trodAll_nil r1
  obtain rfl : args = #[v0, v1] := by cases args; simp_all
  obtain ⟨rfl, rfl⟩ := trodVars_none hV
  have lt0 : ∀ x ∈ p0, x.block < W.heap.size := by obtain ⟨m, hm⟩ := h0; exact DataW.trod_lt m _ _ _ hm
  have lt1 : ∀ x ∈ p1, x.block < W.heap.size := by obtain ⟨m, hm⟩ := h1; exact DataW.trod_lt m _ _ _ hm
  obtain ⟨A0, len0, cap0, hc0, wx0, rfl⟩ := law_ints (hval 0 22 v0 rfl rfl) h0
  obtain ⟨t1, T1, c1, rfl, hels1, hbulk⟩ := law_telB (hval 1 25 v1 rfl rfl) h1
  have hb : Rows.uptoBulkAll ([d0, d1] ++ []) ≤ 1048576 := of_decide_eq_true hB
  simp only [List.append_nil, Rows.uptoBulkAll] at hb
  have hd := hbulk 1048576 (by omega)
  have hF : t1.els.length ≤ 40 → FitT t1 := fun h => ⟨by omega, fun e he => Nat.le_trans (hd e he).1 (by omega), fun e he p hp => Nat.le_trans ((hd e he).2 p hp) (by omega)⟩
  have hT := tables hlaid
  clear hA0 hval0 hB hb hbulk hd
  refine (mback_any A0 len0 cap0 t1 T1 c1 W hc0 wx0 (hels1 _ (Nat.le_refl _)) hF hT.1 hT.2).mono fun e W' ⟨he, bel⟩ => ?_
  subst he
  exact ⟨_, rfl, _, _, _, [], _, [], hW', trodAll_mk1 (shut_bool Tryz.underlying4 _), (trodAll_cons_mk (Below.trod lawLaidOut (by kernel_rfl) (of_decide_eq_true (by kernel_rfl)) h0 bel lt0) (trodAll_cons_mk (Below.trod lawLaidOut (by kernel_rfl) (of_decide_eq_true (by kernel_rfl)) h1 bel lt1) trodAll_mk0)), rfl, bel.frame _, fun h => by cases h⟩

set_option maxRecDepth 100000 in
theorem reads (os : Os) {H : Type} (enc : TypeId × Value → H) : ∃ places, DataW.whole enc Tryz.prog ((World.laidAll Tryz.prog os Rows.messageBackUptoRow.laid).forCall (fun _ _ => 0) ⟨#[], #[.slice none 0 0, .agg #[.string ByteArray.empty, .string ByteArray.empty, .slice none 0 0]], []⟩).memory Tryz.f3.params.toList Rows.messageBackSpec.vars false #[Value.slice none 0 0, .agg #[.string ByteArray.empty, .string ByteArray.empty, .slice none 0 0]].toList 8 = some ([.nil, .agg [.lit (.string []), .lit (.string []), .nil]], [], places) :=
  ⟨[], by kernel_rfl⟩

set_option maxRecDepth 100000 in
theorem lifted (os : Os) (started : os.Started) (H : Type) (enc : TypeId × Value → H) (F : Stop.Interp) :
    ReturnsInHanded {} Tryz.checked os 3 .any ((Rows.OpenSpec.upto Rows.messageBackSpec).preRow enc Tryz.prog Tryz.f3 Rows.messageBackUptoRow.domain false Rows.messageBackUptoRow.laid) (((Rows.OpenSpec.upto Rows.messageBackSpec).at F).post enc Tryz.prog Tryz.f3 false true false false) := by
  obtain ⟨places, hx⟩ := reads os enc
  refine returnsInHanded_of_row (C := Tryz.checked) (s := Rows.OpenSpec.upto Rows.messageBackSpec) lawOwn started (by kernel_rfl) Tryz.func3
    ⟨World.laidAll Tryz.prog os Rows.messageBackUptoRow.laid, fun _ _ => 0, ⟨#[], #[.slice none 0 0, .agg #[.string ByteArray.empty, .string ByteArray.empty, .slice none 0 0]], []⟩, World.laidAll_os _ _ _, World.shaped_of_ZipB (by kernel_rfl) (by kernel_rfl), rfl, (Input.okWide_of_okWideB (by kernel_rfl)).2,
      OpenSpec.preRow_of_cond 8 hx (by kernel_rfl) (fun k hk => by cases hk; kernel_rfl) (by kernel_rfl) (by rw [MakeChecks.laidMetH_plain _ _ _ (by kernel_rfl)]; exact laidMet_laidAll _ (by kernel_rfl) (by kernel_rfl)), by
        simp only [Assume.holds]
        exact ⟨by simp, by simp, fun _ => Modest.zero, by simp, by simp⟩⟩ ?_
  intro W base args ds gs before hval hW _ hcond _ hL _ _
  exact contract H enc W base args ds gs before hval hW hL (hcond _ rfl)

theorem proved : Rows.MessageBackUptoSaid :=
  OpenClaim.holds_of_cond 3 Tryz.f3 rfl rfl rfl rfl rfl rfl rfl ⟨rfl, rfl, rfl, rfl, rfl⟩ rfl rfl rfl rfl rfl (by kernel_rfl) Tryz.func3 (by kernel_rfl)
    (of_decide_eq_true (by kernel_rfl)) (by unfold Func.isWrapper; first | (rw [if_pos (by decide +kernel)]; kernel_rfl) | (rw [if_neg (by decide +kernel)]; exact ⟨rfl, rfl⟩))
    (fun os started H enc _ F => by rw [OpenClaim.pre_eq_preRow]; exact lifted os started H enc F)
theorem card_proved : Rows.MessageBackUptoCardSaid :=
  Claim7.holds_tied_plain_at .later [] _ _ _ _ proved (fun _ h => by cases h) (by kernel_rfl) (fun _ h => by cases h) messageBackUpto_row_tie rfl ⟨rfl, rfl⟩ (by kernel_rfl) rfl
    (fun f fn hf hfn => by
      obtain rfl : f = 3 := Option.some.inj ((show Tryz.prog.funcNamed "baggage/baggagelaw04.MessageBack" = some 3 by kernel_rfl).symm.trans hf) |>.symm
      obtain rfl : fn = Tryz.f3 := (Option.some.inj (Tryz.func3.symm.trans hfn)).symm
      exact ⟨by kernel_rfl, fun j t ht => by
        rw [Tryz.params3] at ht
        have hm : t ∈ [22, 25] := by simpa using Array.mem_of_getElem? ht
        have hall : ([22, 25].all fun u => !Tryz.prog.wantsStandIn u) = true := by kernel_rfl
        exact (show Tryz.prog.wantsStandIn t = false by simpa using List.all_eq_true.1 hall t hm)⟩)
    (by kernel_rfl)
#print axioms proved
#print axioms card_proved
end Go.Proofs.YtglgobmmmghdoaaGreatDoor.messageBack
