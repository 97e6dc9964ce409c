/-
  MessageBoarding: the law holds: for every input the call returns true, and each argument reads afterwards as it did; and its tied card.
-/
import Derived.Test.YtcjdjdganaokfaaDoorMsgBp
import Derived.Test.YtcjdjdganaokfaaDoorMsgAH
import Derived.Test.YtcjdjdganaokfaaDoorRows
import Derived.Test.YtcjdjdganaokfaaDoorTie
import Derived.Test.YtcjdjdganaokfaaDoorCards
import Derived.ProofKit
import Derived.OpenShut
import Derived.ShutString
import Derived.LaidMore
import Derived.Lay
import Derived.SevenTiedAt
import Derived.Stop.Joined
namespace Go.Proofs.YtcjdjdganaokfaaDoor.messageBoarding
open Go.ChangeShapes Go.WideShapes Go.ChangeAt Go.RowKit
open Go.ChangeMaps (open_string shut_string)

section
open Go.Joins
set_option maxRecDepth 100000 in
theorem tablesB {W : World} (h : laidMetH Tryd.prog Rows.messageBoardingRow.laid W) : Keys W ∧ Tabs W := by
  obtain ⟨ps, hL, _, _⟩ := (show laidMet Tryd.prog Rows.messageBoardingRow.laid W from h)
  obtain ⟨_, _, _, _, _, q1, _, _, v1, _, hL, _⟩ := hL
  obtain ⟨_, _, _, _, _, q2, _, _, v2, _, hL, _⟩ := hL
  have hp := pow_laid hL
  obtain ⟨_, _, _, _, _, q3, _, _, _, _, hL, _⟩ := hL
  have hk := keys_laid hL
  obtain ⟨_, _, _, _, _, q4, _, _, _, _, hL, _⟩ := hL
  have hw := words_laid hL
  have s1 := World.block_lt_of_cell? W _ (hk 0 (by omega))
  have s2 := World.block_lt_of_cell? W _ (hw 0 0 (by omega) (by omega))
  refine ⟨hk, hw, hp, ?_⟩
  have s3 := World.block_lt_of_cell? W _ (Lib.TabIs.cell hp (show Tryd.prog.globalNamed "internal/strconv.uint64pow10" = some 3 by kernel_rfl) 0 (by decide))
  have s4 := var_lt (show Tryd.prog.globalNamed "math/bits.deBruijn32tab" = some 4 by kernel_rfl) v1
  have s5 := var_lt (show Tryd.prog.globalNamed "math/bits.deBruijn64tab" = some 5 by kernel_rfl) v2
  simp only [] at s1 s2 s3
  omega
end
section
variable {H : Type} {enc : TypeId × Value → H} {W : World} {base : Nat} {v : Value} {d : DataW H} {p : List MemPlace}
set_option maxRecDepth 100000 in
theorem law_u8 (hv : Value.okWide Tryd.prog W .any base 5 v) (h : DataW.Trod enc Tryd.prog W 0 (fun _ => true) true 5 v d p) : ∃ x : Int, (Lit.int .u8 x).wf = true ∧ v = .int .u8 x := by
  obtain ⟨x, rfl, rfl, rfl, wx⟩ := open_int Tryd.underlying5 hv h
  exact ⟨x, wx, rfl⟩
end

set_option maxRecDepth 100000 in
theorem lifted (os : Os) (started : os.Started) (H : Type) (enc : TypeId × Value → H) :
    ReturnsInHanded {} Tryd.checked os 3 .any (fun w args => (Rows.messageBoardingSpec.pre enc Tryd.prog Tryd.f3 Rows.messageBoardingRow.domain false w args ∧ laidMetH Tryd.prog Rows.messageBoardingRow.laid w) ∧ sizedMet enc Tryd.prog Tryd.f3 (OpenSpec.ofChange Rows.messageBoardingSpec) false w args)
      (Rows.messageBoardingSpec.post enc Tryd.prog Tryd.f3 false true false false) := by
  refine returnsInHanded_of_change_and (C := Tryd.checked) (X := fun w _ => laidMetH Tryd.prog Rows.messageBoardingRow.laid w) (fun _ _ _ hh h => h.of_heap hh) lawOwn started (by kernel_rfl) Tryd.func3
    (ChangeSpec.witness_shaped (enc := enc) (C := Tryd.checked) (os := os) (X := fun w _ => laidMetH Tryd.prog Rows.messageBoardingRow.laid w) false (World.laidAll Tryd.prog os Rows.messageBoardingRow.laid) #[.int .i64 0, .int .u8 0] 8 (World.laidAll_os _ _ _)
      (World.shaped_of_ZipB (by kernel_rfl) (by kernel_rfl)) (by kernel_rfl) (by kernel_rfl) (by kernel_rfl)
      (by rw [MakeChecks.laidMetH_plain _ _ _ (by kernel_rfl)]; exact laidMet_laidAll _ (by kernel_rfl) (by kernel_rfl))) ?_
  intro W base args ds gs before hval0 hW _ _ hlaid _
  have hval : ∀ (j : Nat) t v, Tryd.f3.params[j]? = some t → args[j]? = some v → Value.okWide Tryd.prog W .any base t v := hval0
  have hW' := hW
  obtain ⟨p, q, hA0, hV, rfl, hfz, hnd⟩ := hW
  have hA : DataW.TrodAll enc Tryd.prog W 0 (fun _ => true) true Tryd.f3.params.toList args.toList ds p := hA0
  rw [Tryd.params3] at hA hval
  obtain ⟨v0, vs0, d0, ds0, p0, q0, hargs, rfl, rfl, h0, r0⟩ := trodAll_cons hA
  obtain ⟨v1, vs1, d1, ds1, p1, q1, rfl, rfl, rfl, h1, r1⟩ := trodAll_cons r0
  obtain ⟨rfl, rfl, rfl⟩ := trodAll_nil r1
  obtain rfl : args = #[v0, v1] := by cases args; simp_all
  obtain ⟨rfl, rfl⟩ := trodVars_none hV
  have lt0 : ∀ x ∈ p0, x.block < W.heap.size := by obtain ⟨m, hm⟩ := h0; exact DataW.trod_lt m _ _ _ hm
  have lt1 : ∀ x ∈ p1, x.block < W.heap.size := by obtain ⟨m, hm⟩ := h1; exact DataW.trod_lt m _ _ _ hm
  obtain ⟨x0, wx0, rfl⟩ := law_int (hval 0 3 v0 rfl rfl) h0
  obtain ⟨x1, wx1, rfl⟩ := law_u8 (hval 1 5 v1 rfl rfl) h1
  clear hA0 hval0
  refine (boarding_law x0 wx0 x1 wx1 (tablesB hlaid) (w := W)).mono fun e W' ⟨he, bel⟩ => ?_
  subst he
  exact ⟨_, rfl, _, _, _, [], _, [], hW', trodAll_mk1 (shut_bool Tryd.underlying4 _), (trodAll_cons_mk (Below.trod lawLaidOut (by kernel_rfl) (of_decide_eq_true (by kernel_rfl)) h0 bel lt0) (trodAll_cons_mk (Below.trod lawLaidOut (by kernel_rfl) (of_decide_eq_true (by kernel_rfl)) h1 bel lt1) trodAll_mk0)), rfl, bel.frame _, fun h => by cases h⟩

theorem proved : Rows.MessageBoardingSaid :=
  OpenClaim.holds_of_wide 3 Tryd.f3 rfl rfl rfl rfl rfl rfl rfl ⟨rfl, rfl, rfl, rfl, rfl⟩ rfl rfl rfl rfl rfl (by kernel_rfl) Tryd.func3 (by kernel_rfl)
    (of_decide_eq_true (by kernel_rfl)) (by unfold Func.isWrapper; first | (rw [if_pos (by decide +kernel)]; kernel_rfl) | (rw [if_neg (by decide +kernel)]; exact ⟨rfl, rfl⟩))
    (fun os started H enc _ => lifted os started H enc)
theorem card_proved : Rows.MessageBoardingCardSaid :=
  Claim7.holds_tied_plain_at .later [] [.data, .data, .data, .data, .data] true (true, "a0e5d0835aed0c11b267488a3a1e2d1c24a3f5c190056108d46e8f91f5a46dd0") false proved (fun _ h => by cases h) (by kernel_rfl) (fun _ h => by cases h) messageBoarding_row_tie rfl ⟨rfl, rfl⟩ (by kernel_rfl) rfl
    (fun f fn hf hfn => by
      obtain rfl : f = 3 := Option.some.inj ((show Tryd.prog.funcNamed "baggage/baggagelaw04.MessageBoarding" = some 3 by kernel_rfl).symm.trans hf) |>.symm
      obtain rfl : fn = Tryd.f3 := (Option.some.inj (Tryd.func3.symm.trans hfn)).symm
      exact ⟨by kernel_rfl, fun j t ht => by
        rw [Tryd.params3] at ht
        have hm : t ∈ [3, 5] := by simpa using Array.mem_of_getElem? ht
        have hall : ([3, 5].all fun u => !Tryd.prog.wantsStandIn u) = true := by kernel_rfl
        exact (show Tryd.prog.wantsStandIn t = false by simpa using List.all_eq_true.1 hall t hm)⟩)
    (by kernel_rfl)
#print axioms proved
#print axioms card_proved
end Go.Proofs.YtcjdjdganaokfaaDoor.messageBoarding
