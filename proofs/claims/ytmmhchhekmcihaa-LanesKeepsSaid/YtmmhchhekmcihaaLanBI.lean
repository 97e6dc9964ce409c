/-
  Lanes (layer 17): LanesKeeps: its walk.
-/
import Derived.Test.YtmmhchhekmcihaaLanBH
import Derived.Test.YtmmhchhekmcihaaAnyH
import Derived.Test.YtmmhchhekmcihaaCpyG
import Derived.Deep.CutRange
namespace Go.Proofs.Ytmmhchhekmcihaa
open Go.RowKit

theorem wf_nat {j : Nat} (h : j ≤ 1000) : (Lit.int .i64 (j : Int)).wf = true := WalkArith.wf_i64 (by omega)
theorem put_fill (PS : StoOk) {S : Nat → Prop} {L : List (List Bg)} {j c : Nat} {x : Int} {A : Option Addr} {W : World} (hv : ValL 6 L) (hl : L.length = 2) (hk : InK L (j - 1)) (hj : 1 ≤ j ∧ j ≤ 10) (hx : 0 ≤ x ∧ x ≤ 1048576) (h : StoI S W A L c) (ho : Old S W) :
    Calls Try.prog 30 #[lnsV 6 A 2 c, .agg #[.int .i64 (j : Int), .int .i64 x]] W fun e w' => ∃ (k : Nat) (L' : List (List Bg)) (A' : Option Addr) (c' : Nat), e = .returned (.tuple #[lnsV 6 A' 2 c', .int .i64 (k : Int), .int .i64 0]) ∧ StoI S w' A' L' c' ∧ ValL 6 L' ∧ InK L' j ∧ L'.length = 2 ∧ Below W.heap.size W w' := by
  obtain ⟨k, h1, h2, h3⟩ := fill_put (i := j - 1) (x := x) hv hl hk (by omega) hx
  rw [show j - 1 + 1 = j by omega] at h1 h2 h3
  have hc := PS.put 6 L ((j : Int), x) A c S W hv h ho (wf_nat (by omega)) (WalkArith.wf_i64 (by omega))
  rw [h1, hl] at hc
  refine hc.mono ?_
  rintro e w' ⟨hb, ⟨h4, _⟩ | ⟨_, A', c', rfl, hs⟩⟩
  · exact absurd rfl h4
  · exact ⟨k, _, A', c', rfl, hs, h2, h3, by rw [List.length_set]; exact hl, hb⟩
/-- What Take of a bag comes to, where bags 1 to n are in two lanes. -/
structure TkF (L : List (List Bg)) (n : Nat) (bb : Int) (f : Nat) (s : Bg) (pre r : List Bg) : Prop where
  fl : f < 2
  sb : s.1 = bb
  ln : L.getD f [] = pre ++ s :: r
  val : ValL 6 (L.set f (r ++ pre))
  out : ∀ v : Int, findS (L.set f (r ++ pre)) v < 2 ↔ (1 ≤ v ∧ v ≤ n) ∧ v ≠ bb
  has : ∀ v : Int, findS L v < 2 ↔ 1 ≤ v ∧ v ≤ n
  tk : takeS L bb = (L.set f (r ++ pre), pre.map (·.1), 0)
theorem take_fill {L : List (List Bg)} {n : Nat} {bb : Int} (hv : ValL 6 L) (hl : L.length = 2) (hk : InK L n) (hb : 1 ≤ bb ∧ bb ≤ n) : ∃ f s pre r, TkF L n bb f s pre r := by
  obtain ⟨f, s, pre, r, h1, h2, h3, h4, h5, h6⟩ := take_out hv ((hk.2 bb).2 hb)
  refine ⟨f, s, pre, r, ⟨by omega, h2, h3, h5, fun v => ?_, fun v => ?_, h4⟩⟩
  · have e : (L.set f (r ++ pre)).length = 2 := by rw [List.length_set]; exact hl
    rw [← hk.2 v, ← e, has_bag]
    have hm := (h6.map (·.1)).mem_iff (a := v)
    have hn := (h6.map (·.1)).nodup_iff.2 hv.one
    rw [List.map_append, List.nodup_append] at hn
    rw [List.map_append, List.mem_append] at hm
    constructor
    · intro hin
      exact ⟨hm.1 (.inl hin), fun e => hn.2.2 v hin s.1 (by simp) (by rw [h2]; exact e)⟩
    · rintro ⟨hin, hne⟩
      rcases hm.2 hin with h | h
      · exact h
      · have : v = s.1 := by simpa using h
        exact absurd (this.trans h2) hne
  · rw [← hk.2 v, ← hl, has_bag]
set_option maxHeartbeats 8000000 in
set_option maxRecDepth 100000 in
theorem keeps_any (haw : ∀ w : World, Calls Try.prog 9 #[] w fun e w' => e = .returned (.bool true) ∧ Below w.heap.size w w') (PS : StoOk) (A0 : Option Addr) (n0 c0 : Nat) (w : World) (hc : n0 ≤ c0) (hA : IntsIn w.heap.size w A0 n0) (bag : Int) :
    Calls Try.prog 8 #[.slice A0 n0 c0, .int .i64 bag] w fun e w' => e = .returned (.bool true) ∧ Below w.heap.size w w' := by
  have HAw := hide haw
  have HQ := hide PS
  have HNew := hide (new_any A0 n0 c0 w hc hA)
  clear haw PS hA
  go_enter Try.func8, Try.ntmps8
  go_wp2_with fail
  refine (unhide HNew).mono ?_
  rintro e w1 ⟨rfl, hs1, hb1⟩
  have HS1 := hide hs1
  have HB1 := hide hb1
  clear hs1 hb1
  go_wp2_with fail
  refine ((unhide HQ).new 2 6 w1).mono ?_
  rintro e w3 ⟨hb3, ⟨hbad, _⟩ | ⟨_, A3, c3, rfl, hst⟩⟩
  · exact absurd ⟨by decide, by decide, by decide, by decide⟩ hbad
  rw [show Int.toNat 2 = 2 from rfl] at hst ⊢
  have HX := hide (show KpS w w3.heap.size 6 2 (List.replicate 2 []) A3 c3 (w3.alloc (lnsO 6 A3 2 c3)) from KpS.start (onward (unhide HB1) hb3) ((unhide HS1).keep hb3) (hst (fun b => b = w.heap.size) (fun b hb => by subst hb; exact (unhide HS1).lt)) (by rw [List.length_replicate]))
  clear hst hb3 HS1 HB1
  go_wp2_with fail
  obtain ⟨W3, hW⟩ : ∃ W3 : World, w3.alloc (lnsO 6 A3 2 c3) = W3 := ⟨_, rfl⟩
  rw [hW] at HX ⊢
  obtain ⟨g, hg⟩ : ∃ g, w3.heap.size = g := ⟨_, rfl⟩
  rw [hg] at HX ⊢
  have HX := hide (unhide HX)
  clear hW hg
  refine (range_any _ _ 1 10 _ (unhide HX).src (by omega) (by omega) (by omega)).mono ?_
  rintro e w4 ⟨nn, rfl, n1, n2, hs4, hg4⟩
  obtain ⟨n, rfl⟩ := Int.eq_ofNat_of_zero_le (show 0 ≤ nn by omega)
  have HX4 := hide (show KpS w g 6 2 (List.replicate 2 []) A3 c3 w4 ∧ ValL 6 (List.replicate 2 []) ∧ InK (List.replicate 2 []) (1 - 1) from ⟨(unhide HX).read hs4 hg4, ⟨by omega, by rw [List.length_replicate]; omega, fun l hl => by rw [List.eq_of_mem_replicate hl]; exact Nat.zero_le _, fun l hl s hs => (by rw [List.eq_of_mem_replicate hl] at hs; exact absurd hs (List.not_mem_nil)), (by simp [List.replicate])⟩, InK.zero 2⟩)
  have hn1 : 1 ≤ n := by omega
  have hn2 : n ≤ 10 := by omega
  clear hs4 hg4 HX n1 n2
  go_wp2_with fail
  go_loopw [9] (fun s9 wr => ∃ (j : Nat) (L : List (List Bg)) (A : Option Addr) (c : Nat), 1 ≤ j ∧ j ≤ n + 1 ∧ s9 = .int .i64 (j : Int) ∧ Hid (KpS w g 6 2 L A c wr ∧ ValL 6 L ∧ InK L (j - 1))) (fun s9 _ => n + 1 - (intOf s9).toNat)
  case atStart => exact ⟨1, _, A3, c3, Nat.le_refl _, by omega, rfl, HX4⟩
  case round =>
    obtain ⟨j, L, A, c, hj1, hj2, rfl, HI⟩ := hrel
    obtain ⟨wo, rfl⟩ : ∃ wo : World, wo = wr := ⟨_, rfl⟩
    clear HX4
    by_cases hjn : j ≤ n
    · have jn : (j : Int) ≤ (n : Int) := by omega
      have HS1 := hide ((unhide HI).1.below (Below.refl wo.heap.size wo).drew)
      have HPut := hide (fun (S : Nat → Prop) (W : World) (x : Int) (hx : 0 ≤ x ∧ x ≤ 1048576) (h : StoI S W A L c) (ho : Old S W) => put_fill (unhide HQ) (x := x) (unhide HI).2.1 (unhide HI).1.len (unhide HI).2.2 ⟨hj1, by omega⟩ hx h ho)
      have HSd := hide (show (fun Z : World => Z.heap[g]? = some (lnsO 6 A 2 c)) wo.drew from (unhide HS1).box)
      go_upto_region 9 with fail
      refine wp_region_held (S := fun Z => Z.heap[g]? = some (lnsO 6 A 2 c)) (by kernel_rfl) ?_
      refine wpAnyH_take (i := 0) (v := lnsV 6 A 2 c) rfl (by kernel_rfl) (by kernel_rfl) (by kernel_rfl) (fun _ _ _ h => h) (yields_loadLn _ rfl rfl rfl (fun _ h => h)) (unhide HSd) ?_
      refine wpAnyH_take (i := 1) (v := .int .i64 (j : Int)) rfl (by kernel_rfl) (by kernel_rfl) (by kernel_rfl) (fun _ _ _ h => h) (Or.inl ⟨by rfl, by intro Z hs; go_simp <;> omega⟩) (unhide HSd) ?_
      refine wpAnyH_take (i := 2) (v := .pointer (some ⟨w.heap.size, 0, none⟩)) rfl (by kernel_rfl) (by kernel_rfl) (by kernel_rfl) (fun _ _ _ h => h) (Or.inl ⟨by rfl, by intro Z hs; go_simp <;> omega⟩) (unhide HSd) ?_
      go_simp
      refine wpAnyH_two (i := 3) (j := 10) (by kernel_rfl) rfl rfl (fun K hK => ?_) (fun K hK => ?_)
      case' refine_1 =>
        go_simp
        go_at_call 22
        refine (n_any _ _ 5 _ (unhide HS1).src (by omega) (by omega)).mono ?_
        rintro e wn ⟨x, rfl, x0, x1, hsn, hgn⟩
        try go_simp

        have HS2 := hide ((unhide HS1).read hsn hgn)
        have HSd := hide (show (fun Z : World => Z.heap[g]? = some (lnsO 6 A 2 c)) wn from (unhide HS2).box)
        refine hK _ _ ⟨(unhide HSd), ?_⟩
        clear hK K hsn hgn
        refine wpAnyH_take (i := 4) (v := .agg #[.int .i64 (j : Int), .int .i64 x]) rfl (by kernel_rfl) (by kernel_rfl) (by kernel_rfl) (fun _ _ _ h => h) (Or.inl ⟨by rfl, by intro Z hs; go_simp <;> omega⟩) (unhide HSd) ?_
        go_simp
        refine wpAnyH_two (i := 5) (j := 10) (by kernel_rfl) rfl rfl (fun K hK => ?_) (fun K hK => ?_)
        case' refine_1 =>
          go_simp
          go_at_call 30
          refine ((unhide HPut) _ _ x ⟨x0, by omega⟩ (unhide HS2).sto (unhide HS2).old).mono ?_
          rintro e w4 ⟨kk, L4, A4, c4, rfl, hs4, hv4, hi4, hl4, hb4⟩
          try go_simp
          have HP4 := hide (show ValL 6 L4 ∧ InK L4 j ∧ L4.length = 2 from ⟨hv4, hi4, hl4⟩)
          clear hv4 hi4 hl4

          have HS4 := hide ((unhide HS2).below hb4)
          have HN := hide (KpN.one (unhide HS4) hs4)
          have HSd := hide (show (fun Z : World => Z.heap[g]? = some (lnsO 6 A 2 c)) w4 from (unhide HS4).box)
          refine hK _ _ ⟨(unhide HSd), ?_⟩
          clear hK K hb4 hs4
          refine wpAnyH_take (i := 6) (v := .tuple #[lnsV 6 A4 2 c4, .int .i64 (kk : Int), .int .i64 0]) rfl (by kernel_rfl) (by kernel_rfl) (by kernel_rfl) (fun _ _ _ h => h) (Or.inl ⟨by rfl, by intro Z hs; go_simp <;> omega⟩) (unhide HSd) ?_
          refine wpAnyH_take (i := 7) (v := lnsV 6 A4 2 c4) rfl (by kernel_rfl) (by kernel_rfl) (by kernel_rfl) (fun _ _ _ h => h) (Or.inl ⟨by rfl, by intro Z hs; go_simp <;> omega⟩) (unhide HSd) ?_
          refine wpAnyH_take (i := 8) (v := .int .i64 (kk : Int)) rfl (by kernel_rfl) (by kernel_rfl) (by kernel_rfl) (fun _ _ _ h => h) (Or.inl ⟨by rfl, by intro Z hs; go_simp <;> omega⟩) (unhide HSd) ?_
          refine wpAnyH_take (i := 9) (v := .int .i64 0) rfl (by kernel_rfl) (by kernel_rfl) (by kernel_rfl) (fun _ _ _ h => h) (Or.inl ⟨by rfl, by intro Z hs; go_simp <;> omega⟩) (unhide HSd) ?_
          go_simp
          refine wpAnyH_one (i := 10) (by kernel_rfl) rfl (fun K hK => ?_)
          go_simp
          have b5 := below_new (Below.refl w4.heap.size w4) (lnsO 0 none 0 0)
          have hy := heap_alloc_new w4 (lnsO 0 none 0 0)
          refine hK _ _ ⟨heap_below (unhide HS4).box b5, ?_⟩
          clear hK K
          refine wpAnyH_one (i := 11) (by kernel_rfl) rfl (fun K hK => ?_)
          rw [if_pos (by rfl)]
          refine wp_store_row 42 _ _ rfl w4.heap.size #[.int .i64 6, .slice A4 2 c4] rfl rfl _ _ hy infoLn rfl (by simp [Value.oneCell']) ?_
          clear hy b5

          have hHN := unhide HN
          generalize (w4.alloc (lnsO 0 none 0 0)).setRow w4.heap.size #[.int .i64 6, .slice A4 2 c4] = W5 at hHN ⊢
          generalize w4.heap.size = y at hHN ⊢
          have HN := hide hHN
          have HSd := hide (show (fun Z : World => Z.heap[g]? = some (lnsO 6 A 2 c)) W5 from hHN.st.box)
          refine hK _ _ ⟨(unhide HSd), ?_⟩
          clear hK K hHN
          refine wpAnyH_take (i := 12) (v := .int .i64 (kk : Int)) rfl (by kernel_rfl) (by kernel_rfl) (by kernel_rfl) (fun _ _ _ h => h) (Or.inl ⟨by rfl, by intro Z hs; go_simp <;> omega⟩) (unhide HSd) ?_
          refine wpAnyH_take (i := 13) (v := .int .i64 0) rfl (by kernel_rfl) (by kernel_rfl) (by kernel_rfl) (fun _ _ _ h => h) (Or.inl ⟨by rfl, by intro Z hs; go_simp <;> omega⟩) (unhide HSd) ?_
          refine wpAnyH_done (by kernel_rfl) ?_ _
          go_simp
          go_wp2_with (first
            | (refine wpList_loadLn (unhide HN).yb rfl _ rfl rfl ?_)
            | (refine wpList_storeLn (unhide HN).st.box rfl _ _ rfl rfl rfl ?_))
          go_roundw
          case rel => exact ⟨j + 1, L4, A4, c4, by omega, by omega, by go_num, hide ⟨(unhide HN).take (unhide HP4).2.2, (unhide HP4).1, by rw [Nat.add_sub_cancel]; exact (unhide HP4).2.1⟩⟩
          case measure => simp [intOf]; omega
        case' refine_2 =>
          go_simp
          have HY := hide (KpY.start (unhide HS2))
          have HSd := hide (show (fun Z : World => Z.heap[g]? = some (lnsO 6 A 2 c)) (wn.alloc (lnsO 0 none 0 0)) from (unhide HY).st.box)
          refine hK _ _ ⟨(unhide HSd), ?_⟩
          clear hK K
          obtain ⟨y, hy⟩ : ∃ y, wn.heap.size = y := ⟨_, rfl⟩
          rw [hy] at HY ⊢
          have HY := hide (unhide HY)
          clear hy
          refine wpAnyH_one (i := 5) (by kernel_rfl) rfl (fun K hK => ?_)

          go_simp
          go_at_call 30
          refine ((unhide HPut) _ _ x ⟨x0, by omega⟩ (unhide HY).sto (unhide HY).old).mono ?_
          rintro e w4 ⟨kk, L4, A4, c4, rfl, hs4, hv4, hi4, hl4, hb4⟩
          try go_simp
          have HP4 := hide (show ValL 6 L4 ∧ InK L4 j ∧ L4.length = 2 from ⟨hv4, hi4, hl4⟩)
          clear hv4 hi4 hl4

          have HY4 := hide ((unhide HY).below hb4)
          have HN := hide (KpN.two (unhide HY4) hs4)
          have hy := (unhide HY4).yb
          have HSd := hide (show (fun Z : World => Z.heap[g]? = some (lnsO 6 A 2 c)) w4 from (unhide HY4).st.box)
          refine hK _ _ ⟨(unhide HSd), ?_⟩
          clear hK K hb4 hs4
          refine wpAnyH_take (i := 6) (v := .tuple #[lnsV 6 A4 2 c4, .int .i64 (kk : Int), .int .i64 0]) rfl (by kernel_rfl) (by kernel_rfl) (by kernel_rfl) (fun _ _ _ h => h) (Or.inl ⟨by rfl, by intro Z hs; go_simp <;> omega⟩) (unhide HSd) ?_
          refine wpAnyH_take (i := 7) (v := lnsV 6 A4 2 c4) rfl (by kernel_rfl) (by kernel_rfl) (by kernel_rfl) (fun _ _ _ h => h) (Or.inl ⟨by rfl, by intro Z hs; go_simp <;> omega⟩) (unhide HSd) ?_
          refine wpAnyH_take (i := 8) (v := .int .i64 (kk : Int)) rfl (by kernel_rfl) (by kernel_rfl) (by kernel_rfl) (fun _ _ _ h => h) (Or.inl ⟨by rfl, by intro Z hs; go_simp <;> omega⟩) (unhide HSd) ?_
          refine wpAnyH_take (i := 9) (v := .int .i64 0) rfl (by kernel_rfl) (by kernel_rfl) (by kernel_rfl) (fun _ _ _ h => h) (Or.inl ⟨by rfl, by intro Z hs; go_simp <;> omega⟩) (unhide HSd) ?_
          go_simp
          refine wpAnyH_one (i := 11) (by kernel_rfl) rfl (fun K hK => ?_)
          rw [if_pos (by rfl)]
          refine wp_store_row 42 _ _ rfl y #[.int .i64 6, .slice A4 2 c4] rfl rfl _ _ hy infoLn rfl (by simp [Value.oneCell']) ?_
          clear hy

          have hHN := unhide HN
          generalize w4.setRow y #[.int .i64 6, .slice A4 2 c4] = W5 at hHN ⊢
          have HN := hide hHN
          have HSd := hide (show (fun Z : World => Z.heap[g]? = some (lnsO 6 A 2 c)) W5 from hHN.st.box)
          refine hK _ _ ⟨(unhide HSd), ?_⟩
          clear hK K hHN
          refine wpAnyH_take (i := 12) (v := .int .i64 (kk : Int)) rfl (by kernel_rfl) (by kernel_rfl) (by kernel_rfl) (fun _ _ _ h => h) (Or.inl ⟨by rfl, by intro Z hs; go_simp <;> omega⟩) (unhide HSd) ?_
          refine wpAnyH_take (i := 13) (v := .int .i64 0) rfl (by kernel_rfl) (by kernel_rfl) (by kernel_rfl) (fun _ _ _ h => h) (Or.inl ⟨by rfl, by intro Z hs; go_simp <;> omega⟩) (unhide HSd) ?_
          refine wpAnyH_done (by kernel_rfl) ?_ _
          go_simp
          go_wp2_with (first
            | (refine wpList_loadLn (unhide HN).yb rfl _ rfl rfl ?_)
            | (refine wpList_storeLn (unhide HN).st.box rfl _ _ rfl rfl rfl ?_))
          go_roundw
          case rel => exact ⟨j + 1, L4, A4, c4, by omega, by omega, by go_num, hide ⟨(unhide HN).take (unhide HP4).2.2, (unhide HP4).1, by rw [Nat.add_sub_cancel]; exact (unhide HP4).2.1⟩⟩
          case measure => simp [intOf]; omega
      case' refine_2 =>
        go_simp
        have HY0 := hide (KpY.start (unhide HS1))
        have HSd := hide (show (fun Z : World => Z.heap[g]? = some (lnsO 6 A 2 c)) (wo.drew.alloc (lnsO 0 none 0 0)) from (unhide HY0).st.box)
        refine hK _ _ ⟨(unhide HSd), ?_⟩
        clear hK K
        obtain ⟨y, hy⟩ : ∃ y, wo.heap.size = y := ⟨_, rfl⟩
        rw [show wo.drew.heap.size = y from hy] at HY0
        rw [hy]
        have HY0 := hide (unhide HY0)
        clear hy
        refine wpAnyH_one (i := 3) (by kernel_rfl) rfl (fun K hK => ?_)

        go_simp
        go_at_call 22
        refine (n_any _ _ 5 _ (unhide HY0).st.src (by omega) (by omega)).mono ?_
        rintro e wn ⟨x, rfl, x0, x1, hsn, hgn⟩
        try go_simp

        have HY := hide ((unhide HY0).read hsn hgn)
        have HSd := hide (show (fun Z : World => Z.heap[g]? = some (lnsO 6 A 2 c)) wn from (unhide HY).st.box)
        refine hK _ _ ⟨(unhide HSd), ?_⟩
        clear hK K hsn hgn
        refine wpAnyH_take (i := 4) (v := .agg #[.int .i64 (j : Int), .int .i64 x]) rfl (by kernel_rfl) (by kernel_rfl) (by kernel_rfl) (fun _ _ _ h => h) (Or.inl ⟨by rfl, by intro Z hs; go_simp <;> omega⟩) (unhide HSd) ?_
        go_simp
        refine wpAnyH_one (i := 5) (by kernel_rfl) rfl (fun K hK => ?_)

        go_simp
        go_at_call 30
        refine ((unhide HPut) _ _ x ⟨x0, by omega⟩ (unhide HY).sto (unhide HY).old).mono ?_
        rintro e w4 ⟨kk, L4, A4, c4, rfl, hs4, hv4, hi4, hl4, hb4⟩
        try go_simp
        have HP4 := hide (show ValL 6 L4 ∧ InK L4 j ∧ L4.length = 2 from ⟨hv4, hi4, hl4⟩)
        clear hv4 hi4 hl4

        have HY4 := hide ((unhide HY).below hb4)
        have HN := hide (KpN.two (unhide HY4) hs4)
        have hy := (unhide HY4).yb
        have HSd := hide (show (fun Z : World => Z.heap[g]? = some (lnsO 6 A 2 c)) w4 from (unhide HY4).st.box)
        refine hK _ _ ⟨(unhide HSd), ?_⟩
        clear hK K hb4 hs4
        refine wpAnyH_take (i := 6) (v := .tuple #[lnsV 6 A4 2 c4, .int .i64 (kk : Int), .int .i64 0]) rfl (by kernel_rfl) (by kernel_rfl) (by kernel_rfl) (fun _ _ _ h => h) (Or.inl ⟨by rfl, by intro Z hs; go_simp <;> omega⟩) (unhide HSd) ?_
        refine wpAnyH_take (i := 7) (v := lnsV 6 A4 2 c4) rfl (by kernel_rfl) (by kernel_rfl) (by kernel_rfl) (fun _ _ _ h => h) (Or.inl ⟨by rfl, by intro Z hs; go_simp <;> omega⟩) (unhide HSd) ?_
        refine wpAnyH_take (i := 8) (v := .int .i64 (kk : Int)) rfl (by kernel_rfl) (by kernel_rfl) (by kernel_rfl) (fun _ _ _ h => h) (Or.inl ⟨by rfl, by intro Z hs; go_simp <;> omega⟩) (unhide HSd) ?_
        refine wpAnyH_take (i := 9) (v := .int .i64 0) rfl (by kernel_rfl) (by kernel_rfl) (by kernel_rfl) (fun _ _ _ h => h) (Or.inl ⟨by rfl, by intro Z hs; go_simp <;> omega⟩) (unhide HSd) ?_
        go_simp
        refine wpAnyH_one (i := 11) (by kernel_rfl) rfl (fun K hK => ?_)
        rw [if_pos (by rfl)]
        refine wp_store_row 42 _ _ rfl y #[.int .i64 6, .slice A4 2 c4] rfl rfl _ _ hy infoLn rfl (by simp [Value.oneCell']) ?_
        clear hy

        have hHN := unhide HN
        generalize w4.setRow y #[.int .i64 6, .slice A4 2 c4] = W5 at hHN ⊢
        have HN := hide hHN
        have HSd := hide (show (fun Z : World => Z.heap[g]? = some (lnsO 6 A 2 c)) W5 from hHN.st.box)
        refine hK _ _ ⟨(unhide HSd), ?_⟩
        clear hK K hHN
        refine wpAnyH_take (i := 12) (v := .int .i64 (kk : Int)) rfl (by kernel_rfl) (by kernel_rfl) (by kernel_rfl) (fun _ _ _ h => h) (Or.inl ⟨by rfl, by intro Z hs; go_simp <;> omega⟩) (unhide HSd) ?_
        refine wpAnyH_take (i := 13) (v := .int .i64 0) rfl (by kernel_rfl) (by kernel_rfl) (by kernel_rfl) (fun _ _ _ h => h) (Or.inl ⟨by rfl, by intro Z hs; go_simp <;> omega⟩) (unhide HSd) ?_
        refine wpAnyH_done (by kernel_rfl) ?_ _
        go_simp
        go_wp2_with (first
          | (refine wpList_loadLn (unhide HN).yb rfl _ rfl rfl ?_)
          | (refine wpList_storeLn (unhide HN).st.box rfl _ _ rfl rfl rfl ?_))
        go_roundw
        case rel => exact ⟨j + 1, L4, A4, c4, by omega, by omega, by go_num, hide ⟨(unhide HN).take (unhide HP4).2.2, (unhide HP4).1, by rw [Nat.add_sub_cancel]; exact (unhide HP4).2.1⟩⟩
        case measure => simp [intOf]; omega
    · have jn : ¬ (j : Int) ≤ (n : Int) := by omega
      obtain rfl : j = n + 1 := by omega
      rw [Nat.add_sub_cancel] at HI
      have HI := hide (unhide HI)
      have hmod := modN_range bag (n : Int) (by omega)
      have HMod := hide (fun W => mod_any bag (n : Int) W (by omega) (by omega))
      generalize modN bag (n : Int) = v at hmod HMod
      have hwv : IntKind.i64.wrap (1 + v) = 1 + v := by rw [IntKind.wrap_i64]; omega
      obtain ⟨f, s, pre, r, htk⟩ := take_fill (bb := 1 + v) (unhide HI).2.1 (unhide HI).1.len (unhide HI).2.2 (by omega)
      have HTk := hide htk
      have HC := hide ((unhide HQ).take 6 L (1 + v) A c _ wo (unhide HI).2.1 (unhide HI).1.sto (unhide HI).1.old (WalkArith.wf_i64 (by omega)))
      rw [htk.tk, (unhide HI).1.len, List.length_map] at HC
      have HC := hide (unhide HC)
      clear htk
      go_wp2_with (first
        | (go_at_call 20; refine (unhide HMod _).mono ?_; rintro e wz ⟨rfl, rfl⟩)
        | (refine wpList_loadLn (unhide HI).1.box rfl _ rfl rfl ?_))
      refine (unhide HC).mono ?_
      rintro e w6 ⟨hb6, ⟨h6, _⟩ | ⟨_, A6, c6, B6, d6, rfl, _, hs6, hn6⟩⟩
      · exact absurd rfl h6
      have HS6 := hide ((unhide HI).1.below hb6)
      have HN6 := hide hs6
      have HM6 := hide (hn6 g (.inr rfl))
      clear hb6 hs6 hn6 HC HMod
      have HN7 := hide (KpN.new1 (unhide HS6) (unhide HN6))
      have HM7 := hide ((unhide HM6).keep (below_new (Below.refl w6.heap.size w6) (lnsO 6 A6 2 c6)))
      go_upto_region 15 with fail
      obtain ⟨W7, hW7⟩ : ∃ W7 : World, w6.alloc (lnsO 6 A6 2 c6) = W7 := ⟨_, rfl⟩
      rw [hW7] at HN7 HM7 ⊢
      obtain ⟨y, hy⟩ : ∃ y, w6.heap.size = y := ⟨_, rfl⟩
      rw [hy] at HN7 ⊢
      have HN7 := hide (unhide HN7)
      have HM7 := hide (unhide HM7)
      clear hW7 hy HS6 HN6 HM6
      obtain ⟨m, hm⟩ : ∃ m, pre.length = m := ⟨_, rfl⟩
      rw [hm]
      have HMl := hide hm
      have hm6 : m ≤ 6 := by
        have h1 := (unhide HI).2.1.len _ (mem_at (show f < L.length by rw [(unhide HI).1.len]; exact (unhide HTk).fl))
        rw [(unhide HTk).ln, List.length_append] at h1; omega
      clear hm
      have eL : (L.set f (r ++ pre)).length = 2 := by rw [List.length_set]; exact (unhide HI).1.len
      have eL2 : L.length = 2 := (unhide HI).1.len
      have HInY : Hid (∀ (W : World), Below W7.heap.size W7 W → ∀ x : Int, Calls Try.prog 32 #[lnsV 6 A6 2 c6, .int .i64 x] W fun e w' => e = .returned (.bool (decide (findS (L.set f (r ++ pre)) x < 2))) ∧ Below W.heap.size W w') := hide (fun W hb x => by
        have h := rIn_any _ 6 x (L.set f (r ++ pre)) A6 c6 W (unhide HTk).val ((unhide HN7).new.below hb); rw [eL] at h; exact h)
      have HInX : Hid (∀ (W : World), Below W7.heap.size W7 W → ∀ x : Int, Calls Try.prog 32 #[lnsV 6 A 2 c, .int .i64 x] W fun e w' => e = .returned (.bool (decide (findS L x < 2))) ∧ Below W.heap.size W w') := hide (fun W hb x => by
        have h := rIn_any _ 6 x L A c W (unhide HI).2.1 ((unhide HN7).st.sto.below hb); rw [eL2] at h; exact h)
      clear eL eL2
      have HYc := hide (fun (W : World) (hb : Below W7.heap.size W7 W) => show (W.cell? ⟨y, 0, none⟩ = some (.int .i64 6) ∧ W.cell? ⟨y, 1, none⟩ = some (.slice A6 2 c6)) ∧ W.cell? ⟨g, 0, none⟩ = some (.int .i64 6) ∧ W.cell? ⟨g, 1, none⟩ = some (.slice A 2 c) from
        ⟨⟨by rw [Lib.cell_of_heap (heap_below (unhide HN7).yb hb)]; rfl, by rw [Lib.cell_of_heap (heap_below (unhide HN7).yb hb)]; rfl⟩, by rw [Lib.cell_of_heap (heap_below (unhide HN7).st.box hb)]; rfl, by rw [Lib.cell_of_heap (heap_below (unhide HN7).st.box hb)]; rfl⟩)
      obtain ⟨⟨y0, y1⟩, _⟩ := unhide HYc W7 (Below.refl _ _)
      have HF0 := hide ((unhide HInY) W7 (Below.refl _ _) (1 + v))
      rw [decide_eq_false (fun h => (((unhide HTk).out (1 + v)).1 h).2 rfl)] at HF0
      have HF0 := hide (unhide HF0)
      go_wp2_with (first
        | (go_at_call 32; refine (unhide HF0).mono ?_; rintro e w8 ⟨rfl, hb8⟩; have HB8 := hide hb8; clear hb8))
      clear y0 y1
      go_loopw [17] (fun s17 wr => ∃ k : Nat, 1 ≤ k ∧ k ≤ n + 1 ∧ s17 = .int .i64 (k : Int) ∧ Hid (Below W7.heap.size W7 wr)) (fun s17 _ => n + 1 - (intOf s17).toNat)
      case atStart => exact ⟨1, Nat.le_refl _, by omega, rfl, HB8⟩
      case round =>
        obtain ⟨k, hk1, hk2, rfl, HK⟩ := hrel
        obtain ⟨wk, rfl⟩ : ∃ wk : World, wk = wr := ⟨_, rfl⟩
        clear HB8
        by_cases hkn : k ≤ n
        · have kn : (k : Int) ≤ (n : Int) := by omega
          have HXin := hide ((unhide HInX))
          have hxk : decide (findS L (k : Int) < 2) = true := decide_eq_true (((unhide HTk).has (k : Int)).2 ⟨by omega, by omega⟩)
          have HKin := hide (fun (W : World) (hb : Below W7.heap.size W7 W) => kin_any g (pre.map (·.1)) (k : Int) B6 d6 W (by rw [List.length_map]; have := unhide HMl; omega) ((unhide HM7).keep hb))
          rw [List.length_map, unhide HMl] at HKin
          have HKin := hide (unhide HKin)
          obtain ⟨⟨y0, y1⟩, x0, x1⟩ := unhide HYc wk (unhide HK)
          obtain ⟨qb, hqb⟩ : ∃ qb, decide ((k : Int) ∈ pre.map (·.1)) = qb := ⟨_, rfl⟩
          rw [hqb] at HKin
          have HKin := hide (unhide HKin)
          clear hqb
          have HFx := hide (fun (W : World) (hb : Below W7.heap.size W7 W) => (unhide HInX) W hb (k : Int))
          rw [hxk] at HFx
          have HFx := hide (unhide HFx)
          clear hxk
          by_cases hkb : (k : Int) = 1 + v
          · have q1 : ((k : Int) != 1 + v) = false := by rw [bne_eq_false_iff_eq]; exact hkb
            clear hkb
            cases qb with
            | true =>
              go_wp2_with (first
                | (go_at_call 33; refine (unhide HKin _ (unhide HK)).mono ?_; rintro e w9 ⟨rfl, rfl⟩)
                | (go_at_call 32; refine (unhide HFx _ (unhide HK)).mono ?_; rintro e w9 ⟨rfl, hb9⟩; have HB9 := hide (onward (unhide HK) hb9); clear hb9))
              go_roundw
              case rel => exact ⟨k + 1, by omega, by omega, by go_num, HB9⟩
              case measure => simp [intOf]; omega
            | false =>
              go_wp2_with (first
                | (go_at_call 33; refine (unhide HKin _ (unhide HK)).mono ?_; rintro e w9 ⟨rfl, rfl⟩))
              go_roundw
              case rel => exact ⟨k + 1, by omega, by omega, by go_num, HK⟩
              case measure => simp [intOf]; omega
          · have q1 : ((k : Int) != 1 + v) = true := by rw [bne_iff_ne]; exact hkb
            have HFy := hide (unhide HInY wk (unhide HK) (k : Int))
            rw [decide_eq_true (((unhide HTk).out (k : Int)).2 ⟨⟨by omega, by omega⟩, hkb⟩)] at HFy
            have HFy := hide (unhide HFy)
            clear hkb
            cases qb with
            | true =>
              go_wp2_with (first
                | (go_at_call 32; with_reducible refine (unhide HFy).mono ?_; rintro e w8 ⟨rfl, hb8⟩; have HB8 := hide (onward (unhide HK) hb8); obtain ⟨⟨y2, y3⟩, x2, x3⟩ := unhide HYc _ (unhide HB8); clear hb8)
                | (go_at_call 33; refine (unhide HKin _ (unhide HB8)).mono ?_; rintro e w9 ⟨rfl, rfl⟩)
                | (go_at_call 32; refine (unhide HFx _ (unhide HB8)).mono ?_; rintro e w9 ⟨rfl, hb9⟩; have HB9 := hide (onward (unhide HB8) hb9); clear hb9))
              go_roundw
              case rel => exact ⟨k + 1, by omega, by omega, by go_num, HB9⟩
              case measure => simp [intOf]; omega
            | false =>
              go_wp2_with (first
                | (go_at_call 32; with_reducible refine (unhide HFy).mono ?_; rintro e w8 ⟨rfl, hb8⟩; have HB8 := hide (onward (unhide HK) hb8); clear hb8)
                | (go_at_call 33; refine (unhide HKin _ (unhide HB8)).mono ?_; rintro e w9 ⟨rfl, rfl⟩))
              go_roundw
              case rel => exact ⟨k + 1, by omega, by omega, by go_num, HB8⟩
              case measure => simp [intOf]; omega
        · have kn : ¬ (k : Int) ≤ (n : Int) := by omega
          have HN9 := hide ((unhide HN7).below (unhide HK))
          have HM9 := hide ((unhide HM7).keep (unhide HK))
          have HZ0 := hide (show KpS w wk.heap.size 6 2 L A c (wk.alloc (lnsO 6 A 2 c)) from KpS.start (unhide HN9).st.bel (unhide HN9).st.src ((unhide HN9).st.sto.mono fun b _ e => .inl e) (unhide HI).1.len)
          have HM0 := hide ((unhide HM9).keep (below_new (Below.refl wk.heap.size wk) (lnsO 6 A 2 c)))
          go_upto_region 23 with (first | (refine wpList_loadLn (unhide HN9).st.box rfl _ rfl rfl ?_))
          obtain ⟨Wz, hWz⟩ : ∃ Wz : World, wk.alloc (lnsO 6 A 2 c) = Wz := ⟨_, rfl⟩
          rw [hWz] at HZ0 HM0 ⊢
          obtain ⟨z, hz⟩ : ∃ z, wk.heap.size = z := ⟨_, rfl⟩
          rw [hz] at HZ0 ⊢
          have HZ0 := hide (unhide HZ0)
          have HM0 := hide (unhide HM0)
          clear hWz hz HN9 HM9 HInX HInY HYc HF0 HN7 HM7
          obtain ⟨i0, hi, hz0, hz1, hz2⟩ := info_parts linfo_int
          have HI0 := hide hi
          have HI1 := hide hz0
          have HI2 := hide hz1
          have HI3 := hide hz2
          clear hi hz0 hz1 hz2
          have bx := below_new (Below.refl Wz.heap.size Wz) (.cells #[] 3)
          have HWo := hide (show (Wz.alloc (.cells #[] 3)).ownsRow Wz.heap.size 3 1 (.slice (some ⟨Wz.heap.size, 0, none⟩) 0 0) 0 [] from ⟨rfl, .inr ⟨Wz.heap.size, 0, #[], rfl, Nat.le_refl _, heap_alloc_new Wz _, Nat.le_refl _, Nat.zero_le _, rfl, rfl⟩⟩)
          have HSr := hide (fun (hp : 0 < m) => show ∃ g off, B6 = some ⟨g, off, none⟩ ∧ ∀ j u, ((pre.map (·.1)).map (Value.int .i64))[j]? = some u → (Wz.alloc (.cells #[] 3)).cell? ⟨g, off + j, none⟩ = some u from by
            obtain ⟨g', off, e, _, hc⟩ := ((unhide HM0).keep bx) (by rw [List.length_map, unhide HMl]; exact hp)
            refine ⟨g', off, e, fun j u hu => ?_⟩
            have hj : j < (pre.map (·.1)).length := by have := (List.getElem?_eq_some_iff.1 hu).1; rwa [List.length_map] at this
            rw [hc j hj]
            rw [List.getElem?_map, List.getElem?_eq_getElem hj] at hu
            rw [at_k hj]; exact hu)
          have HLn := hide (show ((pre.map (·.1)).map (Value.int .i64)).length = m * 1 from by rw [List.length_map, List.length_map, unhide HMl, Nat.mul_one])
          have HOn := hide (show ∀ u ∈ (pre.map (·.1)).map (Value.int .i64), u.oneCell' = true from fun u hu => by obtain ⟨x, _, rfl⟩ := List.mem_map.1 hu; rfl)
          have HPl := hide (show (pre.map (·.1)).map (Value.int .i64) ++ [.int .i64 (1 + v)] = ((pre ++ [s]).map (·.1)).map (Value.int .i64) from by rw [List.map_append, List.map_append, ← (unhide HTk).sb]; rfl)
          have HBx := hide bx
          obtain ⟨ps, hps⟩ : ∃ ps, (pre.map (·.1)).map (Value.int .i64) = ps := ⟨_, rfl⟩
          rw [hps] at HSr HLn HOn HPl
          have HSr := hide (unhide HSr)
          clear bx hps
          go_wp2_with (at_builtin; refine wpList_copyG (H := Wz.heap.size) (e := Wz.heap.size) rfl _ _ rfl rfl rfl rfl Try.underlying22 (unhide HI0) (unhide HI1) (unhide HI2) (unhide HI3) rfl (by decide) (unhide HLn) (by unfold maxLen; omega) (by omega) (unhide HOn) (by rw [World.size_alloc]; omega) (unhide HWo) (unhide HSr) ?_)
          intro A8 c8 w10 hown8 hg8
          have HB10 := hide (show Below Wz.heap.size Wz w10 from (unhide HBx).grown hg8 (unhide HBx).size (fun k e => by injection e with e; omega))
          have HO10 := hide (owns_later hown8 (below_new (Below.refl w10.heap.size w10) (.cells #[.int .i64 (1 + v)] 3)))
          have HB11 := hide (onward (unhide HB10) (below_new (Below.refl w10.heap.size w10) (.cells #[.int .i64 (1 + v)] 3)))
          have HNw := hide (World.news_of_block (heap_alloc_new w10 (.cells #[.int .i64 (1 + v)] 3)))
          have hz11 := (unhide HB11).size
          clear hown8 hg8
          go_wp2_with (at_builtin; refine wpList_append_lies _ rfl _ _ 22 rfl Wz.heap.size 3 i0 (.int .i64 0) 1 8 Try.underlying22 (unhide HI0) (unhide HI1) (unhide HI2) (unhide HI3) rfl (by decide) _ _ _ rfl (unhide HO10) ⟨w10.heap.size, 0, none⟩ 1 1 [.int .i64 (1 + v)] rfl rfl (unhide HNw) (fun u hu => by rw [List.mem_singleton.1 hu]; rfl) (by decide) (by unfold maxLen; omega) (by omega) hz11 _ rfl ?_)
          intro q cq w11 hown11 hgrow hat hlt11
          have HB12 := hide (show Below Wz.heap.size Wz w11 from (unhide HB11).grown hgrow (unhide HB11).size (fun j e => ((unhide HO10).lt j e).1))
          have hzl := (unhide HZ0).lt
          have hfl2 : f < L.length := by rw [(unhide HI).1.len]; exact (unhide HTk).fl
          have HZ1 := hide (show KpS w z 6 2 (L.set f ((pre ++ [s]).drop 0 ++ r)) A c w11 ∧ NumsIn z w11 (some ⟨q, 0, none⟩) ((pre ++ [s]).map (·.1)) from
            ⟨by rw [front_all hfl2 (unhide HTk).ln]; exact (unhide HZ0).below (unhide HB12), nums_own (base := Wz.heap.size) (n := m + 1) (cap := cq) (by rw [← unhide HPl]; exact hown11) (.inl hzl)⟩)
          have HFl := hide hfl2
          have HPn := hide (show (pre ++ [s]).length = m + 1 from by rw [List.length_append, unhide HMl]; rfl)
          clear hown11 hgrow hat hlt11 hzl hfl2 hz11 HO10 HB11 HNw HB10 HSr HLn HOn HPl HWo HBx
          go_wp2_with fail
          go_loopw [103] (fun s103 wr => ∃ (k : Nat) (A' : Option Addr) (c' : Nat), k ≤ m + 1 ∧ s103 = .int .i64 (k : Int) ∧ Hid (KpS w z 6 2 (L.set f ((pre ++ [s]).drop k ++ r)) A' c' wr ∧ NumsIn z wr (some ⟨q, 0, none⟩) ((pre ++ [s]).map (·.1)))) (fun s103 _ => m + 1 - (intOf s103).toNat)
          case atStart => exact ⟨0, A, c, Nat.zero_le _, rfl, HZ1⟩
          case round =>
            obtain ⟨k', A', c', hk', rfl, HJ⟩ := hrel
            obtain ⟨wj, rfl⟩ : ∃ wj : World, wj = wr := ⟨_, rfl⟩
            clear HZ1
            by_cases hkm : k' < m + 1
            · have km : (k' : Int) < (m : Int) + 1 := by omega
              have k0 : (0 : Int) ≤ (k' : Int) := by omega
              obtain ⟨q', off, e, _, hcl⟩ := (unhide HJ).2 (by rw [List.length_map, unhide HPn]; omega)
              injection e with e
              injection e with e1 e2 _
              subst e1; subst e2
              have c1 := hcl k' (by rw [List.length_map, unhide HPn]; exact hkm)
              rw [Nat.zero_add] at c1
              have e3 : ((pre ++ [s]).map (·.1)).getD k' 0 = ((pre ++ [s]).getD k' (0, 0)).1 := by
                rw [List.getD_eq_getElem?_getD, List.getD_eq_getElem?_getD, List.getElem?_map, List.getElem?_eq_getElem (by rw [unhide HPn]; exact hkm)]; rfl
              rw [e3] at c1
              obtain ⟨hv1, hv2⟩ := front_take (unhide HI).2.1 (unhide HFl) (unhide HTk).ln (k := k') (by rw [unhide HPn]; exact hkm)
              have hmem : (pre ++ [s]).getD k' (0, 0) ∈ L.getD f [] := by
                rw [(unhide HTk).ln, ← getElem_getD (by rw [unhide HPn]; exact hkm)]
                have := List.getElem_mem (l := pre ++ [s]) (show k' < (pre ++ [s]).length by rw [unhide HPn]; exact hkm)
                simp only [List.mem_append, List.mem_cons, List.not_mem_nil, or_false] at this ⊢
                rcases this with h | h
                · exact .inl h
                · exact .inr (.inl h)
              have hbg := ((unhide HI).2.1.bag _ (mem_at (unhide HFl)) _ hmem).1
              have HC := hide ((unhide HQ).take 6 _ ((pre ++ [s]).getD k' (0, 0)).1 A' c' _ wj hv1 (unhide HJ).1.sto (unhide HJ).1.old (WalkArith.wf_i64 (by omega)))
              rw [hv2, (unhide HJ).1.len] at HC
              have HC := hide (unhide HC)
              clear hcl e3 hmem hv1 hv2
              generalize ((pre ++ [s]).getD k' (0, 0)).1 = bk at c1 HC hbg
              have hLk : (L.set f ((pre ++ [s]).drop (k' + 1) ++ r)).length = 2 := by rw [List.length_set]; exact (unhide HI).1.len
              have HLk := hide hLk
              generalize L.set f ((pre ++ [s]).drop k' ++ r) = Lk at HC HJ
              have HC := hide (unhide HC)
              clear hLk hbg
              go_wp2_with (first | (refine wpList_loadLn (unhide HJ).1.box rfl _ rfl rfl ?_))
              refine (unhide HC).mono ?_
              rintro e w12 ⟨hb12, ⟨h12, _⟩ | ⟨_, A12, c12, B12, d12, rfl, _, hs12, _⟩⟩
              · exact absurd rfl h12
              have HN12 := hide (KpN.new1 ((unhide HJ).1.below hb12) hs12)
              have HM12 := hide (((unhide HJ).2.keep hb12).keep (below_new (Below.refl w12.heap.size w12) (lnsO 6 A12 2 c12)))
              clear hb12 hs12 HC
              go_upto_region 27 with fail
              obtain ⟨W13, hW13⟩ : ∃ W13 : World, w12.alloc (lnsO 6 A12 2 c12) = W13 := ⟨_, rfl⟩
              rw [hW13] at HN12 HM12 ⊢
              obtain ⟨y2, hy2⟩ : ∃ y2, w12.heap.size = y2 := ⟨_, rfl⟩
              rw [hy2] at HN12 ⊢
              have HN12 := hide (unhide HN12)
              have HM12 := hide (unhide HM12)
              clear hW13 hy2
              go_wp2_with (first
                | (refine wpList_loadLn (unhide HN12).yb rfl _ rfl rfl ?_)
                | (refine wpList_storeLn (unhide HN12).st.box rfl _ _ rfl rfl rfl ?_))
              go_roundw
              case rel => exact ⟨k' + 1, A12, c12, by omega, by go_num, hide ⟨(unhide HN12).take (unhide HLk), (unhide HM12).grown (grown_row _ _ _)⟩⟩
              case measure => simp [intOf]; omega
            · have km : ¬ (k' : Int) < (m : Int) + 1 := by omega
              obtain rfl : k' = m + 1 := by omega
              go_wp2_with (go_at_call 9; refine ((unhide HAw) _).mono ?_; rintro e wz ⟨rfl, hbz⟩; have HBZ := hide (onward (unhide HJ).1.bel hbz); clear hbz)
              go_ret
              exact ⟨rfl, unhide HBZ⟩
end Go.Proofs.Ytmmhchhekmcihaa
