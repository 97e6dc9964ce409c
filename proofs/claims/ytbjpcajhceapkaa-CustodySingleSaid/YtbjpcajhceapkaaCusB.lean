/-
  Custody (layer 16): CustodySingle: its walk.
-/
import Derived.Test.YtbjpcajhceapkaaCusC
import Derived.Deep.CutRange
namespace Go.Proofs.Ytbjpcajhceapkaa
open Go.RowKit

theorem infoV : (Try.prog.info? 40).map (·.size) = some 4 := by kernel_rfl
theorem openF_single {t s r : Int} {X Y C : List Int} (h : openF t s X Y = true) (hr : t = r ∨ s = r) (hc : X = C ∨ Y = C) : openB t s X Y = r ∧ 1 ≤ r ∧ decide (r ∈ C) = true := by
  unfold openB
  rw [if_pos h]
  unfold openF at h
  rw [decide_eq_true_eq] at h
  obtain ⟨h1, h2, h3, h4, h5⟩ := h
  have e : t = r := by omega
  subst e
  exact ⟨rfl, h2, by rw [decide_eq_true_eq]; rcases hc with rfl | rfl <;> assumption⟩
theorem openF_right {t : Int} {X : List Int} (h0 : 0 ≤ t) (h1 : t < 41) : openF t t X X = (decide (0 < t) && decide (t ∈ X)) ∧ (openF t t X X = true → openB t t X X = t) := by
  refine ⟨?_, fun h => by unfold openB; rw [if_pos h]⟩
  unfold openF
  by_cases h2 : 0 < t
  · by_cases h3 : t ∈ X
    · rw [decide_eq_true h2, decide_eq_true h3, decide_eq_true ⟨rfl, by omega, by omega, h3, h3⟩]; rfl
    · rw [decide_eq_false h3, Bool.and_false, decide_eq_false (fun h => h3 h.2.2.2.1)]
  · rw [decide_eq_false h2, decide_eq_false (fun h => h2 (by have := h.2.1; omega))]; rfl
section
variable {ops : Array Oper} {rest : List Oper} {o : Oper} {a : Act} {W : World} {Q : Exit → Act → World → Prop}
theorem wpList_loadV {t s : Int} {A A' : Option Addr} {n c n' c' g : Nat} (hg : W.heap[g]? = some (votO t s A n c A' n' c')) (hgd : o.guard = none) (x : Operand) (ho : o.op = .load 40 x) (hx : a.eval x = .pointer (some ⟨g, 0, none⟩))
    (h : wpList Try.prog ops Q rest (a.put o.dst (.agg (votA t s A n c A' n' c'))) W) : wpList Try.prog ops Q (o :: rest) a W :=
  wpList_load_row hgd _ x ho g hx 40 _ (0, 0) _ hg Try.underlying40 rfl infoV h
end

set_option maxRecDepth 100000 in
set_option maxHeartbeats 4000000 in
theorem single_any (P : CusOk) (x0 : Int) (A1 : Option Addr) (X : List Int) (c1 : Nat) (w : World) (hX : NumsIn w.heap.size w A1 X) (hXw : ∀ x ∈ X, (Lit.int .i64 x).wf = true) (x2 x3 : Int) (A4 : Option Addr) (Y : List Int) (c4 : Nat) (hY : NumsIn w.heap.size w A4 Y) (hYw : ∀ x ∈ Y, (Lit.int .i64 x).wf = true) :
    Calls Try.prog 5 #[.int .i64 x0, .slice A1 X.length c1, .int .i64 x2, .int .i64 x3, .slice A4 Y.length c4] w fun e w' => e = .returned (.bool true) ∧ Below w.heap.size w w' := by
  have HP := hide P
  have HXW := hide hXw
  have HYW := hide hYw
  have HX := hide hX
  have HY := hide hY
  clear P hXw hYw hX hY
  by_cases k1 : (60 : Int) < (X.length : Int)
  · go_enter Try.func5, Try.ntmps5
    go_wp2_with (go_at_call 19; refine (awake_cus (unhide HP) _).mono ?_; rintro e w2 ⟨rfl, hb2⟩; have HB2 := hide hb2; clear hb2)
    go_ret
    exact ⟨rfl, unhide HB2⟩
  by_cases k4 : (60 : Int) < (Y.length : Int)
  · go_enter Try.func5, Try.ntmps5
    go_wp2_with (go_at_call 19; refine (awake_cus (unhide HP) _).mono ?_; rintro e w2 ⟨rfl, hb2⟩; have HB2 := hide hb2; clear hb2)
    go_ret
    exact ⟨rfl, unhide HB2⟩
  obtain ⟨t, ht⟩ : ∃ t, modN x0 41 = t := ⟨_, rfl⟩
  obtain ⟨u, hu⟩ : ∃ u, modN x2 4 = u := ⟨_, rfl⟩
  have t0 : 0 ≤ t ∧ t < 41 := by rw [← ht]; exact modN_range x0 41 (by omega)
  have u0 : 0 ≤ u ∧ u < 4 := by rw [← hu]; exact modN_range x2 4 (by omega)
  have HM1 := hide (fun W => mod_any x0 41 W (by omega) (by omega))
  have HM2 := hide (fun W => mod_any x2 4 W (by omega) (by omega))
  rw [ht] at HM1
  rw [hu] at HM2
  have HM1 := hide (unhide HM1)
  have HM2 := hide (unhide HM2)
  have HIn := hide (fun W (hb : Below w.heap.size w W) => inq_any w.heap.size X t A1 c1 W (by omega) ((unhide HX).keep hb))
  obtain ⟨m, hm⟩ : ∃ m, decide (t ∈ X) = m := ⟨_, rfl⟩
  rw [hm] at HIn
  have HIn := hide (unhide HIn)
  have HMm := hide hm
  have hR := openF_right (X := X) t0.1 t0.2
  rw [hm] at hR
  have HR := hide hR
  clear hR hm ht hu
  have hXl : SmX X := ⟨by omega, unhide HXW⟩
  have hYl : SmX Y := ⟨by omega, unhide HYW⟩
  have HXL := hide hXl
  have HYL := hide hYl
  clear hXl hYl
  have huc : u = 0 ∨ u = 1 ∨ u = 2 ∨ u = 3 := by omega
  go_enter Try.func5, Try.ntmps5
  rcases huc with rfl | rfl | rfl | rfl
  · go_wp2_with fail
    refine ((unhide HM1) _).mono ?_
    rintro e wz ⟨rfl, hwz⟩
    subst wz
    go_wp2_with fail
    refine ((unhide HM2) _).mono ?_
    rintro e wz ⟨rfl, hwz⟩
    subst wz
    go_upto_region 14 with fail
    obtain ⟨W1, hW⟩ : ∃ W1 : World, (w.alloc (votO t t A1 X.length c1 A1 X.length c1)).alloc (votO x3 t A1 X.length c1 A1 X.length c1) = W1 := ⟨_, rfl⟩
    have hbel : Below w.heap.size w W1 := by rw [← hW]; exact below_new (below_new (Below.refl _ _) _) _
    have hbr : W1.heap[w.heap.size]? = some (votO t t A1 X.length c1 A1 X.length c1) := by rw [← hW]; exact heap_later (heap_alloc_new w _) _
    have hbv : W1.heap[w.heap.size + 1]? = some (votO x3 t A1 X.length c1 A1 X.length c1) := by
      rw [← hW, ← World.size_alloc w (votO t t A1 X.length c1 A1 X.length c1)]; exact heap_alloc_new _ _
    have HB1 := hide hbel
    have HBR := hide hbr
    have HBV := hide hbv
    rw [hW]
    clear hbel hbr hbv hW
    go_wp2_with (refine wpList_loadV (unhide HBV) rfl _ rfl rfl ?_)
    refine ((unhide HP).openv w.heap.size x3 t X X A1 A1 c1 c1 W1 (unhide HXL) (unhide HXL) ((unhide HX).keep (unhide HB1)) ((unhide HX).keep (unhide HB1))).mono ?_
    obtain ⟨ok, hok⟩ : ∃ ok, openF x3 t X X = ok := ⟨_, rfl⟩
    have HOK := hide (fun (h : ok = true) => openF_single (r := t) (C := X) (hok.trans h) (.inr rfl) (.inl rfl))
    rw [hok]
    clear hok
    generalize openB x3 t X X = ba at *
    rintro e w2 ⟨rfl, hb2⟩
    have HB2 := hide (onward (unhide HB1) hb2)
    have HBR2 := hide (heap_below (unhide HBR) hb2)
    clear hb2 HBV
    cases ok with
    | true =>
      obtain ⟨o1, o2, o3⟩ := (unhide HOK) rfl
      subst ba
      have hm1 : m = true := by rw [← unhide HMm]; exact o3
      subst hm1
      have hz : (t == 0) = false := by rw [beq_eq_false_iff_ne]; omega
      have hp : 0 < t := by omega
      have HD := hide (show decide (0 < t) = true from decide_eq_true hp)
      clear HOK o3
      go_upto_region 17 with (first | (go_at_call 23; refine (unhide HIn _ (unhide HB2)).mono ?_; rintro e wz ⟨rfl, hwz⟩; subst wz))
      go_wp2_with (refine wpList_loadV (unhide HBR2) rfl _ rfl rfl ?_)
      refine ((unhide HP).openv w.heap.size t t X X A1 A1 c1 c1 w2 (unhide HXL) (unhide HXL) ((unhide HX).keep (unhide HB2)) ((unhide HX).keep (unhide HB2))).mono ?_
      rw [show openF t t X X = true from by rw [(unhide HR).1, unhide HD]; rfl]
      rw [(unhide HR).2 (by rw [(unhide HR).1, unhide HD]; rfl)]
      rintro e w3 ⟨rfl, hb3⟩
      have HB3 := hide (onward (unhide HB2) hb3)
      clear hb3
      go_wp2_with (first | (go_at_call 23; refine (unhide HIn _ (unhide HB3)).mono ?_; rintro e wz ⟨rfl, hwz⟩; subst wz) | (go_at_call 19; refine (awake_cus (unhide HP) _).mono ?_; rintro e w9 ⟨rfl, hb9⟩; have HB9 := hide (onward (unhide HB3) hb9); clear hb9))
      go_ret
      exact ⟨rfl, unhide HB9⟩
    | false =>
      clear HOK
      by_cases hp : 0 < t
      · have HD := hide (show decide (0 < t) = true from decide_eq_true hp)
        have hz : (t == 0) = false := by rw [beq_eq_false_iff_ne]; omega
        cases m
        · go_upto_region 17 with fail
          go_wp2_with (refine wpList_loadV (unhide HBR2) rfl _ rfl rfl ?_)
          refine ((unhide HP).openv w.heap.size t t X X A1 A1 c1 c1 w2 (unhide HXL) (unhide HXL) ((unhide HX).keep (unhide HB2)) ((unhide HX).keep (unhide HB2))).mono ?_
          rw [show openF t t X X = false from by rw [(unhide HR).1, unhide HD]; rfl]
          generalize openB t t X X = bz at *
          rintro e w3 ⟨rfl, hb3⟩
          have HB3 := hide (onward (unhide HB2) hb3)
          clear hb3
          go_wp2_with (first | (go_at_call 23; refine (unhide HIn _ (unhide HB3)).mono ?_; rintro e wz ⟨rfl, hwz⟩; subst wz) | (go_at_call 19; refine (awake_cus (unhide HP) _).mono ?_; rintro e w9 ⟨rfl, hb9⟩; have HB9 := hide (onward (unhide HB3) hb9); clear hb9))
          go_ret
          exact ⟨rfl, unhide HB9⟩
        · go_upto_region 17 with fail
          go_wp2_with (refine wpList_loadV (unhide HBR2) rfl _ rfl rfl ?_)
          refine ((unhide HP).openv w.heap.size t t X X A1 A1 c1 c1 w2 (unhide HXL) (unhide HXL) ((unhide HX).keep (unhide HB2)) ((unhide HX).keep (unhide HB2))).mono ?_
          rw [show openF t t X X = true from by rw [(unhide HR).1, unhide HD]; rfl]
          rw [(unhide HR).2 (by rw [(unhide HR).1, unhide HD]; rfl)]
          rintro e w3 ⟨rfl, hb3⟩
          have HB3 := hide (onward (unhide HB2) hb3)
          clear hb3
          go_wp2_with (first | (go_at_call 23; refine (unhide HIn _ (unhide HB3)).mono ?_; rintro e wz ⟨rfl, hwz⟩; subst wz) | (go_at_call 19; refine (awake_cus (unhide HP) _).mono ?_; rintro e w9 ⟨rfl, hb9⟩; have HB9 := hide (onward (unhide HB3) hb9); clear hb9))
          go_ret
          exact ⟨rfl, unhide HB9⟩
      · have HD := hide (show decide (0 < t) = false from decide_eq_false hp)
        have hz : (t == 0) = true := by rw [beq_iff_eq]; omega
        go_upto_region 17 with fail
        go_wp2_with (refine wpList_loadV (unhide HBR2) rfl _ rfl rfl ?_)
        refine ((unhide HP).openv w.heap.size t t X X A1 A1 c1 c1 w2 (unhide HXL) (unhide HXL) ((unhide HX).keep (unhide HB2)) ((unhide HX).keep (unhide HB2))).mono ?_
        rw [show openF t t X X = false from by rw [(unhide HR).1, unhide HD]; rfl]
        generalize openB t t X X = bz at *
        rintro e w3 ⟨rfl, hb3⟩
        have HB3 := hide (onward (unhide HB2) hb3)
        clear hb3
        go_wp2_with (first | (go_at_call 23; refine (unhide HIn _ (unhide HB3)).mono ?_; rintro e wz ⟨rfl, hwz⟩; subst wz) | (go_at_call 19; refine (awake_cus (unhide HP) _).mono ?_; rintro e w9 ⟨rfl, hb9⟩; have HB9 := hide (onward (unhide HB3) hb9); clear hb9))
        go_ret
        exact ⟨rfl, unhide HB9⟩
  · go_wp2_with fail
    refine ((unhide HM1) _).mono ?_
    rintro e wz ⟨rfl, hwz⟩
    subst wz
    go_wp2_with fail
    refine ((unhide HM2) _).mono ?_
    rintro e wz ⟨rfl, hwz⟩
    subst wz
    go_upto_region 14 with fail
    obtain ⟨W1, hW⟩ : ∃ W1 : World, (w.alloc (votO t t A1 X.length c1 A1 X.length c1)).alloc (votO t x3 A1 X.length c1 A1 X.length c1) = W1 := ⟨_, rfl⟩
    have hbel : Below w.heap.size w W1 := by rw [← hW]; exact below_new (below_new (Below.refl _ _) _) _
    have hbr : W1.heap[w.heap.size]? = some (votO t t A1 X.length c1 A1 X.length c1) := by rw [← hW]; exact heap_later (heap_alloc_new w _) _
    have hbv : W1.heap[w.heap.size + 1]? = some (votO t x3 A1 X.length c1 A1 X.length c1) := by
      rw [← hW, ← World.size_alloc w (votO t t A1 X.length c1 A1 X.length c1)]; exact heap_alloc_new _ _
    have HB1 := hide hbel
    have HBR := hide hbr
    have HBV := hide hbv
    rw [hW]
    clear hbel hbr hbv hW
    go_wp2_with (refine wpList_loadV (unhide HBV) rfl _ rfl rfl ?_)
    refine ((unhide HP).openv w.heap.size t x3 X X A1 A1 c1 c1 W1 (unhide HXL) (unhide HXL) ((unhide HX).keep (unhide HB1)) ((unhide HX).keep (unhide HB1))).mono ?_
    obtain ⟨ok, hok⟩ : ∃ ok, openF t x3 X X = ok := ⟨_, rfl⟩
    have HOK := hide (fun (h : ok = true) => openF_single (r := t) (C := X) (hok.trans h) (.inl rfl) (.inl rfl))
    rw [hok]
    clear hok
    generalize openB t x3 X X = ba at *
    rintro e w2 ⟨rfl, hb2⟩
    have HB2 := hide (onward (unhide HB1) hb2)
    have HBR2 := hide (heap_below (unhide HBR) hb2)
    clear hb2 HBV
    cases ok with
    | true =>
      obtain ⟨o1, o2, o3⟩ := (unhide HOK) rfl
      subst ba
      have hm1 : m = true := by rw [← unhide HMm]; exact o3
      subst hm1
      have hz : (t == 0) = false := by rw [beq_eq_false_iff_ne]; omega
      have hp : 0 < t := by omega
      have HD := hide (show decide (0 < t) = true from decide_eq_true hp)
      clear HOK o3
      go_upto_region 17 with (first | (go_at_call 23; refine (unhide HIn _ (unhide HB2)).mono ?_; rintro e wz ⟨rfl, hwz⟩; subst wz))
      go_wp2_with (refine wpList_loadV (unhide HBR2) rfl _ rfl rfl ?_)
      refine ((unhide HP).openv w.heap.size t t X X A1 A1 c1 c1 w2 (unhide HXL) (unhide HXL) ((unhide HX).keep (unhide HB2)) ((unhide HX).keep (unhide HB2))).mono ?_
      rw [show openF t t X X = true from by rw [(unhide HR).1, unhide HD]; rfl]
      rw [(unhide HR).2 (by rw [(unhide HR).1, unhide HD]; rfl)]
      rintro e w3 ⟨rfl, hb3⟩
      have HB3 := hide (onward (unhide HB2) hb3)
      clear hb3
      go_wp2_with (first | (go_at_call 23; refine (unhide HIn _ (unhide HB3)).mono ?_; rintro e wz ⟨rfl, hwz⟩; subst wz) | (go_at_call 19; refine (awake_cus (unhide HP) _).mono ?_; rintro e w9 ⟨rfl, hb9⟩; have HB9 := hide (onward (unhide HB3) hb9); clear hb9))
      go_ret
      exact ⟨rfl, unhide HB9⟩
    | false =>
      clear HOK
      by_cases hp : 0 < t
      · have HD := hide (show decide (0 < t) = true from decide_eq_true hp)
        have hz : (t == 0) = false := by rw [beq_eq_false_iff_ne]; omega
        cases m
        · go_upto_region 17 with fail
          go_wp2_with (refine wpList_loadV (unhide HBR2) rfl _ rfl rfl ?_)
          refine ((unhide HP).openv w.heap.size t t X X A1 A1 c1 c1 w2 (unhide HXL) (unhide HXL) ((unhide HX).keep (unhide HB2)) ((unhide HX).keep (unhide HB2))).mono ?_
          rw [show openF t t X X = false from by rw [(unhide HR).1, unhide HD]; rfl]
          generalize openB t t X X = bz at *
          rintro e w3 ⟨rfl, hb3⟩
          have HB3 := hide (onward (unhide HB2) hb3)
          clear hb3
          go_wp2_with (first | (go_at_call 23; refine (unhide HIn _ (unhide HB3)).mono ?_; rintro e wz ⟨rfl, hwz⟩; subst wz) | (go_at_call 19; refine (awake_cus (unhide HP) _).mono ?_; rintro e w9 ⟨rfl, hb9⟩; have HB9 := hide (onward (unhide HB3) hb9); clear hb9))
          go_ret
          exact ⟨rfl, unhide HB9⟩
        · go_upto_region 17 with fail
          go_wp2_with (refine wpList_loadV (unhide HBR2) rfl _ rfl rfl ?_)
          refine ((unhide HP).openv w.heap.size t t X X A1 A1 c1 c1 w2 (unhide HXL) (unhide HXL) ((unhide HX).keep (unhide HB2)) ((unhide HX).keep (unhide HB2))).mono ?_
          rw [show openF t t X X = true from by rw [(unhide HR).1, unhide HD]; rfl]
          rw [(unhide HR).2 (by rw [(unhide HR).1, unhide HD]; rfl)]
          rintro e w3 ⟨rfl, hb3⟩
          have HB3 := hide (onward (unhide HB2) hb3)
          clear hb3
          go_wp2_with (first | (go_at_call 23; refine (unhide HIn _ (unhide HB3)).mono ?_; rintro e wz ⟨rfl, hwz⟩; subst wz) | (go_at_call 19; refine (awake_cus (unhide HP) _).mono ?_; rintro e w9 ⟨rfl, hb9⟩; have HB9 := hide (onward (unhide HB3) hb9); clear hb9))
          go_ret
          exact ⟨rfl, unhide HB9⟩
      · have HD := hide (show decide (0 < t) = false from decide_eq_false hp)
        have hz : (t == 0) = true := by rw [beq_iff_eq]; omega
        go_upto_region 17 with fail
        go_wp2_with (refine wpList_loadV (unhide HBR2) rfl _ rfl rfl ?_)
        refine ((unhide HP).openv w.heap.size t t X X A1 A1 c1 c1 w2 (unhide HXL) (unhide HXL) ((unhide HX).keep (unhide HB2)) ((unhide HX).keep (unhide HB2))).mono ?_
        rw [show openF t t X X = false from by rw [(unhide HR).1, unhide HD]; rfl]
        generalize openB t t X X = bz at *
        rintro e w3 ⟨rfl, hb3⟩
        have HB3 := hide (onward (unhide HB2) hb3)
        clear hb3
        go_wp2_with (first | (go_at_call 23; refine (unhide HIn _ (unhide HB3)).mono ?_; rintro e wz ⟨rfl, hwz⟩; subst wz) | (go_at_call 19; refine (awake_cus (unhide HP) _).mono ?_; rintro e w9 ⟨rfl, hb9⟩; have HB9 := hide (onward (unhide HB3) hb9); clear hb9))
        go_ret
        exact ⟨rfl, unhide HB9⟩
  · go_wp2_with fail
    refine ((unhide HM1) _).mono ?_
    rintro e wz ⟨rfl, hwz⟩
    subst wz
    go_wp2_with fail
    refine ((unhide HM2) _).mono ?_
    rintro e wz ⟨rfl, hwz⟩
    subst wz
    go_upto_region 14 with fail
    obtain ⟨W1, hW⟩ : ∃ W1 : World, (w.alloc (votO t t A1 X.length c1 A1 X.length c1)).alloc (votO t t A4 Y.length c4 A1 X.length c1) = W1 := ⟨_, rfl⟩
    have hbel : Below w.heap.size w W1 := by rw [← hW]; exact below_new (below_new (Below.refl _ _) _) _
    have hbr : W1.heap[w.heap.size]? = some (votO t t A1 X.length c1 A1 X.length c1) := by rw [← hW]; exact heap_later (heap_alloc_new w _) _
    have hbv : W1.heap[w.heap.size + 1]? = some (votO t t A4 Y.length c4 A1 X.length c1) := by
      rw [← hW, ← World.size_alloc w (votO t t A1 X.length c1 A1 X.length c1)]; exact heap_alloc_new _ _
    have HB1 := hide hbel
    have HBR := hide hbr
    have HBV := hide hbv
    rw [hW]
    clear hbel hbr hbv hW
    go_wp2_with (refine wpList_loadV (unhide HBV) rfl _ rfl rfl ?_)
    refine ((unhide HP).openv w.heap.size t t Y X A4 A1 c4 c1 W1 (unhide HYL) (unhide HXL) ((unhide HY).keep (unhide HB1)) ((unhide HX).keep (unhide HB1))).mono ?_
    obtain ⟨ok, hok⟩ : ∃ ok, openF t t Y X = ok := ⟨_, rfl⟩
    have HOK := hide (fun (h : ok = true) => openF_single (r := t) (C := X) (hok.trans h) (.inl rfl) (.inr rfl))
    rw [hok]
    clear hok
    generalize openB t t Y X = ba at *
    rintro e w2 ⟨rfl, hb2⟩
    have HB2 := hide (onward (unhide HB1) hb2)
    have HBR2 := hide (heap_below (unhide HBR) hb2)
    clear hb2 HBV
    cases ok with
    | true =>
      obtain ⟨o1, o2, o3⟩ := (unhide HOK) rfl
      subst ba
      have hm1 : m = true := by rw [← unhide HMm]; exact o3
      subst hm1
      have hz : (t == 0) = false := by rw [beq_eq_false_iff_ne]; omega
      have hp : 0 < t := by omega
      have HD := hide (show decide (0 < t) = true from decide_eq_true hp)
      clear HOK o3
      go_upto_region 17 with (first | (go_at_call 23; refine (unhide HIn _ (unhide HB2)).mono ?_; rintro e wz ⟨rfl, hwz⟩; subst wz))
      go_wp2_with (refine wpList_loadV (unhide HBR2) rfl _ rfl rfl ?_)
      refine ((unhide HP).openv w.heap.size t t X X A1 A1 c1 c1 w2 (unhide HXL) (unhide HXL) ((unhide HX).keep (unhide HB2)) ((unhide HX).keep (unhide HB2))).mono ?_
      rw [show openF t t X X = true from by rw [(unhide HR).1, unhide HD]; rfl]
      rw [(unhide HR).2 (by rw [(unhide HR).1, unhide HD]; rfl)]
      rintro e w3 ⟨rfl, hb3⟩
      have HB3 := hide (onward (unhide HB2) hb3)
      clear hb3
      go_wp2_with (first | (go_at_call 23; refine (unhide HIn _ (unhide HB3)).mono ?_; rintro e wz ⟨rfl, hwz⟩; subst wz) | (go_at_call 19; refine (awake_cus (unhide HP) _).mono ?_; rintro e w9 ⟨rfl, hb9⟩; have HB9 := hide (onward (unhide HB3) hb9); clear hb9))
      go_ret
      exact ⟨rfl, unhide HB9⟩
    | false =>
      clear HOK
      by_cases hp : 0 < t
      · have HD := hide (show decide (0 < t) = true from decide_eq_true hp)
        have hz : (t == 0) = false := by rw [beq_eq_false_iff_ne]; omega
        cases m
        · go_upto_region 17 with fail
          go_wp2_with (refine wpList_loadV (unhide HBR2) rfl _ rfl rfl ?_)
          refine ((unhide HP).openv w.heap.size t t X X A1 A1 c1 c1 w2 (unhide HXL) (unhide HXL) ((unhide HX).keep (unhide HB2)) ((unhide HX).keep (unhide HB2))).mono ?_
          rw [show openF t t X X = false from by rw [(unhide HR).1, unhide HD]; rfl]
          generalize openB t t X X = bz at *
          rintro e w3 ⟨rfl, hb3⟩
          have HB3 := hide (onward (unhide HB2) hb3)
          clear hb3
          go_wp2_with (first | (go_at_call 23; refine (unhide HIn _ (unhide HB3)).mono ?_; rintro e wz ⟨rfl, hwz⟩; subst wz) | (go_at_call 19; refine (awake_cus (unhide HP) _).mono ?_; rintro e w9 ⟨rfl, hb9⟩; have HB9 := hide (onward (unhide HB3) hb9); clear hb9))
          go_ret
          exact ⟨rfl, unhide HB9⟩
        · go_upto_region 17 with fail
          go_wp2_with (refine wpList_loadV (unhide HBR2) rfl _ rfl rfl ?_)
          refine ((unhide HP).openv w.heap.size t t X X A1 A1 c1 c1 w2 (unhide HXL) (unhide HXL) ((unhide HX).keep (unhide HB2)) ((unhide HX).keep (unhide HB2))).mono ?_
          rw [show openF t t X X = true from by rw [(unhide HR).1, unhide HD]; rfl]
          rw [(unhide HR).2 (by rw [(unhide HR).1, unhide HD]; rfl)]
          rintro e w3 ⟨rfl, hb3⟩
          have HB3 := hide (onward (unhide HB2) hb3)
          clear hb3
          go_wp2_with (first | (go_at_call 23; refine (unhide HIn _ (unhide HB3)).mono ?_; rintro e wz ⟨rfl, hwz⟩; subst wz) | (go_at_call 19; refine (awake_cus (unhide HP) _).mono ?_; rintro e w9 ⟨rfl, hb9⟩; have HB9 := hide (onward (unhide HB3) hb9); clear hb9))
          go_ret
          exact ⟨rfl, unhide HB9⟩
      · have HD := hide (show decide (0 < t) = false from decide_eq_false hp)
        have hz : (t == 0) = true := by rw [beq_iff_eq]; omega
        go_upto_region 17 with fail
        go_wp2_with (refine wpList_loadV (unhide HBR2) rfl _ rfl rfl ?_)
        refine ((unhide HP).openv w.heap.size t t X X A1 A1 c1 c1 w2 (unhide HXL) (unhide HXL) ((unhide HX).keep (unhide HB2)) ((unhide HX).keep (unhide HB2))).mono ?_
        rw [show openF t t X X = false from by rw [(unhide HR).1, unhide HD]; rfl]
        generalize openB t t X X = bz at *
        rintro e w3 ⟨rfl, hb3⟩
        have HB3 := hide (onward (unhide HB2) hb3)
        clear hb3
        go_wp2_with (first | (go_at_call 23; refine (unhide HIn _ (unhide HB3)).mono ?_; rintro e wz ⟨rfl, hwz⟩; subst wz) | (go_at_call 19; refine (awake_cus (unhide HP) _).mono ?_; rintro e w9 ⟨rfl, hb9⟩; have HB9 := hide (onward (unhide HB3) hb9); clear hb9))
        go_ret
        exact ⟨rfl, unhide HB9⟩
  · go_wp2_with fail
    refine ((unhide HM1) _).mono ?_
    rintro e wz ⟨rfl, hwz⟩
    subst wz
    go_wp2_with fail
    refine ((unhide HM2) _).mono ?_
    rintro e wz ⟨rfl, hwz⟩
    subst wz
    go_upto_region 14 with fail
    obtain ⟨W1, hW⟩ : ∃ W1 : World, (w.alloc (votO t t A1 X.length c1 A1 X.length c1)).alloc (votO t t A1 X.length c1 A4 Y.length c4) = W1 := ⟨_, rfl⟩
    have hbel : Below w.heap.size w W1 := by rw [← hW]; exact below_new (below_new (Below.refl _ _) _) _
    have hbr : W1.heap[w.heap.size]? = some (votO t t A1 X.length c1 A1 X.length c1) := by rw [← hW]; exact heap_later (heap_alloc_new w _) _
    have hbv : W1.heap[w.heap.size + 1]? = some (votO t t A1 X.length c1 A4 Y.length c4) := by
      rw [← hW, ← World.size_alloc w (votO t t A1 X.length c1 A1 X.length c1)]; exact heap_alloc_new _ _
    have HB1 := hide hbel
    have HBR := hide hbr
    have HBV := hide hbv
    rw [hW]
    clear hbel hbr hbv hW
    go_wp2_with (refine wpList_loadV (unhide HBV) rfl _ rfl rfl ?_)
    refine ((unhide HP).openv w.heap.size t t X Y A1 A4 c1 c4 W1 (unhide HXL) (unhide HYL) ((unhide HX).keep (unhide HB1)) ((unhide HY).keep (unhide HB1))).mono ?_
    obtain ⟨ok, hok⟩ : ∃ ok, openF t t X Y = ok := ⟨_, rfl⟩
    have HOK := hide (fun (h : ok = true) => openF_single (r := t) (C := X) (hok.trans h) (.inl rfl) (.inl rfl))
    rw [hok]
    clear hok
    generalize openB t t X Y = ba at *
    rintro e w2 ⟨rfl, hb2⟩
    have HB2 := hide (onward (unhide HB1) hb2)
    have HBR2 := hide (heap_below (unhide HBR) hb2)
    clear hb2 HBV
    cases ok with
    | true =>
      obtain ⟨o1, o2, o3⟩ := (unhide HOK) rfl
      subst ba
      have hm1 : m = true := by rw [← unhide HMm]; exact o3
      subst hm1
      have hz : (t == 0) = false := by rw [beq_eq_false_iff_ne]; omega
      have hp : 0 < t := by omega
      have HD := hide (show decide (0 < t) = true from decide_eq_true hp)
      clear HOK o3
      go_upto_region 17 with (first | (go_at_call 23; refine (unhide HIn _ (unhide HB2)).mono ?_; rintro e wz ⟨rfl, hwz⟩; subst wz))
      go_wp2_with (refine wpList_loadV (unhide HBR2) rfl _ rfl rfl ?_)
      refine ((unhide HP).openv w.heap.size t t X X A1 A1 c1 c1 w2 (unhide HXL) (unhide HXL) ((unhide HX).keep (unhide HB2)) ((unhide HX).keep (unhide HB2))).mono ?_
      rw [show openF t t X X = true from by rw [(unhide HR).1, unhide HD]; rfl]
      rw [(unhide HR).2 (by rw [(unhide HR).1, unhide HD]; rfl)]
      rintro e w3 ⟨rfl, hb3⟩
      have HB3 := hide (onward (unhide HB2) hb3)
      clear hb3
      go_wp2_with (first | (go_at_call 23; refine (unhide HIn _ (unhide HB3)).mono ?_; rintro e wz ⟨rfl, hwz⟩; subst wz) | (go_at_call 19; refine (awake_cus (unhide HP) _).mono ?_; rintro e w9 ⟨rfl, hb9⟩; have HB9 := hide (onward (unhide HB3) hb9); clear hb9))
      go_ret
      exact ⟨rfl, unhide HB9⟩
    | false =>
      clear HOK
      by_cases hp : 0 < t
      · have HD := hide (show decide (0 < t) = true from decide_eq_true hp)
        have hz : (t == 0) = false := by rw [beq_eq_false_iff_ne]; omega
        cases m
        · go_upto_region 17 with fail
          go_wp2_with (refine wpList_loadV (unhide HBR2) rfl _ rfl rfl ?_)
          refine ((unhide HP).openv w.heap.size t t X X A1 A1 c1 c1 w2 (unhide HXL) (unhide HXL) ((unhide HX).keep (unhide HB2)) ((unhide HX).keep (unhide HB2))).mono ?_
          rw [show openF t t X X = false from by rw [(unhide HR).1, unhide HD]; rfl]
          generalize openB t t X X = bz at *
          rintro e w3 ⟨rfl, hb3⟩
          have HB3 := hide (onward (unhide HB2) hb3)
          clear hb3
          go_wp2_with (first | (go_at_call 23; refine (unhide HIn _ (unhide HB3)).mono ?_; rintro e wz ⟨rfl, hwz⟩; subst wz) | (go_at_call 19; refine (awake_cus (unhide HP) _).mono ?_; rintro e w9 ⟨rfl, hb9⟩; have HB9 := hide (onward (unhide HB3) hb9); clear hb9))
          go_ret
          exact ⟨rfl, unhide HB9⟩
        · go_upto_region 17 with fail
          go_wp2_with (refine wpList_loadV (unhide HBR2) rfl _ rfl rfl ?_)
          refine ((unhide HP).openv w.heap.size t t X X A1 A1 c1 c1 w2 (unhide HXL) (unhide HXL) ((unhide HX).keep (unhide HB2)) ((unhide HX).keep (unhide HB2))).mono ?_
          rw [show openF t t X X = true from by rw [(unhide HR).1, unhide HD]; rfl]
          rw [(unhide HR).2 (by rw [(unhide HR).1, unhide HD]; rfl)]
          rintro e w3 ⟨rfl, hb3⟩
          have HB3 := hide (onward (unhide HB2) hb3)
          clear hb3
          go_wp2_with (first | (go_at_call 23; refine (unhide HIn _ (unhide HB3)).mono ?_; rintro e wz ⟨rfl, hwz⟩; subst wz) | (go_at_call 19; refine (awake_cus (unhide HP) _).mono ?_; rintro e w9 ⟨rfl, hb9⟩; have HB9 := hide (onward (unhide HB3) hb9); clear hb9))
          go_ret
          exact ⟨rfl, unhide HB9⟩
      · have HD := hide (show decide (0 < t) = false from decide_eq_false hp)
        have hz : (t == 0) = true := by rw [beq_iff_eq]; omega
        go_upto_region 17 with fail
        go_wp2_with (refine wpList_loadV (unhide HBR2) rfl _ rfl rfl ?_)
        refine ((unhide HP).openv w.heap.size t t X X A1 A1 c1 c1 w2 (unhide HXL) (unhide HXL) ((unhide HX).keep (unhide HB2)) ((unhide HX).keep (unhide HB2))).mono ?_
        rw [show openF t t X X = false from by rw [(unhide HR).1, unhide HD]; rfl]
        generalize openB t t X X = bz at *
        rintro e w3 ⟨rfl, hb3⟩
        have HB3 := hide (onward (unhide HB2) hb3)
        clear hb3
        go_wp2_with (first | (go_at_call 23; refine (unhide HIn _ (unhide HB3)).mono ?_; rintro e wz ⟨rfl, hwz⟩; subst wz) | (go_at_call 19; refine (awake_cus (unhide HP) _).mono ?_; rintro e w9 ⟨rfl, hb9⟩; have HB9 := hide (onward (unhide HB3) hb9); clear hb9))
        go_ret
        exact ⟨rfl, unhide HB9⟩
end Go.Proofs.Ytbjpcajhceapkaa
