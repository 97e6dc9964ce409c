/-
  InboxOrder: the walk.
-/
import Derived.Test.YtcjdjdganaokfaaDoorInbX
import Derived.Test.YtcjdjdganaokfaaDoorInbY
namespace Go.Proofs.YtcjdjdganaokfaaDoor
open Go.RowKit

theorem ord_missing {w0 W : World} {X b G n win next : Nat} {D : Nat → Bool} {s : Option Snd} {A : Option Addr} {c : Nat} {ss : List SnS} (h : OrdS w0 X b G n win next D s A c ss W) (hn : next = n + 1) :
    Calls Tryd.prog 21 #[ibV (win : Int) A ss.length c, .string ARN] W fun e w' => e = .returned (.slice none 0 0) ∧ Below W.heap.size W w' := by
  have hl : lst ARN D (n + 1) (14 - (n + 1)) = [] := by
    cases hc : lst ARN D (n + 1) (14 - (n + 1)) with
    | nil => rfl
    | cons m l =>
      have hm : m ∈ lst ARN D (n + 1) (14 - (n + 1)) := by rw [hc]; exact List.mem_cons_self ..
      obtain ⟨i, h1, _, h3, _⟩ := lst_mem _ _ hm
      rw [h.ord.new i (by omega)] at h3
      cases h3
  cases s with
  | none =>
    obtain rfl : ss = [] := by simpa [oneL] using h.bx.mod
    exact imiss_none X (win : Int) A c [] ARN W h.bx.ins (by simp) (mono_nil _ _) rfl
  | some t =>
    obtain ⟨u, rfl, hu⟩ := mod_one (show ss.map SnS.mod = [t] from h.bx.mod)
    have ht : t = sndD ARN D next (14 - next) := h.cur
    have hp : u.port = ARN := by rw [show u.port = t.port from congrArg Snd.port hu, ht]; rfl
    have hh : u.held = [] := by
      have h1 : u.held.map (·.m) = t.held := congrArg Snd.held hu
      rw [ht, hn] at h1
      have h2 : u.held.map (·.m) = lst ARN D (n + 1) (14 - (n + 1)) := h1
      rw [hl] at h2
      simpa using h2
    obtain ⟨h1, h2⟩ := lb_one hp self_ARN
    refine imiss_none X (win : Int) A c [u] ARN W h.bx.ins (by simp) (mono_one _ _ _) ?_
    unfold holdsF
    rw [h1, h2]
    show (true && decide (0 < u.held.length)) = false
    rw [hh]; rfl
theorem rel_len {out : List MsS} {next r : Nat} (h : out.map (·.m) = seqL ARN next r) : out.length = r := by
  have := congrArg List.length h
  rwa [List.length_map, seqL_len] at this
theorem rel_at {out : List MsS} {next r j : Nat} (h : out.map (·.m) = seqL ARN next r) (hj : j < out.length) : (out.getD j ms0).m = nbd ARN ((next + j : Nat) : Int) := by
  have e := getD_map' (fun x : MsS => x.m) out j ms0
  rw [← e, h]
  exact seqL_at ARN _ _ _ _ (by rw [← rel_len h]; exact hj)
theorem verD_three {D : Nat → Bool} {next k : Nat} (h : D k = true) : verD D next k = 3 := by unfold verD; rw [if_pos h]
theorem verD_two {D : Nat → Bool} {next k : Nat} (h : D k = false) (h1 : next < k) : verD D next k = 2 := by unfold verD; rw [h, if_neg Bool.false_ne_true, if_pos h1]
theorem verD_one {D : Nat → Bool} {next k : Nat} (h : D k = false) (h1 : k = next) : verD D next k = 1 := by unfold verD; rw [h, if_neg Bool.false_ne_true, if_neg (by omega)]

set_option maxHeartbeats 32000000 in
set_option maxRecDepth 100000 in
theorem order_any (x y : Int) (A0 : Option Addr) (len cap : Nat) (w : World) (hcap : len ≤ cap) (hA : IntsIn w.heap.size w A0 len) (hK : Keys w) :
    Calls Tryd.prog 4 #[.int .i64 x, .int .i64 y, .slice A0 len cap] w fun e w' => e = .returned (.bool true) ∧ Below w.heap.size w w' := by
  have r1 := modN_range x 8 (by decide)
  have r2 := modN_range y 12 (by decide)
  obtain ⟨win, hwin⟩ : ∃ win : Nat, 1 + modN x 8 = (win : Int) := ⟨(1 + modN x 8).toNat, by omega⟩
  obtain ⟨n, hn⟩ : ∃ n : Nat, 1 + modN y 12 = (n : Int) := ⟨(1 + modN y 12).toNat, by omega⟩
  have w1 : 1 ≤ win := by omega
  have w8 : win ≤ 8 := by omega
  have n1 : 1 ≤ n := by omega
  have n12 : n ≤ 12 := by omega
  have HM1 := hide (mod_any x 8 w (by decide) (by decide))
  have HM2 := hide (mod_any y 12 w (by decide) (by decide))
  have HK := hide hK
  have HA := hide hA
  have q1 : IntKind.i64.wrap (1 + modN x 8) = (win : Int) := by rw [hwin, IntKind.wrap_i64]; omega
  have q2 : IntKind.i64.wrap (1 + modN y 12) = (n : Int) := by rw [hn, IntKind.wrap_i64]; omega
  have d14 : doneA (fun _ => false) = #[.bool false, .bool false, .bool false, .bool false, .bool false, .bool false, .bool false, .bool false, .bool false, .bool false, .bool false, .bool false, .bool false, .bool false] := by rfl
  have D14 := hide d14
  clear r1 r2 hwin hn hK hA d14
  generalize modN x 8 = a1 at *
  generalize modN y 12 = a2 at *
  go_enter Tryd.func4, Tryd.ntmps4
  go_wp2_with fail
  refine (unhide HM1).mono ?_
  rintro e w' ⟨rfl, rfl⟩
  go_wp2_with fail
  refine (unhide HM2).mono ?_
  rintro e w' ⟨rfl, rfl⟩
  go_wp2_with fail
  refine (inew_ok (win : Int) w (by omega) (by omega)).mono ?_
  rintro e w1 ⟨rfl, hb1⟩
  clear q1 q2
  obtain ⟨W2, hW2⟩ : ∃ W2 : World, w1.alloc (ibO (win : Int) none 0 0) = W2 := ⟨_, rfl⟩
  have b2 : Below w1.heap.size w1 W2 := by rw [← hW2]; exact (Below.refl _ _).alloc (Nat.le_refl _) _
  have hX2 : W2.heap[w1.heap.size]? = some (ibO (win : Int) none 0 0) := by rw [← hW2]; exact heap_alloc_new w1 _
  have hw12 := onward hb1 b2
  have hs0 := hb1.size
  have HW := hide hw12
  have HX2 := hide hX2
  have HS0 := hide hs0
  clear b2 hb1 hX2 hw12 hs0
  go_wp2_with (refine wpList_storeI_new (g := w1.heap.size) rfl (win : Int) none 0 0 rfl _ _ rfl rfl rfl rfl ?_)
  clear hW2
  refine (new_at w.heap.size A0 len cap W2 (unhide HW).size hcap ((unhide HA).keep (Nat.le_refl _) fun i hi => (unhide HW).block i hi)).mono ?_
  rintro e w3 ⟨rfl, hs3, hb3⟩
  obtain ⟨W4, hW4⟩ : ∃ W4 : World, w3.alloc (.cells #[.bool false, .bool false, .bool false, .bool false, .bool false, .bool false, .bool false, .bool false, .bool false, .bool false, .bool false, .bool false, .bool false, .bool false] 51) = W4 := ⟨_, rfl⟩
  have b4 : Below w3.heap.size w3 W4 := by rw [← hW4]; exact (Below.refl _ _).alloc (Nat.le_refl _) _
  have hG4 : W4.heap[w3.heap.size]? = some (.cells (doneA fun _ => false) 51 (0, 0)) := by rw [← hW4, unhide D14]; exact heap_alloc_new w3 _
  have hX4 : W4.heap[w1.heap.size]? = some (ibO (win : Int) none 0 0) := ((onward hb3 b4).block _ (Array.getElem?_eq_some_iff.1 (unhide HX2)).1).trans (unhide HX2)
  have hbl : Blk w w1.heap.size W2.heap.size w3.heap.size := ⟨unhide HS0, (Array.getElem?_eq_some_iff.1 (unhide HX2)).1, hs3.lt⟩
  have hO : OrdS w w1.heap.size W2.heap.size w3.heap.size n win 1 (fun _ => false) none none 0 [] W4 :=
    ⟨⟨hX4, SndsIn.nil _ _ _, rfl, fun u hu => by cases hu⟩, SndsIn.nil _ _ _, curS_start, ordD_start n1 n12, hG4, hs3.keep b4, onward (onward (unhide HW) hb3) b4⟩
  have HO := hide hO
  have HBL := hide hbl
  clear hO hbl hX4 hG4 b4 hb3 hs3 HX2 HS0 HW HA D14 HM1 HM2
  go_wp2_with fail
  clear hW4
  generalize w1.heap.size = X at *
  generalize W2.heap.size = b at *
  generalize w3.heap.size = G at *
  go_loopw [11, 13] (fun t i wr => ∃ (k next : Nat) (D : Nat → Bool) (s : Option Snd) (A : Option Addr) (c : Nat) (ss : List SnS), k ≤ 60 ∧ (k ≤ 40 ∨ k < next + 40) ∧ next ≤ n + 1 ∧ 1 ≤ next ∧ t = .int .i64 next ∧ i = .int .i64 k ∧ Hid (OrdS w X b G n win next D s A c ss wr)) (fun _ i _ => 60 - (intOf i).toNat)
  case atStart => exact ⟨0, 1, _, none, none, 0, [], by omega, by omega, by omega, by omega, rfl, rfl, HO⟩
  case round =>
    obtain ⟨k, next, D, s, A, c, ss, hk, hpr, hnx1, hnx0, rfl, rfl, HP⟩ := hrel
    obtain ⟨wo, rfl⟩ : ∃ wo : World, wo = wr := ⟨_, rfl⟩
    clear HO
    by_cases hnx : next ≤ n
    · have k60 : (k : Int) < 60 := by omega
      have nle : (next : Int) ≤ (n : Int) := by omega
      go_wp2_with fail
      refine (range_any w.heap.size b 1 (min (n : Int) ((next : Int) + (win : Int) - 1)) wo (unhide HP).src (by decide) (by omega) (by omega)).mono ?_
      rintro e wq ⟨q0, rfl, hq1, hq2, hsq, hgq⟩
      obtain ⟨q, rfl⟩ := Int.eq_ofNat_of_zero_le (show 0 ≤ q0 by omega)
      have h1 : 1 ≤ q := by omega
      have h2 : q ≤ n := by omega
      have h3 : q < next + win := by omega
      have HQ := hide ((unhide HP).reads (unhide HBL) hsq hgq)
      clear hq1 hq2 hsq hgq HP
      by_cases k40 : k < 40
      · have k40' : (k : Int) < 40 := by omega
        go_wp2_with fail
        refine (more_any w.heap.size b wq (unhide HQ).src).mono ?_
        rintro e wv ⟨v, rfl, hbm⟩
        have HO := hide ((unhide HQ).below hbm)
        clear hbm HQ
        cases v with
        | true =>
          go_wp2_with fail
          rcases Bool.eq_false_or_eq_true (D q) with hd | hd
          · skip
            have hv : verD D next q = 3 := verD_three hd
            have HKo := hide ((unhide HK).keep (unhide HO).bel)
            have hbx := (unhide HO).bx
            have kki14 : (q : Int) < 14 := by omega
            refine (fun (Y : World → Nat → Option Addr → Nat → List SnS → Option Addr → Nat → List MsS → Option Snd → Prop) (f : (∀ (w9 : World) (B6 : Nat) (A2 : Option Addr) (c2 : Nat) (ss2 : List SnS) (Ao : Option Addr) (co : Nat) (out : List MsS) (s2 : Option Snd), OrdM w X b G win next (relD D next q) D B6 s2 A2 c2 ss2 Ao out w9 → curS ARN s2 = sndD ARN (addD D q) (next + relD D next q) (14 - (next + relD D next q)) → B6 ≠ G → Y w9 B6 A2 c2 ss2 Ao co out s2) → _) (g : ∀ (w9 : World) (B6 : Nat) (A2 : Option Addr) (c2 : Nat) (ss2 : List SnS) (Ao : Option Addr) (co : Nat) (out : List MsS) (s2 : Option Snd), OrdM w X b G win next (relD D next q) D B6 s2 A2 c2 ss2 Ao out w9 → curS ARN s2 = sndD ARN (addD D q) (next + relD D next q) (14 - (next + relD D next q)) → B6 ≠ G → Y w9 B6 A2 c2 ss2 Ao co out s2) => f g) ?Y71 ?m71 ?r71
            case m71 =>
              intro hXX1
              have bD : Below wv.heap.size wv wv.drew := (Below.refl _ _).drew
              have hD := hbx.below bD
              have hXlt := hbx.lt
              refine wp_region_held (S := fun Z => Z.heap[X]? = some (ibO (win : Int) A ss.length c)) (by kernel_rfl) ?_
              refine wpAnyH_take (i := 0) (v := ibV (win : Int) A ss.length c) rfl (by kernel_rfl) (by kernel_rfl) (by kernel_rfl) (fun _ _ _ h => h) (yields_loadI _ rfl rfl rfl (fun _ h => h)) hD.box ?_
              refine wpAnyH_take (i := 1) (v := .int .i64 (q : Int)) rfl (by kernel_rfl) (by kernel_rfl) (by kernel_rfl) (fun _ _ _ h => h) (Or.inl ⟨by rfl, by intro w _; go_simp⟩) hD.box ?_

              refine wpAnyH_two (i := 2) (j := 9) (by kernel_rfl) rfl rfl (fun K hK => ?_) (fun K hK => ?_)
              case' refine_2 =>
                go_simp
                obtain ⟨v5, hv5⟩ : ∃ v5 : World, (wv.alloc (.cells #[.int .i64 0, .slice none 0 0] 46)).drew = v5 := ⟨_, rfl⟩
                obtain ⟨B6, hB6⟩ : ∃ B6, wv.heap.size = B6 := ⟨_, rfl⟩
                have hbv : Below wv.heap.size wv v5 := by rw [← hv5]; exact ((Below.refl _ _).alloc (Nat.le_refl _) _).drew
                have hZv : v5.heap[B6]? = some (ibO 0 none 0 0) := by rw [← hv5, ← hB6]; exact heap_alloc_new wv _
                have x5 := hbx.below hbv
                have hBv : B6 < v5.heap.size := (Array.getElem?_eq_some_iff.1 hZv).1
                refine hK _ _ ⟨by rw [hv5]; exact x5.box, ?_⟩
                clear hK K
                rw [hv5]
                refine wpAnyH_one (i := 2) (by kernel_rfl) rfl (fun K hK => ?_)
                go_simp
                go_at_call 19
                refine (nbd_any ARN (q : Int) v5).mono ?_
                rintro e w6 ⟨rfl, hb_w6⟩
                try go_simp
                have x6 := x5.below hb_w6
                have hZ6 := (hb_w6.block _ hBv).trans hZv
                have hb56 := onward hbv hb_w6
                have hB6l := Nat.lt_of_lt_of_le hBv hb_w6.size
                refine hK _ _ ⟨x6.box, ?_⟩
                clear hK K
                refine wpAnyH_one (i := 3) (by kernel_rfl) rfl (fun K hK => ?_)
                go_simp
                go_at_call 18
                refine (ord_rcv (unhide HO) h1 h2 h3 w8 hb56 ((unhide HKo).keep hb56) hv).mono ?_
                rintro e w8 ⟨A2, c2, ss2, Ao, co, out, s2, rfl, em, hpl, hcur, hom, hin, hinb, houtb, hb7⟩
                try go_simp
                have x8 := x6.below hb7
                have hZ8 := (hb7.block _ hB6l).trans hZ6
                refine hK _ _ ⟨x8.box, ?_⟩
                clear hK K
                have hb58 : Below wv.heap.size wv w8 := onward hb56 hb7
                have hlB : wv.heap.size ≤ B6 := Nat.le_of_eq hB6
                refine wpAnyH_take (i := 4) (v := .tuple #[ibV (win : Int) A2 ss2.length c2, .slice Ao out.length co, .int .i64 3, .int .i64 0]) rfl (by kernel_rfl) (by kernel_rfl) (by kernel_rfl) (fun _ _ _ h => h) (Or.inl ⟨by rfl, by intro w _; go_simp⟩) x8.box ?_
                refine wpAnyH_take (i := 5) (v := ibV (win : Int) A2 ss2.length c2) rfl (by kernel_rfl) (by kernel_rfl) (by kernel_rfl) (fun _ _ _ h => h) (Or.inl ⟨by rfl, by intro w _; go_simp⟩) x8.box ?_
                refine wpAnyH_take (i := 6) (v := .slice Ao out.length co) rfl (by kernel_rfl) (by kernel_rfl) (by kernel_rfl) (fun _ _ _ h => h) (Or.inl ⟨by rfl, by intro w _; go_simp⟩) x8.box ?_
                refine wpAnyH_take (i := 7) (v := .int .i64 3) rfl (by kernel_rfl) (by kernel_rfl) (by kernel_rfl) (fun _ _ _ h => h) (Or.inl ⟨by rfl, by intro w _; go_simp⟩) x8.box ?_
                refine wpAnyH_take (i := 8) (v := .int .i64 0) rfl (by kernel_rfl) (by kernel_rfl) (by kernel_rfl) (fun _ _ _ h => h) (Or.inl ⟨by rfl, by intro w _; go_simp⟩) x8.box ?_
              case' refine_1 =>
                go_simp
                go_at_call 19
                refine (nbd_any ARN (q : Int) wv.drew).mono ?_
                rintro e w6 ⟨rfl, hb_w6⟩
                try go_simp
                have x6 := hD.below hb_w6
                have hb56 := onward bD hb_w6
                refine hK _ _ ⟨x6.box, ?_⟩
                clear hK K
                refine wpAnyH_two (i := 3) (j := 9) (by kernel_rfl) rfl rfl (fun K hK => ?_) (fun K hK => ?_)
                case' refine_1 =>
                  go_simp
                  go_at_call 18
                  refine (ord_rcv (unhide HO) h1 h2 h3 w8 hb56 ((unhide HKo).keep hb56) hv).mono ?_
                  rintro e w7 ⟨A2, c2, ss2, Ao, co, out, s2, rfl, em, hpl, hcur, hom, hin, hinb, houtb, hb7⟩
                  try go_simp
                  have x7 := x6.below hb7
                  refine hK _ _ ⟨x7.box, ?_⟩
                  clear hK K
                  refine wpAnyH_take (i := 4) (v := .tuple #[ibV (win : Int) A2 ss2.length c2, .slice Ao out.length co, .int .i64 3, .int .i64 0]) rfl (by kernel_rfl) (by kernel_rfl) (by kernel_rfl) (fun _ _ _ h => h) (Or.inl ⟨by rfl, by intro w _; go_simp⟩) x7.box ?_
                  refine wpAnyH_take (i := 5) (v := ibV (win : Int) A2 ss2.length c2) rfl (by kernel_rfl) (by kernel_rfl) (by kernel_rfl) (fun _ _ _ h => h) (Or.inl ⟨by rfl, by intro w _; go_simp⟩) x7.box ?_
                  refine wpAnyH_take (i := 6) (v := .slice Ao out.length co) rfl (by kernel_rfl) (by kernel_rfl) (by kernel_rfl) (fun _ _ _ h => h) (Or.inl ⟨by rfl, by intro w _; go_simp⟩) x7.box ?_
                  refine wpAnyH_take (i := 7) (v := .int .i64 3) rfl (by kernel_rfl) (by kernel_rfl) (by kernel_rfl) (fun _ _ _ h => h) (Or.inl ⟨by rfl, by intro w _; go_simp⟩) x7.box ?_
                  refine wpAnyH_take (i := 8) (v := .int .i64 0) rfl (by kernel_rfl) (by kernel_rfl) (by kernel_rfl) (fun _ _ _ h => h) (Or.inl ⟨by rfl, by intro w _; go_simp⟩) x7.box ?_
                  refine wpAnyH_one (i := 9) (by kernel_rfl) rfl (fun K hK => ?_)
                  go_simp
                  obtain ⟨w8, hw8⟩ : ∃ w8 : World, w7.alloc (.cells #[.int .i64 0, .slice none 0 0] 46) = w8 := ⟨_, rfl⟩
                  obtain ⟨B6, hB6⟩ : ∃ B6, w7.heap.size = B6 := ⟨_, rfl⟩
                  have hb8 : Below w7.heap.size w7 w8 := by rw [← hw8]; exact (Below.refl _ _).alloc (Nat.le_refl _) _
                  have x8 := x7.below hb8
                  have hZ8 : w8.heap[B6]? = some (ibO 0 none 0 0) := by rw [← hw8, ← hB6]; exact heap_alloc_new w7 _
                  replace hin := hin.keep hb8
                  replace hinb := hinb.keep hb8
                  replace houtb := houtb.keep hb8
                  have hb58 : Below wv.heap.size wv w8 := onward (onward hb56 hb7) hb8
                  have hlB : wv.heap.size ≤ B6 := by have := (onward hb56 hb7).size; omega
                  refine hK _ _ ⟨by rw [hw8]; exact x8.box, ?_⟩
                  clear hK K
                  rw [hw8]
                case' refine_2 =>
                  go_simp
                  obtain ⟨v6, hv6⟩ : ∃ v6 : World, w6.alloc (.cells #[.int .i64 0, .slice none 0 0] 46) = v6 := ⟨_, rfl⟩
                  obtain ⟨B6, hB6⟩ : ∃ B6, w6.heap.size = B6 := ⟨_, rfl⟩
                  have hbv : Below w6.heap.size w6 v6 := by rw [← hv6]; exact (Below.refl _ _).alloc (Nat.le_refl _) _
                  have hlB : wv.heap.size ≤ B6 := by have := hb56.size; omega
                  replace hb56 := onward hb56 hbv
                  replace x6 := x6.below hbv
                  have hZv : v6.heap[B6]? = some (ibO 0 none 0 0) := by rw [← hv6, ← hB6]; exact heap_alloc_new w6 _
                  have hBv : B6 < v6.heap.size := (Array.getElem?_eq_some_iff.1 hZv).1
                  refine hK _ _ ⟨by rw [hv6]; exact x6.box, ?_⟩
                  clear hK K
                  rw [hv6]
                  refine wpAnyH_one (i := 3) (by kernel_rfl) rfl (fun K hK => ?_)
                  go_simp
                  go_at_call 18
                  refine (ord_rcv (unhide HO) h1 h2 h3 w8 hb56 ((unhide HKo).keep hb56) hv).mono ?_
                  rintro e w8 ⟨A2, c2, ss2, Ao, co, out, s2, rfl, em, hpl, hcur, hom, hin, hinb, houtb, hb7⟩
                  try go_simp
                  have x8 := x6.below hb7
                  have hZ8 := (hb7.block _ hBv).trans hZv
                  refine hK _ _ ⟨x8.box, ?_⟩
                  clear hK K
                  have hb58 : Below wv.heap.size wv w8 := onward hb56 hb7
                  refine wpAnyH_take (i := 4) (v := .tuple #[ibV (win : Int) A2 ss2.length c2, .slice Ao out.length co, .int .i64 3, .int .i64 0]) rfl (by kernel_rfl) (by kernel_rfl) (by kernel_rfl) (fun _ _ _ h => h) (Or.inl ⟨by rfl, by intro w _; go_simp⟩) x8.box ?_
                  refine wpAnyH_take (i := 5) (v := ibV (win : Int) A2 ss2.length c2) rfl (by kernel_rfl) (by kernel_rfl) (by kernel_rfl) (fun _ _ _ h => h) (Or.inl ⟨by rfl, by intro w _; go_simp⟩) x8.box ?_
                  refine wpAnyH_take (i := 6) (v := .slice Ao out.length co) rfl (by kernel_rfl) (by kernel_rfl) (by kernel_rfl) (fun _ _ _ h => h) (Or.inl ⟨by rfl, by intro w _; go_simp⟩) x8.box ?_
                  refine wpAnyH_take (i := 7) (v := .int .i64 3) rfl (by kernel_rfl) (by kernel_rfl) (by kernel_rfl) (fun _ _ _ h => h) (Or.inl ⟨by rfl, by intro w _; go_simp⟩) x8.box ?_
                  refine wpAnyH_take (i := 8) (v := .int .i64 0) rfl (by kernel_rfl) (by kernel_rfl) (by kernel_rfl) (fun _ _ _ h => h) (Or.inl ⟨by rfl, by intro w _; go_simp⟩) x8.box ?_
              all_goals
                have hne : X ≠ B6 := by omega
                have e0 : w8.cell? ⟨B6, 0, none⟩ = some (.int .i64 0) := by rw [Lib.cell_of_heap hZ8]; rfl
                have e1 : w8.cell? ⟨B6, 1, none⟩ = some (.slice none 0 0) := by rw [Lib.cell_of_heap hZ8]; rfl
                have f0 := Lib.frozen_of_heap hZ8 0
                have f1 := Lib.frozen_of_heap hZ8 1
                obtain ⟨w9, hw9⟩ : ∃ w9 : World, (w8.setCell ⟨B6, 0, none⟩ (.int .i64 (win : Int))).setCell ⟨B6, 1, none⟩ (.slice A2 ss2.length c2) = w9 := ⟨_, rfl⟩
                have hg9 : w8.grownBy w9 (some B6) := by rw [← hw9]; exact Lib.grownBy_setB (Lib.grownBy_setB (World.grownBy.refl w8 (some B6)) 0 (.int .i64 (win : Int))) 1 (.slice A2 ss2.length c2)
                have hY9 : w9.heap[B6]? = some (ibO (win : Int) A2 ss2.length c2) := by rw [← hw9, heap_setM _ (heap_setM _ hZ8)]; rfl
                have x9 := x8.grown hne hZ8 hg9
                have y9 := IBx.put hZ8 hin em hpl hg9 hY9
                have hb59 : Below wv.heap.size wv w9 := by rw [← hw9]; exact (hb58.setCell (p := ⟨B6, 0, none⟩) hlB _).setCell (p := ⟨B6, 1, none⟩) hlB _
                refine wpAnyH_one (i := 10) (by kernel_rfl) rfl (fun K hK => ?_)
                go_simp
                try rw [hw9]
                refine hK _ _ ⟨x9.box, ?_⟩
                clear hK K
                refine wpAnyH_take (i := 11) (v := .slice Ao out.length co) rfl (by kernel_rfl) (by kernel_rfl) (by kernel_rfl) (fun _ _ _ h => h) (Or.inl ⟨by rfl, by intro w _; go_simp⟩) x9.box ?_
                refine wpAnyH_take (i := 12) (v := .int .i64 3) rfl (by kernel_rfl) (by kernel_rfl) (by kernel_rfl) (fun _ _ _ h => h) (Or.inl ⟨by rfl, by intro w _; go_simp⟩) x9.box ?_
                refine wpAnyH_take (i := 13) (v := .int .i64 0) rfl (by kernel_rfl) (by kernel_rfl) (by kernel_rfl) (fun _ _ _ h => h) (Or.inl ⟨by rfl, by intro w _; go_simp⟩) x9.box ?_
                refine wpAnyH_done (by kernel_rfl) ?_ _
              all_goals
                have hGl : G < wv.heap.size := (Array.getElem?_eq_some_iff.1 (unhide HO).arr).1
                have hYG : B6 ≠ G := by omega
                have hM := (unhide HO).mid (k := q) hb59 x9 y9 hinb houtb hom hZ8 hg9
                go_simp
                exact hXX1 w9 B6 A2 c2 ss2 Ao co out s2 hM hcur hYG
            intro w9 B6 A2 c2 ss2 Ao co out s2 hM hcur hYG
            have hrl := rel_len hM.om
            have hord := ordD_step (unhide HO).ord h1 h2
            have HCUR := hide hcur
            have HORD := hide hord
            have hnle := hord.hi
            have hpos : next ≤ n := hnx
            generalize relD D next q = r at *
            have cA : w9.cell? ⟨G, q, none⟩ = some (.bool true) := by rw [Lib.cell_of_heap hM.arr, doneA_at _ _ (by omega), hd]
            have fA := Lib.frozen_of_heap hM.arr q
            obtain ⟨wA, hwA⟩ : ∃ wA, w9.setCell ⟨G, q, none⟩ (.bool true) = wA := ⟨_, rfl⟩
            have hMA := hM.mark (unhide HBL) hYG q
            rw [hwA] at hMA
            have HMA := hide hMA
            have HPOS := hide hpos
            have HRL := hide hrl
            have HHV := hide hv
            have HHD := hide hd
            clear hMA hM hbx hcur hYG hord hpos hrl hv hd
            go_wp2_with fail
            clear cA fA hwA
            go_loopw [11, 19] (fun t i wr => ∃ j : Nat, j ≤ out.length ∧ t = .int .i64 ((next + j : Nat) : Int) ∧ i = .int .i64 j ∧ Hid (OrdM w X b G win next r (addD D q) B6 s2 A2 c2 ss2 Ao out wr)) (fun _ i _ => out.length - (intOf i).toNat)
            case atStart => exact ⟨0, Nat.zero_le _, rfl, rfl, HMA⟩
            case round =>
              obtain ⟨j, hj, rfl, rfl, HJ⟩ := hrel
              obtain ⟨wi, rfl⟩ : ∃ wi : World, wi = wr := ⟨_, rfl⟩
              clear HMA
              by_cases hlt : j < out.length
              · obtain ⟨g, off, rfl, -, hc, hl⟩ := (unhide HJ).outs.at hlt
                have hm := rel_at (unhide HJ).om hlt
                have jl : (j : Int) < (out.length : Int) := by omega
                have j13 : j ≤ 13 := by have := unhide HRL; omega
                generalize out.getD j ms0 = xx at *
                have HD := hide (fun t : After wi => show Calls Tryd.prog 20 #[xx.v, (nbS ARN ((next + j : Nat) : Int)).v] t.to fun e w' => e = .returned (.bool true) ∧ Below t.to.heap.size t.to w' by
                  have e := rsame4_any b xx.m (nbd ARN ((next + j : Nat) : Int)) xx.P none xx.Q none xx.c 0 xx.d 0 t.to (by rw [hm]; exact Nat.zero_le _) (by rw [hm]; exact Nat.zero_le _) (hl.1.keep t.is) (LegsIn.nil _ _ _) (hl.2.keep t.is) (NumsIn.nil _ _ _)
                  rw [show sameM xx.m (nbd ARN ((next + j : Nat) : Int)) = true by rw [hm]; exact sameM_refl _] at e
                  exact e)
                have HN := hide (fun t : After wi => nbd_any ARN ((next + j : Nat) : Int) t.to)
                have HC := hide (fun (w' : World) (hw' : ∃ t : After wi, w' = t.to) => show ∀ i u, xx.arr[i]? = some u → w'.cell? ⟨g, off + j * 30 + i, none⟩ = some u by
                  obtain ⟨t, rfl⟩ := hw'
                  exact fun i u hu => After.cell (hc i u hu) t)
                clear hc hl hm
                go_wp2_with fail
                refine wp_region_after (by kernel_rfl) (by kernel_rfl) ?_
                repeat (go_big_quiet_step (fail))
                refine BigFrame.wpQuiet_want rfl (fun K hK => ?_)
                refine quiet_loadA _ rfl rfl (unhide HC) (hK _ ?_)
                clear hK K
                simp only [Act.put, List.setIfInBounds_toArray, List.set_cons_succ, List.set_cons_zero]
                repeat (go_big_quiet_step (first | (go_at_call 19; exact After.call (unhide HN _)) | (go_at_call 20; exact After.call (unhide HD _))))
                refine wpQuiet_nil ?_
                rintro _ ⟨t, rfl⟩
                have HT := hide t.is
                generalize t.to = W3 at *
                go_wp2
                go_roundw
                case rel => exact ⟨j + 1, by omega, by go_num, by go_num, Lib.hid ((unhide HJ).below (unhide HT))⟩
                case measure => simp [intOf]; omega
              · have jl : ¬ (j : Int) < (out.length : Int) := by omega
                obtain rfl : j = r := by have := unhide HRL; omega
                have hXY := (unhide HJ).old
                obtain ⟨A9, n9, c9, h9⟩ := hXY
                have HX9 := hide h9
                have HY9 := hide (unhide HJ).bx.box
                have cN := (unhide HJ).arr
                have hgap := (unhide HORD).gap
                by_cases hle : next + j ≤ n
                · have nle2 : ((next + j : Nat) : Int) ≤ (n : Int) := by omega
                  have n14 : ((next + j : Nat) : Int) < 14 := by omega
                  have cB : wi.cell? ⟨G, next + j, none⟩ = some (.bool false) := by rw [Lib.cell_of_heap cN, doneA_at _ _ (by omega), hgap]
                  clear h9 cN hgap
                  go_wp2_with (first
                    | (refine wpList_loadI (unhide HY9) rfl _ rfl rfl ?_)
                    | (refine wpList_storeI (unhide HX9) (win : Int) A2 ss2.length c2 rfl _ _ rfl rfl rfl rfl ?_))
                  go_roundw
                  case rel => exact ⟨k + 1, next + j, addD D q, s2, A2, c2, ss2, by omega, by omega, by omega, by omega, rfl, by go_num, Lib.hid ((unhide HJ).done (unhide HBL) (unhide HCUR) (unhide HORD))⟩
                  case measure => simp [intOf]; omega
                · have nle2 : ¬ ((next + j : Nat) : Int) ≤ (n : Int) := by omega
                  clear h9 cN hgap
                  go_wp2_with (first
                    | (refine wpList_loadI (unhide HY9) rfl _ rfl rfl ?_)
                    | (refine wpList_storeI (unhide HX9) (win : Int) A2 ss2.length c2 rfl _ _ rfl rfl rfl rfl ?_))
                  go_roundw
                  case rel => exact ⟨k + 1, next + j, addD D q, s2, A2, c2, ss2, by omega, by omega, by omega, by omega, rfl, by go_num, Lib.hid ((unhide HJ).done (unhide HBL) (unhide HCUR) (unhide HORD))⟩
                  case measure => simp [intOf]; omega
          · have hge : next ≤ q := by
              rcases Nat.lt_or_ge q next with h5 | h5
              · rw [(unhide HO).ord.old q h1 h5] at hd; cases hd
              · exact h5
            by_cases heq : q = next
            · obtain rfl : next = q := heq.symm
              skip
              have hv : verD D next next = 1 := verD_one hd rfl
              have HKo := hide ((unhide HK).keep (unhide HO).bel)
              have hbx := (unhide HO).bx
              have kki14 : (next : Int) < 14 := by omega
              refine (fun (Y : World → Nat → Option Addr → Nat → List SnS → Option Addr → Nat → List MsS → Option Snd → Prop) (f : (∀ (w9 : World) (B6 : Nat) (A2 : Option Addr) (c2 : Nat) (ss2 : List SnS) (Ao : Option Addr) (co : Nat) (out : List MsS) (s2 : Option Snd), OrdM w X b G win next (relD D next next) D B6 s2 A2 c2 ss2 Ao out w9 → curS ARN s2 = sndD ARN (addD D next) (next + relD D next next) (14 - (next + relD D next next)) → B6 ≠ G → Y w9 B6 A2 c2 ss2 Ao co out s2) → _) (g : ∀ (w9 : World) (B6 : Nat) (A2 : Option Addr) (c2 : Nat) (ss2 : List SnS) (Ao : Option Addr) (co : Nat) (out : List MsS) (s2 : Option Snd), OrdM w X b G win next (relD D next next) D B6 s2 A2 c2 ss2 Ao out w9 → curS ARN s2 = sndD ARN (addD D next) (next + relD D next next) (14 - (next + relD D next next)) → B6 ≠ G → Y w9 B6 A2 c2 ss2 Ao co out s2) => f g) ?Y72 ?m72 ?r72
              case m72 =>
                intro hXX1
                have bD : Below wv.heap.size wv wv.drew := (Below.refl _ _).drew
                have hD := hbx.below bD
                have hXlt := hbx.lt
                refine wp_region_held (S := fun Z => Z.heap[X]? = some (ibO (win : Int) A ss.length c)) (by kernel_rfl) ?_
                refine wpAnyH_take (i := 0) (v := ibV (win : Int) A ss.length c) rfl (by kernel_rfl) (by kernel_rfl) (by kernel_rfl) (fun _ _ _ h => h) (yields_loadI _ rfl rfl rfl (fun _ h => h)) hD.box ?_
                refine wpAnyH_take (i := 1) (v := .int .i64 (next : Int)) rfl (by kernel_rfl) (by kernel_rfl) (by kernel_rfl) (fun _ _ _ h => h) (Or.inl ⟨by rfl, by intro w _; go_simp⟩) hD.box ?_

                refine wpAnyH_two (i := 2) (j := 9) (by kernel_rfl) rfl rfl (fun K hK => ?_) (fun K hK => ?_)
                case' refine_2 =>
                  go_simp
                  obtain ⟨v5, hv5⟩ : ∃ v5 : World, (wv.alloc (.cells #[.int .i64 0, .slice none 0 0] 46)).drew = v5 := ⟨_, rfl⟩
                  obtain ⟨B6, hB6⟩ : ∃ B6, wv.heap.size = B6 := ⟨_, rfl⟩
                  have hbv : Below wv.heap.size wv v5 := by rw [← hv5]; exact ((Below.refl _ _).alloc (Nat.le_refl _) _).drew
                  have hZv : v5.heap[B6]? = some (ibO 0 none 0 0) := by rw [← hv5, ← hB6]; exact heap_alloc_new wv _
                  have x5 := hbx.below hbv
                  have hBv : B6 < v5.heap.size := (Array.getElem?_eq_some_iff.1 hZv).1
                  refine hK _ _ ⟨by rw [hv5]; exact x5.box, ?_⟩
                  clear hK K
                  rw [hv5]
                  refine wpAnyH_one (i := 2) (by kernel_rfl) rfl (fun K hK => ?_)
                  go_simp
                  go_at_call 19
                  refine (nbd_any ARN (next : Int) v5).mono ?_
                  rintro e w6 ⟨rfl, hb_w6⟩
                  try go_simp
                  have x6 := x5.below hb_w6
                  have hZ6 := (hb_w6.block _ hBv).trans hZv
                  have hb56 := onward hbv hb_w6
                  have hB6l := Nat.lt_of_lt_of_le hBv hb_w6.size
                  refine hK _ _ ⟨x6.box, ?_⟩
                  clear hK K
                  refine wpAnyH_one (i := 3) (by kernel_rfl) rfl (fun K hK => ?_)
                  go_simp
                  go_at_call 18
                  refine (ord_rcv (unhide HO) h1 h2 h3 w8 hb56 ((unhide HKo).keep hb56) hv).mono ?_
                  rintro e w8 ⟨A2, c2, ss2, Ao, co, out, s2, rfl, em, hpl, hcur, hom, hin, hinb, houtb, hb7⟩
                  try go_simp
                  have x8 := x6.below hb7
                  have hZ8 := (hb7.block _ hB6l).trans hZ6
                  refine hK _ _ ⟨x8.box, ?_⟩
                  clear hK K
                  have hb58 : Below wv.heap.size wv w8 := onward hb56 hb7
                  have hlB : wv.heap.size ≤ B6 := Nat.le_of_eq hB6
                  refine wpAnyH_take (i := 4) (v := .tuple #[ibV (win : Int) A2 ss2.length c2, .slice Ao out.length co, .int .i64 1, .int .i64 0]) rfl (by kernel_rfl) (by kernel_rfl) (by kernel_rfl) (fun _ _ _ h => h) (Or.inl ⟨by rfl, by intro w _; go_simp⟩) x8.box ?_
                  refine wpAnyH_take (i := 5) (v := ibV (win : Int) A2 ss2.length c2) rfl (by kernel_rfl) (by kernel_rfl) (by kernel_rfl) (fun _ _ _ h => h) (Or.inl ⟨by rfl, by intro w _; go_simp⟩) x8.box ?_
                  refine wpAnyH_take (i := 6) (v := .slice Ao out.length co) rfl (by kernel_rfl) (by kernel_rfl) (by kernel_rfl) (fun _ _ _ h => h) (Or.inl ⟨by rfl, by intro w _; go_simp⟩) x8.box ?_
                  refine wpAnyH_take (i := 7) (v := .int .i64 1) rfl (by kernel_rfl) (by kernel_rfl) (by kernel_rfl) (fun _ _ _ h => h) (Or.inl ⟨by rfl, by intro w _; go_simp⟩) x8.box ?_
                  refine wpAnyH_take (i := 8) (v := .int .i64 0) rfl (by kernel_rfl) (by kernel_rfl) (by kernel_rfl) (fun _ _ _ h => h) (Or.inl ⟨by rfl, by intro w _; go_simp⟩) x8.box ?_
                case' refine_1 =>
                  go_simp
                  go_at_call 19
                  refine (nbd_any ARN (next : Int) wv.drew).mono ?_
                  rintro e w6 ⟨rfl, hb_w6⟩
                  try go_simp
                  have x6 := hD.below hb_w6
                  have hb56 := onward bD hb_w6
                  refine hK _ _ ⟨x6.box, ?_⟩
                  clear hK K
                  refine wpAnyH_two (i := 3) (j := 9) (by kernel_rfl) rfl rfl (fun K hK => ?_) (fun K hK => ?_)
                  case' refine_1 =>
                    go_simp
                    go_at_call 18
                    refine (ord_rcv (unhide HO) h1 h2 h3 w8 hb56 ((unhide HKo).keep hb56) hv).mono ?_
                    rintro e w7 ⟨A2, c2, ss2, Ao, co, out, s2, rfl, em, hpl, hcur, hom, hin, hinb, houtb, hb7⟩
                    try go_simp
                    have x7 := x6.below hb7
                    refine hK _ _ ⟨x7.box, ?_⟩
                    clear hK K
                    refine wpAnyH_take (i := 4) (v := .tuple #[ibV (win : Int) A2 ss2.length c2, .slice Ao out.length co, .int .i64 1, .int .i64 0]) rfl (by kernel_rfl) (by kernel_rfl) (by kernel_rfl) (fun _ _ _ h => h) (Or.inl ⟨by rfl, by intro w _; go_simp⟩) x7.box ?_
                    refine wpAnyH_take (i := 5) (v := ibV (win : Int) A2 ss2.length c2) rfl (by kernel_rfl) (by kernel_rfl) (by kernel_rfl) (fun _ _ _ h => h) (Or.inl ⟨by rfl, by intro w _; go_simp⟩) x7.box ?_
                    refine wpAnyH_take (i := 6) (v := .slice Ao out.length co) rfl (by kernel_rfl) (by kernel_rfl) (by kernel_rfl) (fun _ _ _ h => h) (Or.inl ⟨by rfl, by intro w _; go_simp⟩) x7.box ?_
                    refine wpAnyH_take (i := 7) (v := .int .i64 1) rfl (by kernel_rfl) (by kernel_rfl) (by kernel_rfl) (fun _ _ _ h => h) (Or.inl ⟨by rfl, by intro w _; go_simp⟩) x7.box ?_
                    refine wpAnyH_take (i := 8) (v := .int .i64 0) rfl (by kernel_rfl) (by kernel_rfl) (by kernel_rfl) (fun _ _ _ h => h) (Or.inl ⟨by rfl, by intro w _; go_simp⟩) x7.box ?_
                    refine wpAnyH_one (i := 9) (by kernel_rfl) rfl (fun K hK => ?_)
                    go_simp
                    obtain ⟨w8, hw8⟩ : ∃ w8 : World, w7.alloc (.cells #[.int .i64 0, .slice none 0 0] 46) = w8 := ⟨_, rfl⟩
                    obtain ⟨B6, hB6⟩ : ∃ B6, w7.heap.size = B6 := ⟨_, rfl⟩
                    have hb8 : Below w7.heap.size w7 w8 := by rw [← hw8]; exact (Below.refl _ _).alloc (Nat.le_refl _) _
                    have x8 := x7.below hb8
                    have hZ8 : w8.heap[B6]? = some (ibO 0 none 0 0) := by rw [← hw8, ← hB6]; exact heap_alloc_new w7 _
                    replace hin := hin.keep hb8
                    replace hinb := hinb.keep hb8
                    replace houtb := houtb.keep hb8
                    have hb58 : Below wv.heap.size wv w8 := onward (onward hb56 hb7) hb8
                    have hlB : wv.heap.size ≤ B6 := by have := (onward hb56 hb7).size; omega
                    refine hK _ _ ⟨by rw [hw8]; exact x8.box, ?_⟩
                    clear hK K
                    rw [hw8]
                  case' refine_2 =>
                    go_simp
                    obtain ⟨v6, hv6⟩ : ∃ v6 : World, w6.alloc (.cells #[.int .i64 0, .slice none 0 0] 46) = v6 := ⟨_, rfl⟩
                    obtain ⟨B6, hB6⟩ : ∃ B6, w6.heap.size = B6 := ⟨_, rfl⟩
                    have hbv : Below w6.heap.size w6 v6 := by rw [← hv6]; exact (Below.refl _ _).alloc (Nat.le_refl _) _
                    have hlB : wv.heap.size ≤ B6 := by have := hb56.size; omega
                    replace hb56 := onward hb56 hbv
                    replace x6 := x6.below hbv
                    have hZv : v6.heap[B6]? = some (ibO 0 none 0 0) := by rw [← hv6, ← hB6]; exact heap_alloc_new w6 _
                    have hBv : B6 < v6.heap.size := (Array.getElem?_eq_some_iff.1 hZv).1
                    refine hK _ _ ⟨by rw [hv6]; exact x6.box, ?_⟩
                    clear hK K
                    rw [hv6]
                    refine wpAnyH_one (i := 3) (by kernel_rfl) rfl (fun K hK => ?_)
                    go_simp
                    go_at_call 18
                    refine (ord_rcv (unhide HO) h1 h2 h3 w8 hb56 ((unhide HKo).keep hb56) hv).mono ?_
                    rintro e w8 ⟨A2, c2, ss2, Ao, co, out, s2, rfl, em, hpl, hcur, hom, hin, hinb, houtb, hb7⟩
                    try go_simp
                    have x8 := x6.below hb7
                    have hZ8 := (hb7.block _ hBv).trans hZv
                    refine hK _ _ ⟨x8.box, ?_⟩
                    clear hK K
                    have hb58 : Below wv.heap.size wv w8 := onward hb56 hb7
                    refine wpAnyH_take (i := 4) (v := .tuple #[ibV (win : Int) A2 ss2.length c2, .slice Ao out.length co, .int .i64 1, .int .i64 0]) rfl (by kernel_rfl) (by kernel_rfl) (by kernel_rfl) (fun _ _ _ h => h) (Or.inl ⟨by rfl, by intro w _; go_simp⟩) x8.box ?_
                    refine wpAnyH_take (i := 5) (v := ibV (win : Int) A2 ss2.length c2) rfl (by kernel_rfl) (by kernel_rfl) (by kernel_rfl) (fun _ _ _ h => h) (Or.inl ⟨by rfl, by intro w _; go_simp⟩) x8.box ?_
                    refine wpAnyH_take (i := 6) (v := .slice Ao out.length co) rfl (by kernel_rfl) (by kernel_rfl) (by kernel_rfl) (fun _ _ _ h => h) (Or.inl ⟨by rfl, by intro w _; go_simp⟩) x8.box ?_
                    refine wpAnyH_take (i := 7) (v := .int .i64 1) rfl (by kernel_rfl) (by kernel_rfl) (by kernel_rfl) (fun _ _ _ h => h) (Or.inl ⟨by rfl, by intro w _; go_simp⟩) x8.box ?_
                    refine wpAnyH_take (i := 8) (v := .int .i64 0) rfl (by kernel_rfl) (by kernel_rfl) (by kernel_rfl) (fun _ _ _ h => h) (Or.inl ⟨by rfl, by intro w _; go_simp⟩) x8.box ?_
                all_goals
                  have hne : X ≠ B6 := by omega
                  have e0 : w8.cell? ⟨B6, 0, none⟩ = some (.int .i64 0) := by rw [Lib.cell_of_heap hZ8]; rfl
                  have e1 : w8.cell? ⟨B6, 1, none⟩ = some (.slice none 0 0) := by rw [Lib.cell_of_heap hZ8]; rfl
                  have f0 := Lib.frozen_of_heap hZ8 0
                  have f1 := Lib.frozen_of_heap hZ8 1
                  obtain ⟨w9, hw9⟩ : ∃ w9 : World, (w8.setCell ⟨B6, 0, none⟩ (.int .i64 (win : Int))).setCell ⟨B6, 1, none⟩ (.slice A2 ss2.length c2) = w9 := ⟨_, rfl⟩
                  have hg9 : w8.grownBy w9 (some B6) := by rw [← hw9]; exact Lib.grownBy_setB (Lib.grownBy_setB (World.grownBy.refl w8 (some B6)) 0 (.int .i64 (win : Int))) 1 (.slice A2 ss2.length c2)
                  have hY9 : w9.heap[B6]? = some (ibO (win : Int) A2 ss2.length c2) := by rw [← hw9, heap_setM _ (heap_setM _ hZ8)]; rfl
                  have x9 := x8.grown hne hZ8 hg9
                  have y9 := IBx.put hZ8 hin em hpl hg9 hY9
                  have hb59 : Below wv.heap.size wv w9 := by rw [← hw9]; exact (hb58.setCell (p := ⟨B6, 0, none⟩) hlB _).setCell (p := ⟨B6, 1, none⟩) hlB _
                  refine wpAnyH_one (i := 10) (by kernel_rfl) rfl (fun K hK => ?_)
                  go_simp
                  try rw [hw9]
                  refine hK _ _ ⟨x9.box, ?_⟩
                  clear hK K
                  refine wpAnyH_take (i := 11) (v := .slice Ao out.length co) rfl (by kernel_rfl) (by kernel_rfl) (by kernel_rfl) (fun _ _ _ h => h) (Or.inl ⟨by rfl, by intro w _; go_simp⟩) x9.box ?_
                  refine wpAnyH_take (i := 12) (v := .int .i64 1) rfl (by kernel_rfl) (by kernel_rfl) (by kernel_rfl) (fun _ _ _ h => h) (Or.inl ⟨by rfl, by intro w _; go_simp⟩) x9.box ?_
                  refine wpAnyH_take (i := 13) (v := .int .i64 0) rfl (by kernel_rfl) (by kernel_rfl) (by kernel_rfl) (fun _ _ _ h => h) (Or.inl ⟨by rfl, by intro w _; go_simp⟩) x9.box ?_
                  refine wpAnyH_done (by kernel_rfl) ?_ _
                all_goals
                  have hGl : G < wv.heap.size := (Array.getElem?_eq_some_iff.1 (unhide HO).arr).1
                  have hYG : B6 ≠ G := by omega
                  have hM := (unhide HO).mid (k := next) hb59 x9 y9 hinb houtb hom hZ8 hg9
                  go_simp
                  exact hXX1 w9 B6 A2 c2 ss2 Ao co out s2 hM hcur hYG
              intro w9 B6 A2 c2 ss2 Ao co out s2 hM hcur hYG
              have hrl := rel_len hM.om
              have hord := ordD_step (unhide HO).ord h1 h2
              have HCUR := hide hcur
              have HORD := hide hord
              have hnle := hord.hi
              have hpos : 1 ≤ relD D next next := rel_pos (unhide HO).ord hnx
              generalize relD D next next = r at *
              have cA : w9.cell? ⟨G, next, none⟩ = some (.bool false) := by rw [Lib.cell_of_heap hM.arr, doneA_at _ _ (by omega), hd]
              have fA := Lib.frozen_of_heap hM.arr next
              obtain ⟨wA, hwA⟩ : ∃ wA, w9.setCell ⟨G, next, none⟩ (.bool true) = wA := ⟨_, rfl⟩
              have hMA := hM.mark (unhide HBL) hYG next
              rw [hwA] at hMA
              have HMA := hide hMA
              have HPOS := hide hpos
              have HRL := hide hrl
              have HHV := hide hv
              have HHD := hide hd
              clear hMA hM hbx hcur hYG hord hpos hrl hv hd
              go_wp2_with fail
              clear cA fA hwA
              go_loopw [11, 19] (fun t i wr => ∃ j : Nat, j ≤ out.length ∧ t = .int .i64 ((next + j : Nat) : Int) ∧ i = .int .i64 j ∧ Hid (OrdM w X b G win next r (addD D next) B6 s2 A2 c2 ss2 Ao out wr)) (fun _ i _ => out.length - (intOf i).toNat)
              case atStart => exact ⟨0, Nat.zero_le _, rfl, rfl, HMA⟩
              case round =>
                obtain ⟨j, hj, rfl, rfl, HJ⟩ := hrel
                obtain ⟨wi, rfl⟩ : ∃ wi : World, wi = wr := ⟨_, rfl⟩
                clear HMA
                by_cases hlt : j < out.length
                · obtain ⟨g, off, rfl, -, hc, hl⟩ := (unhide HJ).outs.at hlt
                  have hm := rel_at (unhide HJ).om hlt
                  have jl : (j : Int) < (out.length : Int) := by omega
                  have j13 : j ≤ 13 := by have := unhide HRL; omega
                  generalize out.getD j ms0 = xx at *
                  have HD := hide (fun t : After wi => show Calls Tryd.prog 20 #[xx.v, (nbS ARN ((next + j : Nat) : Int)).v] t.to fun e w' => e = .returned (.bool true) ∧ Below t.to.heap.size t.to w' by
                    have e := rsame4_any b xx.m (nbd ARN ((next + j : Nat) : Int)) xx.P none xx.Q none xx.c 0 xx.d 0 t.to (by rw [hm]; exact Nat.zero_le _) (by rw [hm]; exact Nat.zero_le _) (hl.1.keep t.is) (LegsIn.nil _ _ _) (hl.2.keep t.is) (NumsIn.nil _ _ _)
                    rw [show sameM xx.m (nbd ARN ((next + j : Nat) : Int)) = true by rw [hm]; exact sameM_refl _] at e
                    exact e)
                  have HN := hide (fun t : After wi => nbd_any ARN ((next + j : Nat) : Int) t.to)
                  have HC := hide (fun (w' : World) (hw' : ∃ t : After wi, w' = t.to) => show ∀ i u, xx.arr[i]? = some u → w'.cell? ⟨g, off + j * 30 + i, none⟩ = some u by
                    obtain ⟨t, rfl⟩ := hw'
                    exact fun i u hu => After.cell (hc i u hu) t)
                  clear hc hl hm
                  go_wp2_with fail
                  refine wp_region_after (by kernel_rfl) (by kernel_rfl) ?_
                  repeat (go_big_quiet_step (fail))
                  refine BigFrame.wpQuiet_want rfl (fun K hK => ?_)
                  refine quiet_loadA _ rfl rfl (unhide HC) (hK _ ?_)
                  clear hK K
                  simp only [Act.put, List.setIfInBounds_toArray, List.set_cons_succ, List.set_cons_zero]
                  repeat (go_big_quiet_step (first | (go_at_call 19; exact After.call (unhide HN _)) | (go_at_call 20; exact After.call (unhide HD _))))
                  refine wpQuiet_nil ?_
                  rintro _ ⟨t, rfl⟩
                  have HT := hide t.is
                  generalize t.to = W3 at *
                  go_wp2
                  go_roundw
                  case rel => exact ⟨j + 1, by omega, by go_num, by go_num, Lib.hid ((unhide HJ).below (unhide HT))⟩
                  case measure => simp [intOf]; omega
                · have jl : ¬ (j : Int) < (out.length : Int) := by omega
                  obtain rfl : j = r := by have := unhide HRL; omega
                  have hXY := (unhide HJ).old
                  obtain ⟨A9, n9, c9, h9⟩ := hXY
                  have HX9 := hide h9
                  have HY9 := hide (unhide HJ).bx.box
                  have cN := (unhide HJ).arr
                  have hgap := (unhide HORD).gap
                  by_cases hle : next + j ≤ n
                  · have nle2 : ((next + j : Nat) : Int) ≤ (n : Int) := by omega
                    have n14 : ((next + j : Nat) : Int) < 14 := by omega
                    have cB : wi.cell? ⟨G, next + j, none⟩ = some (.bool false) := by rw [Lib.cell_of_heap cN, doneA_at _ _ (by omega), hgap]
                    clear h9 cN hgap
                    go_wp2_with (first
                      | (refine wpList_loadI (unhide HY9) rfl _ rfl rfl ?_)
                      | (refine wpList_storeI (unhide HX9) (win : Int) A2 ss2.length c2 rfl _ _ rfl rfl rfl rfl ?_))
                    go_roundw
                    case rel => exact ⟨k + 1, next + j, addD D next, s2, A2, c2, ss2, by omega, by have := unhide HPOS; omega, by omega, by omega, rfl, by go_num, Lib.hid ((unhide HJ).done (unhide HBL) (unhide HCUR) (unhide HORD))⟩
                    case measure => simp [intOf]; omega
                  · have nle2 : ¬ ((next + j : Nat) : Int) ≤ (n : Int) := by omega
                    clear h9 cN hgap
                    go_wp2_with (first
                      | (refine wpList_loadI (unhide HY9) rfl _ rfl rfl ?_)
                      | (refine wpList_storeI (unhide HX9) (win : Int) A2 ss2.length c2 rfl _ _ rfl rfl rfl rfl ?_))
                    go_roundw
                    case rel => exact ⟨k + 1, next + j, addD D next, s2, A2, c2, ss2, by omega, by have := unhide HPOS; omega, by omega, by omega, rfl, by go_num, Lib.hid ((unhide HJ).done (unhide HBL) (unhide HCUR) (unhide HORD))⟩
                    case measure => simp [intOf]; omega
            · have hltk : next < q := by omega
              skip
              have hv : verD D next q = 2 := verD_two hd hltk
              have HKo := hide ((unhide HK).keep (unhide HO).bel)
              have hbx := (unhide HO).bx
              have kki14 : (q : Int) < 14 := by omega
              refine (fun (Y : World → Nat → Option Addr → Nat → List SnS → Option Addr → Nat → List MsS → Option Snd → Prop) (f : (∀ (w9 : World) (B6 : Nat) (A2 : Option Addr) (c2 : Nat) (ss2 : List SnS) (Ao : Option Addr) (co : Nat) (out : List MsS) (s2 : Option Snd), OrdM w X b G win next (relD D next q) D B6 s2 A2 c2 ss2 Ao out w9 → curS ARN s2 = sndD ARN (addD D q) (next + relD D next q) (14 - (next + relD D next q)) → B6 ≠ G → Y w9 B6 A2 c2 ss2 Ao co out s2) → _) (g : ∀ (w9 : World) (B6 : Nat) (A2 : Option Addr) (c2 : Nat) (ss2 : List SnS) (Ao : Option Addr) (co : Nat) (out : List MsS) (s2 : Option Snd), OrdM w X b G win next (relD D next q) D B6 s2 A2 c2 ss2 Ao out w9 → curS ARN s2 = sndD ARN (addD D q) (next + relD D next q) (14 - (next + relD D next q)) → B6 ≠ G → Y w9 B6 A2 c2 ss2 Ao co out s2) => f g) ?Y73 ?m73 ?r73
              case m73 =>
                intro hXX1
                have bD : Below wv.heap.size wv wv.drew := (Below.refl _ _).drew
                have hD := hbx.below bD
                have hXlt := hbx.lt
                refine wp_region_held (S := fun Z => Z.heap[X]? = some (ibO (win : Int) A ss.length c)) (by kernel_rfl) ?_
                refine wpAnyH_take (i := 0) (v := ibV (win : Int) A ss.length c) rfl (by kernel_rfl) (by kernel_rfl) (by kernel_rfl) (fun _ _ _ h => h) (yields_loadI _ rfl rfl rfl (fun _ h => h)) hD.box ?_
                refine wpAnyH_take (i := 1) (v := .int .i64 (q : Int)) rfl (by kernel_rfl) (by kernel_rfl) (by kernel_rfl) (fun _ _ _ h => h) (Or.inl ⟨by rfl, by intro w _; go_simp⟩) hD.box ?_

                refine wpAnyH_two (i := 2) (j := 9) (by kernel_rfl) rfl rfl (fun K hK => ?_) (fun K hK => ?_)
                case' refine_2 =>
                  go_simp
                  obtain ⟨v5, hv5⟩ : ∃ v5 : World, (wv.alloc (.cells #[.int .i64 0, .slice none 0 0] 46)).drew = v5 := ⟨_, rfl⟩
                  obtain ⟨B6, hB6⟩ : ∃ B6, wv.heap.size = B6 := ⟨_, rfl⟩
                  have hbv : Below wv.heap.size wv v5 := by rw [← hv5]; exact ((Below.refl _ _).alloc (Nat.le_refl _) _).drew
                  have hZv : v5.heap[B6]? = some (ibO 0 none 0 0) := by rw [← hv5, ← hB6]; exact heap_alloc_new wv _
                  have x5 := hbx.below hbv
                  have hBv : B6 < v5.heap.size := (Array.getElem?_eq_some_iff.1 hZv).1
                  refine hK _ _ ⟨by rw [hv5]; exact x5.box, ?_⟩
                  clear hK K
                  rw [hv5]
                  refine wpAnyH_one (i := 2) (by kernel_rfl) rfl (fun K hK => ?_)
                  go_simp
                  go_at_call 19
                  refine (nbd_any ARN (q : Int) v5).mono ?_
                  rintro e w6 ⟨rfl, hb_w6⟩
                  try go_simp
                  have x6 := x5.below hb_w6
                  have hZ6 := (hb_w6.block _ hBv).trans hZv
                  have hb56 := onward hbv hb_w6
                  have hB6l := Nat.lt_of_lt_of_le hBv hb_w6.size
                  refine hK _ _ ⟨x6.box, ?_⟩
                  clear hK K
                  refine wpAnyH_one (i := 3) (by kernel_rfl) rfl (fun K hK => ?_)
                  go_simp
                  go_at_call 18
                  refine (ord_rcv (unhide HO) h1 h2 h3 w8 hb56 ((unhide HKo).keep hb56) hv).mono ?_
                  rintro e w8 ⟨A2, c2, ss2, Ao, co, out, s2, rfl, em, hpl, hcur, hom, hin, hinb, houtb, hb7⟩
                  try go_simp
                  have x8 := x6.below hb7
                  have hZ8 := (hb7.block _ hB6l).trans hZ6
                  refine hK _ _ ⟨x8.box, ?_⟩
                  clear hK K
                  have hb58 : Below wv.heap.size wv w8 := onward hb56 hb7
                  have hlB : wv.heap.size ≤ B6 := Nat.le_of_eq hB6
                  refine wpAnyH_take (i := 4) (v := .tuple #[ibV (win : Int) A2 ss2.length c2, .slice Ao out.length co, .int .i64 2, .int .i64 0]) rfl (by kernel_rfl) (by kernel_rfl) (by kernel_rfl) (fun _ _ _ h => h) (Or.inl ⟨by rfl, by intro w _; go_simp⟩) x8.box ?_
                  refine wpAnyH_take (i := 5) (v := ibV (win : Int) A2 ss2.length c2) rfl (by kernel_rfl) (by kernel_rfl) (by kernel_rfl) (fun _ _ _ h => h) (Or.inl ⟨by rfl, by intro w _; go_simp⟩) x8.box ?_
                  refine wpAnyH_take (i := 6) (v := .slice Ao out.length co) rfl (by kernel_rfl) (by kernel_rfl) (by kernel_rfl) (fun _ _ _ h => h) (Or.inl ⟨by rfl, by intro w _; go_simp⟩) x8.box ?_
                  refine wpAnyH_take (i := 7) (v := .int .i64 2) rfl (by kernel_rfl) (by kernel_rfl) (by kernel_rfl) (fun _ _ _ h => h) (Or.inl ⟨by rfl, by intro w _; go_simp⟩) x8.box ?_
                  refine wpAnyH_take (i := 8) (v := .int .i64 0) rfl (by kernel_rfl) (by kernel_rfl) (by kernel_rfl) (fun _ _ _ h => h) (Or.inl ⟨by rfl, by intro w _; go_simp⟩) x8.box ?_
                case' refine_1 =>
                  go_simp
                  go_at_call 19
                  refine (nbd_any ARN (q : Int) wv.drew).mono ?_
                  rintro e w6 ⟨rfl, hb_w6⟩
                  try go_simp
                  have x6 := hD.below hb_w6
                  have hb56 := onward bD hb_w6
                  refine hK _ _ ⟨x6.box, ?_⟩
                  clear hK K
                  refine wpAnyH_two (i := 3) (j := 9) (by kernel_rfl) rfl rfl (fun K hK => ?_) (fun K hK => ?_)
                  case' refine_1 =>
                    go_simp
                    go_at_call 18
                    refine (ord_rcv (unhide HO) h1 h2 h3 w8 hb56 ((unhide HKo).keep hb56) hv).mono ?_
                    rintro e w7 ⟨A2, c2, ss2, Ao, co, out, s2, rfl, em, hpl, hcur, hom, hin, hinb, houtb, hb7⟩
                    try go_simp
                    have x7 := x6.below hb7
                    refine hK _ _ ⟨x7.box, ?_⟩
                    clear hK K
                    refine wpAnyH_take (i := 4) (v := .tuple #[ibV (win : Int) A2 ss2.length c2, .slice Ao out.length co, .int .i64 2, .int .i64 0]) rfl (by kernel_rfl) (by kernel_rfl) (by kernel_rfl) (fun _ _ _ h => h) (Or.inl ⟨by rfl, by intro w _; go_simp⟩) x7.box ?_
                    refine wpAnyH_take (i := 5) (v := ibV (win : Int) A2 ss2.length c2) rfl (by kernel_rfl) (by kernel_rfl) (by kernel_rfl) (fun _ _ _ h => h) (Or.inl ⟨by rfl, by intro w _; go_simp⟩) x7.box ?_
                    refine wpAnyH_take (i := 6) (v := .slice Ao out.length co) rfl (by kernel_rfl) (by kernel_rfl) (by kernel_rfl) (fun _ _ _ h => h) (Or.inl ⟨by rfl, by intro w _; go_simp⟩) x7.box ?_
                    refine wpAnyH_take (i := 7) (v := .int .i64 2) rfl (by kernel_rfl) (by kernel_rfl) (by kernel_rfl) (fun _ _ _ h => h) (Or.inl ⟨by rfl, by intro w _; go_simp⟩) x7.box ?_
                    refine wpAnyH_take (i := 8) (v := .int .i64 0) rfl (by kernel_rfl) (by kernel_rfl) (by kernel_rfl) (fun _ _ _ h => h) (Or.inl ⟨by rfl, by intro w _; go_simp⟩) x7.box ?_
                    refine wpAnyH_one (i := 9) (by kernel_rfl) rfl (fun K hK => ?_)
                    go_simp
                    obtain ⟨w8, hw8⟩ : ∃ w8 : World, w7.alloc (.cells #[.int .i64 0, .slice none 0 0] 46) = w8 := ⟨_, rfl⟩
                    obtain ⟨B6, hB6⟩ : ∃ B6, w7.heap.size = B6 := ⟨_, rfl⟩
                    have hb8 : Below w7.heap.size w7 w8 := by rw [← hw8]; exact (Below.refl _ _).alloc (Nat.le_refl _) _
                    have x8 := x7.below hb8
                    have hZ8 : w8.heap[B6]? = some (ibO 0 none 0 0) := by rw [← hw8, ← hB6]; exact heap_alloc_new w7 _
                    replace hin := hin.keep hb8
                    replace hinb := hinb.keep hb8
                    replace houtb := houtb.keep hb8
                    have hb58 : Below wv.heap.size wv w8 := onward (onward hb56 hb7) hb8
                    have hlB : wv.heap.size ≤ B6 := by have := (onward hb56 hb7).size; omega
                    refine hK _ _ ⟨by rw [hw8]; exact x8.box, ?_⟩
                    clear hK K
                    rw [hw8]
                  case' refine_2 =>
                    go_simp
                    obtain ⟨v6, hv6⟩ : ∃ v6 : World, w6.alloc (.cells #[.int .i64 0, .slice none 0 0] 46) = v6 := ⟨_, rfl⟩
                    obtain ⟨B6, hB6⟩ : ∃ B6, w6.heap.size = B6 := ⟨_, rfl⟩
                    have hbv : Below w6.heap.size w6 v6 := by rw [← hv6]; exact (Below.refl _ _).alloc (Nat.le_refl _) _
                    have hlB : wv.heap.size ≤ B6 := by have := hb56.size; omega
                    replace hb56 := onward hb56 hbv
                    replace x6 := x6.below hbv
                    have hZv : v6.heap[B6]? = some (ibO 0 none 0 0) := by rw [← hv6, ← hB6]; exact heap_alloc_new w6 _
                    have hBv : B6 < v6.heap.size := (Array.getElem?_eq_some_iff.1 hZv).1
                    refine hK _ _ ⟨by rw [hv6]; exact x6.box, ?_⟩
                    clear hK K
                    rw [hv6]
                    refine wpAnyH_one (i := 3) (by kernel_rfl) rfl (fun K hK => ?_)
                    go_simp
                    go_at_call 18
                    refine (ord_rcv (unhide HO) h1 h2 h3 w8 hb56 ((unhide HKo).keep hb56) hv).mono ?_
                    rintro e w8 ⟨A2, c2, ss2, Ao, co, out, s2, rfl, em, hpl, hcur, hom, hin, hinb, houtb, hb7⟩
                    try go_simp
                    have x8 := x6.below hb7
                    have hZ8 := (hb7.block _ hBv).trans hZv
                    refine hK _ _ ⟨x8.box, ?_⟩
                    clear hK K
                    have hb58 : Below wv.heap.size wv w8 := onward hb56 hb7
                    refine wpAnyH_take (i := 4) (v := .tuple #[ibV (win : Int) A2 ss2.length c2, .slice Ao out.length co, .int .i64 2, .int .i64 0]) rfl (by kernel_rfl) (by kernel_rfl) (by kernel_rfl) (fun _ _ _ h => h) (Or.inl ⟨by rfl, by intro w _; go_simp⟩) x8.box ?_
                    refine wpAnyH_take (i := 5) (v := ibV (win : Int) A2 ss2.length c2) rfl (by kernel_rfl) (by kernel_rfl) (by kernel_rfl) (fun _ _ _ h => h) (Or.inl ⟨by rfl, by intro w _; go_simp⟩) x8.box ?_
                    refine wpAnyH_take (i := 6) (v := .slice Ao out.length co) rfl (by kernel_rfl) (by kernel_rfl) (by kernel_rfl) (fun _ _ _ h => h) (Or.inl ⟨by rfl, by intro w _; go_simp⟩) x8.box ?_
                    refine wpAnyH_take (i := 7) (v := .int .i64 2) rfl (by kernel_rfl) (by kernel_rfl) (by kernel_rfl) (fun _ _ _ h => h) (Or.inl ⟨by rfl, by intro w _; go_simp⟩) x8.box ?_
                    refine wpAnyH_take (i := 8) (v := .int .i64 0) rfl (by kernel_rfl) (by kernel_rfl) (by kernel_rfl) (fun _ _ _ h => h) (Or.inl ⟨by rfl, by intro w _; go_simp⟩) x8.box ?_
                all_goals
                  have hne : X ≠ B6 := by omega
                  have e0 : w8.cell? ⟨B6, 0, none⟩ = some (.int .i64 0) := by rw [Lib.cell_of_heap hZ8]; rfl
                  have e1 : w8.cell? ⟨B6, 1, none⟩ = some (.slice none 0 0) := by rw [Lib.cell_of_heap hZ8]; rfl
                  have f0 := Lib.frozen_of_heap hZ8 0
                  have f1 := Lib.frozen_of_heap hZ8 1
                  obtain ⟨w9, hw9⟩ : ∃ w9 : World, (w8.setCell ⟨B6, 0, none⟩ (.int .i64 (win : Int))).setCell ⟨B6, 1, none⟩ (.slice A2 ss2.length c2) = w9 := ⟨_, rfl⟩
                  have hg9 : w8.grownBy w9 (some B6) := by rw [← hw9]; exact Lib.grownBy_setB (Lib.grownBy_setB (World.grownBy.refl w8 (some B6)) 0 (.int .i64 (win : Int))) 1 (.slice A2 ss2.length c2)
                  have hY9 : w9.heap[B6]? = some (ibO (win : Int) A2 ss2.length c2) := by rw [← hw9, heap_setM _ (heap_setM _ hZ8)]; rfl
                  have x9 := x8.grown hne hZ8 hg9
                  have y9 := IBx.put hZ8 hin em hpl hg9 hY9
                  have hb59 : Below wv.heap.size wv w9 := by rw [← hw9]; exact (hb58.setCell (p := ⟨B6, 0, none⟩) hlB _).setCell (p := ⟨B6, 1, none⟩) hlB _
                  refine wpAnyH_one (i := 10) (by kernel_rfl) rfl (fun K hK => ?_)
                  go_simp
                  try rw [hw9]
                  refine hK _ _ ⟨x9.box, ?_⟩
                  clear hK K
                  refine wpAnyH_take (i := 11) (v := .slice Ao out.length co) rfl (by kernel_rfl) (by kernel_rfl) (by kernel_rfl) (fun _ _ _ h => h) (Or.inl ⟨by rfl, by intro w _; go_simp⟩) x9.box ?_
                  refine wpAnyH_take (i := 12) (v := .int .i64 2) rfl (by kernel_rfl) (by kernel_rfl) (by kernel_rfl) (fun _ _ _ h => h) (Or.inl ⟨by rfl, by intro w _; go_simp⟩) x9.box ?_
                  refine wpAnyH_take (i := 13) (v := .int .i64 0) rfl (by kernel_rfl) (by kernel_rfl) (by kernel_rfl) (fun _ _ _ h => h) (Or.inl ⟨by rfl, by intro w _; go_simp⟩) x9.box ?_
                  refine wpAnyH_done (by kernel_rfl) ?_ _
                all_goals
                  have hGl : G < wv.heap.size := (Array.getElem?_eq_some_iff.1 (unhide HO).arr).1
                  have hYG : B6 ≠ G := by omega
                  have hM := (unhide HO).mid (k := q) hb59 x9 y9 hinb houtb hom hZ8 hg9
                  go_simp
                  exact hXX1 w9 B6 A2 c2 ss2 Ao co out s2 hM hcur hYG
              intro w9 B6 A2 c2 ss2 Ao co out s2 hM hcur hYG
              have hrl := rel_len hM.om
              have hord := ordD_step (unhide HO).ord h1 h2
              have HCUR := hide hcur
              have HORD := hide hord
              have hnle := hord.hi
              have hpos : next ≤ n := hnx
              generalize relD D next q = r at *
              have cA : w9.cell? ⟨G, q, none⟩ = some (.bool false) := by rw [Lib.cell_of_heap hM.arr, doneA_at _ _ (by omega), hd]
              have fA := Lib.frozen_of_heap hM.arr q
              obtain ⟨wA, hwA⟩ : ∃ wA, w9.setCell ⟨G, q, none⟩ (.bool true) = wA := ⟨_, rfl⟩
              have hMA := hM.mark (unhide HBL) hYG q
              rw [hwA] at hMA
              have HMA := hide hMA
              have HPOS := hide hpos
              have HRL := hide hrl
              have HHV := hide hv
              have HHD := hide hd
              clear hMA hM hbx hcur hYG hord hpos hrl hv hd
              go_wp2_with fail
              clear cA fA hwA
              go_loopw [11, 19] (fun t i wr => ∃ j : Nat, j ≤ out.length ∧ t = .int .i64 ((next + j : Nat) : Int) ∧ i = .int .i64 j ∧ Hid (OrdM w X b G win next r (addD D q) B6 s2 A2 c2 ss2 Ao out wr)) (fun _ i _ => out.length - (intOf i).toNat)
              case atStart => exact ⟨0, Nat.zero_le _, rfl, rfl, HMA⟩
              case round =>
                obtain ⟨j, hj, rfl, rfl, HJ⟩ := hrel
                obtain ⟨wi, rfl⟩ : ∃ wi : World, wi = wr := ⟨_, rfl⟩
                clear HMA
                by_cases hlt : j < out.length
                · obtain ⟨g, off, rfl, -, hc, hl⟩ := (unhide HJ).outs.at hlt
                  have hm := rel_at (unhide HJ).om hlt
                  have jl : (j : Int) < (out.length : Int) := by omega
                  have j13 : j ≤ 13 := by have := unhide HRL; omega
                  generalize out.getD j ms0 = xx at *
                  have HD := hide (fun t : After wi => show Calls Tryd.prog 20 #[xx.v, (nbS ARN ((next + j : Nat) : Int)).v] t.to fun e w' => e = .returned (.bool true) ∧ Below t.to.heap.size t.to w' by
                    have e := rsame4_any b xx.m (nbd ARN ((next + j : Nat) : Int)) xx.P none xx.Q none xx.c 0 xx.d 0 t.to (by rw [hm]; exact Nat.zero_le _) (by rw [hm]; exact Nat.zero_le _) (hl.1.keep t.is) (LegsIn.nil _ _ _) (hl.2.keep t.is) (NumsIn.nil _ _ _)
                    rw [show sameM xx.m (nbd ARN ((next + j : Nat) : Int)) = true by rw [hm]; exact sameM_refl _] at e
                    exact e)
                  have HN := hide (fun t : After wi => nbd_any ARN ((next + j : Nat) : Int) t.to)
                  have HC := hide (fun (w' : World) (hw' : ∃ t : After wi, w' = t.to) => show ∀ i u, xx.arr[i]? = some u → w'.cell? ⟨g, off + j * 30 + i, none⟩ = some u by
                    obtain ⟨t, rfl⟩ := hw'
                    exact fun i u hu => After.cell (hc i u hu) t)
                  clear hc hl hm
                  go_wp2_with fail
                  refine wp_region_after (by kernel_rfl) (by kernel_rfl) ?_
                  repeat (go_big_quiet_step (fail))
                  refine BigFrame.wpQuiet_want rfl (fun K hK => ?_)
                  refine quiet_loadA _ rfl rfl (unhide HC) (hK _ ?_)
                  clear hK K
                  simp only [Act.put, List.setIfInBounds_toArray, List.set_cons_succ, List.set_cons_zero]
                  repeat (go_big_quiet_step (first | (go_at_call 19; exact After.call (unhide HN _)) | (go_at_call 20; exact After.call (unhide HD _))))
                  refine wpQuiet_nil ?_
                  rintro _ ⟨t, rfl⟩
                  have HT := hide t.is
                  generalize t.to = W3 at *
                  go_wp2
                  go_roundw
                  case rel => exact ⟨j + 1, by omega, by go_num, by go_num, Lib.hid ((unhide HJ).below (unhide HT))⟩
                  case measure => simp [intOf]; omega
                · have jl : ¬ (j : Int) < (out.length : Int) := by omega
                  obtain rfl : j = r := by have := unhide HRL; omega
                  have hXY := (unhide HJ).old
                  obtain ⟨A9, n9, c9, h9⟩ := hXY
                  have HX9 := hide h9
                  have HY9 := hide (unhide HJ).bx.box
                  have cN := (unhide HJ).arr
                  have hgap := (unhide HORD).gap
                  by_cases hle : next + j ≤ n
                  · have nle2 : ((next + j : Nat) : Int) ≤ (n : Int) := by omega
                    have n14 : ((next + j : Nat) : Int) < 14 := by omega
                    have cB : wi.cell? ⟨G, next + j, none⟩ = some (.bool false) := by rw [Lib.cell_of_heap cN, doneA_at _ _ (by omega), hgap]
                    clear h9 cN hgap
                    go_wp2_with (first
                      | (refine wpList_loadI (unhide HY9) rfl _ rfl rfl ?_)
                      | (refine wpList_storeI (unhide HX9) (win : Int) A2 ss2.length c2 rfl _ _ rfl rfl rfl rfl ?_))
                    go_roundw
                    case rel => exact ⟨k + 1, next + j, addD D q, s2, A2, c2, ss2, by omega, by omega, by omega, by omega, rfl, by go_num, Lib.hid ((unhide HJ).done (unhide HBL) (unhide HCUR) (unhide HORD))⟩
                    case measure => simp [intOf]; omega
                  · have nle2 : ¬ ((next + j : Nat) : Int) ≤ (n : Int) := by omega
                    clear h9 cN hgap
                    go_wp2_with (first
                      | (refine wpList_loadI (unhide HY9) rfl _ rfl rfl ?_)
                      | (refine wpList_storeI (unhide HX9) (win : Int) A2 ss2.length c2 rfl _ _ rfl rfl rfl rfl ?_))
                    go_roundw
                    case rel => exact ⟨k + 1, next + j, addD D q, s2, A2, c2, ss2, by omega, by omega, by omega, by omega, rfl, by go_num, Lib.hid ((unhide HJ).done (unhide HBL) (unhide HCUR) (unhide HORD))⟩
                    case measure => simp [intOf]; omega
        | false =>
          clear h1 h2 h3
          have h1 : 1 ≤ next := hnx0
          have h2 : next ≤ n := hnx
          have h3 : next < next + win := by omega
          have hd := (unhide HO).ord.gap
          go_wp2_with fail
          have hv : verD D next next = 1 := verD_one hd rfl
          have HKo := hide ((unhide HK).keep (unhide HO).bel)
          have hbx := (unhide HO).bx
          have kki14 : (next : Int) < 14 := by omega
          refine (fun (Y : World → Nat → Option Addr → Nat → List SnS → Option Addr → Nat → List MsS → Option Snd → Prop) (f : (∀ (w9 : World) (B6 : Nat) (A2 : Option Addr) (c2 : Nat) (ss2 : List SnS) (Ao : Option Addr) (co : Nat) (out : List MsS) (s2 : Option Snd), OrdM w X b G win next (relD D next next) D B6 s2 A2 c2 ss2 Ao out w9 → curS ARN s2 = sndD ARN (addD D next) (next + relD D next next) (14 - (next + relD D next next)) → B6 ≠ G → Y w9 B6 A2 c2 ss2 Ao co out s2) → _) (g : ∀ (w9 : World) (B6 : Nat) (A2 : Option Addr) (c2 : Nat) (ss2 : List SnS) (Ao : Option Addr) (co : Nat) (out : List MsS) (s2 : Option Snd), OrdM w X b G win next (relD D next next) D B6 s2 A2 c2 ss2 Ao out w9 → curS ARN s2 = sndD ARN (addD D next) (next + relD D next next) (14 - (next + relD D next next)) → B6 ≠ G → Y w9 B6 A2 c2 ss2 Ao co out s2) => f g) ?Y74 ?m74 ?r74
          case m74 =>
            intro hXX1
            have bD : Below wv.heap.size wv wv.drew := (Below.refl _ _).drew
            have hD := hbx.below bD
            have hXlt := hbx.lt
            refine wp_region_held (S := fun Z => Z.heap[X]? = some (ibO (win : Int) A ss.length c)) (by kernel_rfl) ?_
            refine wpAnyH_take (i := 0) (v := ibV (win : Int) A ss.length c) rfl (by kernel_rfl) (by kernel_rfl) (by kernel_rfl) (fun _ _ _ h => h) (yields_loadI _ rfl rfl rfl (fun _ h => h)) hD.box ?_
            refine wpAnyH_take (i := 1) (v := .int .i64 (next : Int)) rfl (by kernel_rfl) (by kernel_rfl) (by kernel_rfl) (fun _ _ _ h => h) (Or.inl ⟨by rfl, by intro w _; go_simp⟩) hD.box ?_

            refine wpAnyH_two (i := 2) (j := 9) (by kernel_rfl) rfl rfl (fun K hK => ?_) (fun K hK => ?_)
            case' refine_2 =>
              go_simp
              obtain ⟨v5, hv5⟩ : ∃ v5 : World, (wv.alloc (.cells #[.int .i64 0, .slice none 0 0] 46)).drew = v5 := ⟨_, rfl⟩
              obtain ⟨B6, hB6⟩ : ∃ B6, wv.heap.size = B6 := ⟨_, rfl⟩
              have hbv : Below wv.heap.size wv v5 := by rw [← hv5]; exact ((Below.refl _ _).alloc (Nat.le_refl _) _).drew
              have hZv : v5.heap[B6]? = some (ibO 0 none 0 0) := by rw [← hv5, ← hB6]; exact heap_alloc_new wv _
              have x5 := hbx.below hbv
              have hBv : B6 < v5.heap.size := (Array.getElem?_eq_some_iff.1 hZv).1
              refine hK _ _ ⟨by rw [hv5]; exact x5.box, ?_⟩
              clear hK K
              rw [hv5]
              refine wpAnyH_one (i := 2) (by kernel_rfl) rfl (fun K hK => ?_)
              go_simp
              go_at_call 19
              refine (nbd_any ARN (next : Int) v5).mono ?_
              rintro e w6 ⟨rfl, hb_w6⟩
              try go_simp
              have x6 := x5.below hb_w6
              have hZ6 := (hb_w6.block _ hBv).trans hZv
              have hb56 := onward hbv hb_w6
              have hB6l := Nat.lt_of_lt_of_le hBv hb_w6.size
              refine hK _ _ ⟨x6.box, ?_⟩
              clear hK K
              refine wpAnyH_one (i := 3) (by kernel_rfl) rfl (fun K hK => ?_)
              go_simp
              go_at_call 18
              refine (ord_rcv (unhide HO) h1 h2 h3 w8 hb56 ((unhide HKo).keep hb56) hv).mono ?_
              rintro e w8 ⟨A2, c2, ss2, Ao, co, out, s2, rfl, em, hpl, hcur, hom, hin, hinb, houtb, hb7⟩
              try go_simp
              have x8 := x6.below hb7
              have hZ8 := (hb7.block _ hB6l).trans hZ6
              refine hK _ _ ⟨x8.box, ?_⟩
              clear hK K
              have hb58 : Below wv.heap.size wv w8 := onward hb56 hb7
              have hlB : wv.heap.size ≤ B6 := Nat.le_of_eq hB6
              refine wpAnyH_take (i := 4) (v := .tuple #[ibV (win : Int) A2 ss2.length c2, .slice Ao out.length co, .int .i64 1, .int .i64 0]) rfl (by kernel_rfl) (by kernel_rfl) (by kernel_rfl) (fun _ _ _ h => h) (Or.inl ⟨by rfl, by intro w _; go_simp⟩) x8.box ?_
              refine wpAnyH_take (i := 5) (v := ibV (win : Int) A2 ss2.length c2) rfl (by kernel_rfl) (by kernel_rfl) (by kernel_rfl) (fun _ _ _ h => h) (Or.inl ⟨by rfl, by intro w _; go_simp⟩) x8.box ?_
              refine wpAnyH_take (i := 6) (v := .slice Ao out.length co) rfl (by kernel_rfl) (by kernel_rfl) (by kernel_rfl) (fun _ _ _ h => h) (Or.inl ⟨by rfl, by intro w _; go_simp⟩) x8.box ?_
              refine wpAnyH_take (i := 7) (v := .int .i64 1) rfl (by kernel_rfl) (by kernel_rfl) (by kernel_rfl) (fun _ _ _ h => h) (Or.inl ⟨by rfl, by intro w _; go_simp⟩) x8.box ?_
              refine wpAnyH_take (i := 8) (v := .int .i64 0) rfl (by kernel_rfl) (by kernel_rfl) (by kernel_rfl) (fun _ _ _ h => h) (Or.inl ⟨by rfl, by intro w _; go_simp⟩) x8.box ?_
            case' refine_1 =>
              go_simp
              go_at_call 19
              refine (nbd_any ARN (next : Int) wv.drew).mono ?_
              rintro e w6 ⟨rfl, hb_w6⟩
              try go_simp
              have x6 := hD.below hb_w6
              have hb56 := onward bD hb_w6
              refine hK _ _ ⟨x6.box, ?_⟩
              clear hK K
              refine wpAnyH_two (i := 3) (j := 9) (by kernel_rfl) rfl rfl (fun K hK => ?_) (fun K hK => ?_)
              case' refine_1 =>
                go_simp
                go_at_call 18
                refine (ord_rcv (unhide HO) h1 h2 h3 w8 hb56 ((unhide HKo).keep hb56) hv).mono ?_
                rintro e w7 ⟨A2, c2, ss2, Ao, co, out, s2, rfl, em, hpl, hcur, hom, hin, hinb, houtb, hb7⟩
                try go_simp
                have x7 := x6.below hb7
                refine hK _ _ ⟨x7.box, ?_⟩
                clear hK K
                refine wpAnyH_take (i := 4) (v := .tuple #[ibV (win : Int) A2 ss2.length c2, .slice Ao out.length co, .int .i64 1, .int .i64 0]) rfl (by kernel_rfl) (by kernel_rfl) (by kernel_rfl) (fun _ _ _ h => h) (Or.inl ⟨by rfl, by intro w _; go_simp⟩) x7.box ?_
                refine wpAnyH_take (i := 5) (v := ibV (win : Int) A2 ss2.length c2) rfl (by kernel_rfl) (by kernel_rfl) (by kernel_rfl) (fun _ _ _ h => h) (Or.inl ⟨by rfl, by intro w _; go_simp⟩) x7.box ?_
                refine wpAnyH_take (i := 6) (v := .slice Ao out.length co) rfl (by kernel_rfl) (by kernel_rfl) (by kernel_rfl) (fun _ _ _ h => h) (Or.inl ⟨by rfl, by intro w _; go_simp⟩) x7.box ?_
                refine wpAnyH_take (i := 7) (v := .int .i64 1) rfl (by kernel_rfl) (by kernel_rfl) (by kernel_rfl) (fun _ _ _ h => h) (Or.inl ⟨by rfl, by intro w _; go_simp⟩) x7.box ?_
                refine wpAnyH_take (i := 8) (v := .int .i64 0) rfl (by kernel_rfl) (by kernel_rfl) (by kernel_rfl) (fun _ _ _ h => h) (Or.inl ⟨by rfl, by intro w _; go_simp⟩) x7.box ?_
                refine wpAnyH_one (i := 9) (by kernel_rfl) rfl (fun K hK => ?_)
                go_simp
                obtain ⟨w8, hw8⟩ : ∃ w8 : World, w7.alloc (.cells #[.int .i64 0, .slice none 0 0] 46) = w8 := ⟨_, rfl⟩
                obtain ⟨B6, hB6⟩ : ∃ B6, w7.heap.size = B6 := ⟨_, rfl⟩
                have hb8 : Below w7.heap.size w7 w8 := by rw [← hw8]; exact (Below.refl _ _).alloc (Nat.le_refl _) _
                have x8 := x7.below hb8
                have hZ8 : w8.heap[B6]? = some (ibO 0 none 0 0) := by rw [← hw8, ← hB6]; exact heap_alloc_new w7 _
                replace hin := hin.keep hb8
                replace hinb := hinb.keep hb8
                replace houtb := houtb.keep hb8
                have hb58 : Below wv.heap.size wv w8 := onward (onward hb56 hb7) hb8
                have hlB : wv.heap.size ≤ B6 := by have := (onward hb56 hb7).size; omega
                refine hK _ _ ⟨by rw [hw8]; exact x8.box, ?_⟩
                clear hK K
                rw [hw8]
              case' refine_2 =>
                go_simp
                obtain ⟨v6, hv6⟩ : ∃ v6 : World, w6.alloc (.cells #[.int .i64 0, .slice none 0 0] 46) = v6 := ⟨_, rfl⟩
                obtain ⟨B6, hB6⟩ : ∃ B6, w6.heap.size = B6 := ⟨_, rfl⟩
                have hbv : Below w6.heap.size w6 v6 := by rw [← hv6]; exact (Below.refl _ _).alloc (Nat.le_refl _) _
                have hlB : wv.heap.size ≤ B6 := by have := hb56.size; omega
                replace hb56 := onward hb56 hbv
                replace x6 := x6.below hbv
                have hZv : v6.heap[B6]? = some (ibO 0 none 0 0) := by rw [← hv6, ← hB6]; exact heap_alloc_new w6 _
                have hBv : B6 < v6.heap.size := (Array.getElem?_eq_some_iff.1 hZv).1
                refine hK _ _ ⟨by rw [hv6]; exact x6.box, ?_⟩
                clear hK K
                rw [hv6]
                refine wpAnyH_one (i := 3) (by kernel_rfl) rfl (fun K hK => ?_)
                go_simp
                go_at_call 18
                refine (ord_rcv (unhide HO) h1 h2 h3 w8 hb56 ((unhide HKo).keep hb56) hv).mono ?_
                rintro e w8 ⟨A2, c2, ss2, Ao, co, out, s2, rfl, em, hpl, hcur, hom, hin, hinb, houtb, hb7⟩
                try go_simp
                have x8 := x6.below hb7
                have hZ8 := (hb7.block _ hBv).trans hZv
                refine hK _ _ ⟨x8.box, ?_⟩
                clear hK K
                have hb58 : Below wv.heap.size wv w8 := onward hb56 hb7
                refine wpAnyH_take (i := 4) (v := .tuple #[ibV (win : Int) A2 ss2.length c2, .slice Ao out.length co, .int .i64 1, .int .i64 0]) rfl (by kernel_rfl) (by kernel_rfl) (by kernel_rfl) (fun _ _ _ h => h) (Or.inl ⟨by rfl, by intro w _; go_simp⟩) x8.box ?_
                refine wpAnyH_take (i := 5) (v := ibV (win : Int) A2 ss2.length c2) rfl (by kernel_rfl) (by kernel_rfl) (by kernel_rfl) (fun _ _ _ h => h) (Or.inl ⟨by rfl, by intro w _; go_simp⟩) x8.box ?_
                refine wpAnyH_take (i := 6) (v := .slice Ao out.length co) rfl (by kernel_rfl) (by kernel_rfl) (by kernel_rfl) (fun _ _ _ h => h) (Or.inl ⟨by rfl, by intro w _; go_simp⟩) x8.box ?_
                refine wpAnyH_take (i := 7) (v := .int .i64 1) rfl (by kernel_rfl) (by kernel_rfl) (by kernel_rfl) (fun _ _ _ h => h) (Or.inl ⟨by rfl, by intro w _; go_simp⟩) x8.box ?_
                refine wpAnyH_take (i := 8) (v := .int .i64 0) rfl (by kernel_rfl) (by kernel_rfl) (by kernel_rfl) (fun _ _ _ h => h) (Or.inl ⟨by rfl, by intro w _; go_simp⟩) x8.box ?_
            all_goals
              have hne : X ≠ B6 := by omega
              have e0 : w8.cell? ⟨B6, 0, none⟩ = some (.int .i64 0) := by rw [Lib.cell_of_heap hZ8]; rfl
              have e1 : w8.cell? ⟨B6, 1, none⟩ = some (.slice none 0 0) := by rw [Lib.cell_of_heap hZ8]; rfl
              have f0 := Lib.frozen_of_heap hZ8 0
              have f1 := Lib.frozen_of_heap hZ8 1
              obtain ⟨w9, hw9⟩ : ∃ w9 : World, (w8.setCell ⟨B6, 0, none⟩ (.int .i64 (win : Int))).setCell ⟨B6, 1, none⟩ (.slice A2 ss2.length c2) = w9 := ⟨_, rfl⟩
              have hg9 : w8.grownBy w9 (some B6) := by rw [← hw9]; exact Lib.grownBy_setB (Lib.grownBy_setB (World.grownBy.refl w8 (some B6)) 0 (.int .i64 (win : Int))) 1 (.slice A2 ss2.length c2)
              have hY9 : w9.heap[B6]? = some (ibO (win : Int) A2 ss2.length c2) := by rw [← hw9, heap_setM _ (heap_setM _ hZ8)]; rfl
              have x9 := x8.grown hne hZ8 hg9
              have y9 := IBx.put hZ8 hin em hpl hg9 hY9
              have hb59 : Below wv.heap.size wv w9 := by rw [← hw9]; exact (hb58.setCell (p := ⟨B6, 0, none⟩) hlB _).setCell (p := ⟨B6, 1, none⟩) hlB _
              refine wpAnyH_one (i := 10) (by kernel_rfl) rfl (fun K hK => ?_)
              go_simp
              try rw [hw9]
              refine hK _ _ ⟨x9.box, ?_⟩
              clear hK K
              refine wpAnyH_take (i := 11) (v := .slice Ao out.length co) rfl (by kernel_rfl) (by kernel_rfl) (by kernel_rfl) (fun _ _ _ h => h) (Or.inl ⟨by rfl, by intro w _; go_simp⟩) x9.box ?_
              refine wpAnyH_take (i := 12) (v := .int .i64 1) rfl (by kernel_rfl) (by kernel_rfl) (by kernel_rfl) (fun _ _ _ h => h) (Or.inl ⟨by rfl, by intro w _; go_simp⟩) x9.box ?_
              refine wpAnyH_take (i := 13) (v := .int .i64 0) rfl (by kernel_rfl) (by kernel_rfl) (by kernel_rfl) (fun _ _ _ h => h) (Or.inl ⟨by rfl, by intro w _; go_simp⟩) x9.box ?_
              refine wpAnyH_done (by kernel_rfl) ?_ _
            all_goals
              have hGl : G < wv.heap.size := (Array.getElem?_eq_some_iff.1 (unhide HO).arr).1
              have hYG : B6 ≠ G := by omega
              have hM := (unhide HO).mid (k := next) hb59 x9 y9 hinb houtb hom hZ8 hg9
              go_simp
              exact hXX1 w9 B6 A2 c2 ss2 Ao co out s2 hM hcur hYG
          intro w9 B6 A2 c2 ss2 Ao co out s2 hM hcur hYG
          have hrl := rel_len hM.om
          have hord := ordD_step (unhide HO).ord h1 h2
          have HCUR := hide hcur
          have HORD := hide hord
          have hnle := hord.hi
          have hpos : 1 ≤ relD D next next := rel_pos (unhide HO).ord hnx
          generalize relD D next next = r at *
          have cA : w9.cell? ⟨G, next, none⟩ = some (.bool false) := by rw [Lib.cell_of_heap hM.arr, doneA_at _ _ (by omega), hd]
          have fA := Lib.frozen_of_heap hM.arr next
          obtain ⟨wA, hwA⟩ : ∃ wA, w9.setCell ⟨G, next, none⟩ (.bool true) = wA := ⟨_, rfl⟩
          have hMA := hM.mark (unhide HBL) hYG next
          rw [hwA] at hMA
          have HMA := hide hMA
          have HPOS := hide hpos
          have HRL := hide hrl
          have HHV := hide hv
          have HHD := hide hd
          clear hMA hM hbx hcur hYG hord hpos hrl hv hd
          go_wp2_with fail
          clear cA fA hwA
          go_loopw [11, 19] (fun t i wr => ∃ j : Nat, j ≤ out.length ∧ t = .int .i64 ((next + j : Nat) : Int) ∧ i = .int .i64 j ∧ Hid (OrdM w X b G win next r (addD D next) B6 s2 A2 c2 ss2 Ao out wr)) (fun _ i _ => out.length - (intOf i).toNat)
          case atStart => exact ⟨0, Nat.zero_le _, rfl, rfl, HMA⟩
          case round =>
            obtain ⟨j, hj, rfl, rfl, HJ⟩ := hrel
            obtain ⟨wi, rfl⟩ : ∃ wi : World, wi = wr := ⟨_, rfl⟩
            clear HMA
            by_cases hlt : j < out.length
            · obtain ⟨g, off, rfl, -, hc, hl⟩ := (unhide HJ).outs.at hlt
              have hm := rel_at (unhide HJ).om hlt
              have jl : (j : Int) < (out.length : Int) := by omega
              have j13 : j ≤ 13 := by have := unhide HRL; omega
              generalize out.getD j ms0 = xx at *
              have HD := hide (fun t : After wi => show Calls Tryd.prog 20 #[xx.v, (nbS ARN ((next + j : Nat) : Int)).v] t.to fun e w' => e = .returned (.bool true) ∧ Below t.to.heap.size t.to w' by
                have e := rsame4_any b xx.m (nbd ARN ((next + j : Nat) : Int)) xx.P none xx.Q none xx.c 0 xx.d 0 t.to (by rw [hm]; exact Nat.zero_le _) (by rw [hm]; exact Nat.zero_le _) (hl.1.keep t.is) (LegsIn.nil _ _ _) (hl.2.keep t.is) (NumsIn.nil _ _ _)
                rw [show sameM xx.m (nbd ARN ((next + j : Nat) : Int)) = true by rw [hm]; exact sameM_refl _] at e
                exact e)
              have HN := hide (fun t : After wi => nbd_any ARN ((next + j : Nat) : Int) t.to)
              have HC := hide (fun (w' : World) (hw' : ∃ t : After wi, w' = t.to) => show ∀ i u, xx.arr[i]? = some u → w'.cell? ⟨g, off + j * 30 + i, none⟩ = some u by
                obtain ⟨t, rfl⟩ := hw'
                exact fun i u hu => After.cell (hc i u hu) t)
              clear hc hl hm
              go_wp2_with fail
              refine wp_region_after (by kernel_rfl) (by kernel_rfl) ?_
              repeat (go_big_quiet_step (fail))
              refine BigFrame.wpQuiet_want rfl (fun K hK => ?_)
              refine quiet_loadA _ rfl rfl (unhide HC) (hK _ ?_)
              clear hK K
              simp only [Act.put, List.setIfInBounds_toArray, List.set_cons_succ, List.set_cons_zero]
              repeat (go_big_quiet_step (first | (go_at_call 19; exact After.call (unhide HN _)) | (go_at_call 20; exact After.call (unhide HD _))))
              refine wpQuiet_nil ?_
              rintro _ ⟨t, rfl⟩
              have HT := hide t.is
              generalize t.to = W3 at *
              go_wp2
              go_roundw
              case rel => exact ⟨j + 1, by omega, by go_num, by go_num, Lib.hid ((unhide HJ).below (unhide HT))⟩
              case measure => simp [intOf]; omega
            · have jl : ¬ (j : Int) < (out.length : Int) := by omega
              obtain rfl : j = r := by have := unhide HRL; omega
              have hXY := (unhide HJ).old
              obtain ⟨A9, n9, c9, h9⟩ := hXY
              have HX9 := hide h9
              have HY9 := hide (unhide HJ).bx.box
              have cN := (unhide HJ).arr
              have hgap := (unhide HORD).gap
              by_cases hle : next + j ≤ n
              · have nle2 : ((next + j : Nat) : Int) ≤ (n : Int) := by omega
                have n14 : ((next + j : Nat) : Int) < 14 := by omega
                have cB : wi.cell? ⟨G, next + j, none⟩ = some (.bool false) := by rw [Lib.cell_of_heap cN, doneA_at _ _ (by omega), hgap]
                clear h9 cN hgap
                go_wp2_with (first
                  | (refine wpList_loadI (unhide HY9) rfl _ rfl rfl ?_)
                  | (refine wpList_storeI (unhide HX9) (win : Int) A2 ss2.length c2 rfl _ _ rfl rfl rfl rfl ?_))
                go_roundw
                case rel => exact ⟨k + 1, next + j, addD D next, s2, A2, c2, ss2, by omega, by have := unhide HPOS; omega, by omega, by omega, rfl, by go_num, Lib.hid ((unhide HJ).done (unhide HBL) (unhide HCUR) (unhide HORD))⟩
                case measure => simp [intOf]; omega
              · have nle2 : ¬ ((next + j : Nat) : Int) ≤ (n : Int) := by omega
                clear h9 cN hgap
                go_wp2_with (first
                  | (refine wpList_loadI (unhide HY9) rfl _ rfl rfl ?_)
                  | (refine wpList_storeI (unhide HX9) (win : Int) A2 ss2.length c2 rfl _ _ rfl rfl rfl rfl ?_))
                go_roundw
                case rel => exact ⟨k + 1, next + j, addD D next, s2, A2, c2, ss2, by omega, by have := unhide HPOS; omega, by omega, by omega, rfl, by go_num, Lib.hid ((unhide HJ).done (unhide HBL) (unhide HCUR) (unhide HORD))⟩
                case measure => simp [intOf]; omega
      · have k40' : ¬ (k : Int) < 40 := by omega
        clear h1 h2 h3
        have HO := HQ
        clear HQ
        obtain ⟨wv, rfl⟩ : ∃ wv : World, wv = wq := ⟨_, rfl⟩
        have h1 : 1 ≤ next := hnx0
        have h2 : next ≤ n := hnx
        have h3 : next < next + win := by omega
        have hd := (unhide HO).ord.gap
        go_wp2_with fail
        have hv : verD D next next = 1 := verD_one hd rfl
        have HKo := hide ((unhide HK).keep (unhide HO).bel)
        have hbx := (unhide HO).bx
        have kki14 : (next : Int) < 14 := by omega
        refine (fun (Y : World → Nat → Option Addr → Nat → List SnS → Option Addr → Nat → List MsS → Option Snd → Prop) (f : (∀ (w9 : World) (B6 : Nat) (A2 : Option Addr) (c2 : Nat) (ss2 : List SnS) (Ao : Option Addr) (co : Nat) (out : List MsS) (s2 : Option Snd), OrdM w X b G win next (relD D next next) D B6 s2 A2 c2 ss2 Ao out w9 → curS ARN s2 = sndD ARN (addD D next) (next + relD D next next) (14 - (next + relD D next next)) → B6 ≠ G → Y w9 B6 A2 c2 ss2 Ao co out s2) → _) (g : ∀ (w9 : World) (B6 : Nat) (A2 : Option Addr) (c2 : Nat) (ss2 : List SnS) (Ao : Option Addr) (co : Nat) (out : List MsS) (s2 : Option Snd), OrdM w X b G win next (relD D next next) D B6 s2 A2 c2 ss2 Ao out w9 → curS ARN s2 = sndD ARN (addD D next) (next + relD D next next) (14 - (next + relD D next next)) → B6 ≠ G → Y w9 B6 A2 c2 ss2 Ao co out s2) => f g) ?Y75 ?m75 ?r75
        case m75 =>
          intro hXX1
          have bD : Below wv.heap.size wv wv.drew := (Below.refl _ _).drew
          have hD := hbx.below bD
          have hXlt := hbx.lt
          refine wp_region_held (S := fun Z => Z.heap[X]? = some (ibO (win : Int) A ss.length c)) (by kernel_rfl) ?_
          refine wpAnyH_take (i := 0) (v := ibV (win : Int) A ss.length c) rfl (by kernel_rfl) (by kernel_rfl) (by kernel_rfl) (fun _ _ _ h => h) (yields_loadI _ rfl rfl rfl (fun _ h => h)) hD.box ?_
          refine wpAnyH_take (i := 1) (v := .int .i64 (next : Int)) rfl (by kernel_rfl) (by kernel_rfl) (by kernel_rfl) (fun _ _ _ h => h) (Or.inl ⟨by rfl, by intro w _; go_simp⟩) hD.box ?_

          refine wpAnyH_two (i := 2) (j := 9) (by kernel_rfl) rfl rfl (fun K hK => ?_) (fun K hK => ?_)
          case' refine_2 =>
            go_simp
            obtain ⟨v5, hv5⟩ : ∃ v5 : World, (wv.alloc (.cells #[.int .i64 0, .slice none 0 0] 46)).drew = v5 := ⟨_, rfl⟩
            obtain ⟨B6, hB6⟩ : ∃ B6, wv.heap.size = B6 := ⟨_, rfl⟩
            have hbv : Below wv.heap.size wv v5 := by rw [← hv5]; exact ((Below.refl _ _).alloc (Nat.le_refl _) _).drew
            have hZv : v5.heap[B6]? = some (ibO 0 none 0 0) := by rw [← hv5, ← hB6]; exact heap_alloc_new wv _
            have x5 := hbx.below hbv
            have hBv : B6 < v5.heap.size := (Array.getElem?_eq_some_iff.1 hZv).1
            refine hK _ _ ⟨by rw [hv5]; exact x5.box, ?_⟩
            clear hK K
            rw [hv5]
            refine wpAnyH_one (i := 2) (by kernel_rfl) rfl (fun K hK => ?_)
            go_simp
            go_at_call 19
            refine (nbd_any ARN (next : Int) v5).mono ?_
            rintro e w6 ⟨rfl, hb_w6⟩
            try go_simp
            have x6 := x5.below hb_w6
            have hZ6 := (hb_w6.block _ hBv).trans hZv
            have hb56 := onward hbv hb_w6
            have hB6l := Nat.lt_of_lt_of_le hBv hb_w6.size
            refine hK _ _ ⟨x6.box, ?_⟩
            clear hK K
            refine wpAnyH_one (i := 3) (by kernel_rfl) rfl (fun K hK => ?_)
            go_simp
            go_at_call 18
            refine (ord_rcv (unhide HO) h1 h2 h3 w8 hb56 ((unhide HKo).keep hb56) hv).mono ?_
            rintro e w8 ⟨A2, c2, ss2, Ao, co, out, s2, rfl, em, hpl, hcur, hom, hin, hinb, houtb, hb7⟩
            try go_simp
            have x8 := x6.below hb7
            have hZ8 := (hb7.block _ hB6l).trans hZ6
            refine hK _ _ ⟨x8.box, ?_⟩
            clear hK K
            have hb58 : Below wv.heap.size wv w8 := onward hb56 hb7
            have hlB : wv.heap.size ≤ B6 := Nat.le_of_eq hB6
            refine wpAnyH_take (i := 4) (v := .tuple #[ibV (win : Int) A2 ss2.length c2, .slice Ao out.length co, .int .i64 1, .int .i64 0]) rfl (by kernel_rfl) (by kernel_rfl) (by kernel_rfl) (fun _ _ _ h => h) (Or.inl ⟨by rfl, by intro w _; go_simp⟩) x8.box ?_
            refine wpAnyH_take (i := 5) (v := ibV (win : Int) A2 ss2.length c2) rfl (by kernel_rfl) (by kernel_rfl) (by kernel_rfl) (fun _ _ _ h => h) (Or.inl ⟨by rfl, by intro w _; go_simp⟩) x8.box ?_
            refine wpAnyH_take (i := 6) (v := .slice Ao out.length co) rfl (by kernel_rfl) (by kernel_rfl) (by kernel_rfl) (fun _ _ _ h => h) (Or.inl ⟨by rfl, by intro w _; go_simp⟩) x8.box ?_
            refine wpAnyH_take (i := 7) (v := .int .i64 1) rfl (by kernel_rfl) (by kernel_rfl) (by kernel_rfl) (fun _ _ _ h => h) (Or.inl ⟨by rfl, by intro w _; go_simp⟩) x8.box ?_
            refine wpAnyH_take (i := 8) (v := .int .i64 0) rfl (by kernel_rfl) (by kernel_rfl) (by kernel_rfl) (fun _ _ _ h => h) (Or.inl ⟨by rfl, by intro w _; go_simp⟩) x8.box ?_
          case' refine_1 =>
            go_simp
            go_at_call 19
            refine (nbd_any ARN (next : Int) wv.drew).mono ?_
            rintro e w6 ⟨rfl, hb_w6⟩
            try go_simp
            have x6 := hD.below hb_w6
            have hb56 := onward bD hb_w6
            refine hK _ _ ⟨x6.box, ?_⟩
            clear hK K
            refine wpAnyH_two (i := 3) (j := 9) (by kernel_rfl) rfl rfl (fun K hK => ?_) (fun K hK => ?_)
            case' refine_1 =>
              go_simp
              go_at_call 18
              refine (ord_rcv (unhide HO) h1 h2 h3 w8 hb56 ((unhide HKo).keep hb56) hv).mono ?_
              rintro e w7 ⟨A2, c2, ss2, Ao, co, out, s2, rfl, em, hpl, hcur, hom, hin, hinb, houtb, hb7⟩
              try go_simp
              have x7 := x6.below hb7
              refine hK _ _ ⟨x7.box, ?_⟩
              clear hK K
              refine wpAnyH_take (i := 4) (v := .tuple #[ibV (win : Int) A2 ss2.length c2, .slice Ao out.length co, .int .i64 1, .int .i64 0]) rfl (by kernel_rfl) (by kernel_rfl) (by kernel_rfl) (fun _ _ _ h => h) (Or.inl ⟨by rfl, by intro w _; go_simp⟩) x7.box ?_
              refine wpAnyH_take (i := 5) (v := ibV (win : Int) A2 ss2.length c2) rfl (by kernel_rfl) (by kernel_rfl) (by kernel_rfl) (fun _ _ _ h => h) (Or.inl ⟨by rfl, by intro w _; go_simp⟩) x7.box ?_
              refine wpAnyH_take (i := 6) (v := .slice Ao out.length co) rfl (by kernel_rfl) (by kernel_rfl) (by kernel_rfl) (fun _ _ _ h => h) (Or.inl ⟨by rfl, by intro w _; go_simp⟩) x7.box ?_
              refine wpAnyH_take (i := 7) (v := .int .i64 1) rfl (by kernel_rfl) (by kernel_rfl) (by kernel_rfl) (fun _ _ _ h => h) (Or.inl ⟨by rfl, by intro w _; go_simp⟩) x7.box ?_
              refine wpAnyH_take (i := 8) (v := .int .i64 0) rfl (by kernel_rfl) (by kernel_rfl) (by kernel_rfl) (fun _ _ _ h => h) (Or.inl ⟨by rfl, by intro w _; go_simp⟩) x7.box ?_
              refine wpAnyH_one (i := 9) (by kernel_rfl) rfl (fun K hK => ?_)
              go_simp
              obtain ⟨w8, hw8⟩ : ∃ w8 : World, w7.alloc (.cells #[.int .i64 0, .slice none 0 0] 46) = w8 := ⟨_, rfl⟩
              obtain ⟨B6, hB6⟩ : ∃ B6, w7.heap.size = B6 := ⟨_, rfl⟩
              have hb8 : Below w7.heap.size w7 w8 := by rw [← hw8]; exact (Below.refl _ _).alloc (Nat.le_refl _) _
              have x8 := x7.below hb8
              have hZ8 : w8.heap[B6]? = some (ibO 0 none 0 0) := by rw [← hw8, ← hB6]; exact heap_alloc_new w7 _
              replace hin := hin.keep hb8
              replace hinb := hinb.keep hb8
              replace houtb := houtb.keep hb8
              have hb58 : Below wv.heap.size wv w8 := onward (onward hb56 hb7) hb8
              have hlB : wv.heap.size ≤ B6 := by have := (onward hb56 hb7).size; omega
              refine hK _ _ ⟨by rw [hw8]; exact x8.box, ?_⟩
              clear hK K
              rw [hw8]
            case' refine_2 =>
              go_simp
              obtain ⟨v6, hv6⟩ : ∃ v6 : World, w6.alloc (.cells #[.int .i64 0, .slice none 0 0] 46) = v6 := ⟨_, rfl⟩
              obtain ⟨B6, hB6⟩ : ∃ B6, w6.heap.size = B6 := ⟨_, rfl⟩
              have hbv : Below w6.heap.size w6 v6 := by rw [← hv6]; exact (Below.refl _ _).alloc (Nat.le_refl _) _
              have hlB : wv.heap.size ≤ B6 := by have := hb56.size; omega
              replace hb56 := onward hb56 hbv
              replace x6 := x6.below hbv
              have hZv : v6.heap[B6]? = some (ibO 0 none 0 0) := by rw [← hv6, ← hB6]; exact heap_alloc_new w6 _
              have hBv : B6 < v6.heap.size := (Array.getElem?_eq_some_iff.1 hZv).1
              refine hK _ _ ⟨by rw [hv6]; exact x6.box, ?_⟩
              clear hK K
              rw [hv6]
              refine wpAnyH_one (i := 3) (by kernel_rfl) rfl (fun K hK => ?_)
              go_simp
              go_at_call 18
              refine (ord_rcv (unhide HO) h1 h2 h3 w8 hb56 ((unhide HKo).keep hb56) hv).mono ?_
              rintro e w8 ⟨A2, c2, ss2, Ao, co, out, s2, rfl, em, hpl, hcur, hom, hin, hinb, houtb, hb7⟩
              try go_simp
              have x8 := x6.below hb7
              have hZ8 := (hb7.block _ hBv).trans hZv
              refine hK _ _ ⟨x8.box, ?_⟩
              clear hK K
              have hb58 : Below wv.heap.size wv w8 := onward hb56 hb7
              refine wpAnyH_take (i := 4) (v := .tuple #[ibV (win : Int) A2 ss2.length c2, .slice Ao out.length co, .int .i64 1, .int .i64 0]) rfl (by kernel_rfl) (by kernel_rfl) (by kernel_rfl) (fun _ _ _ h => h) (Or.inl ⟨by rfl, by intro w _; go_simp⟩) x8.box ?_
              refine wpAnyH_take (i := 5) (v := ibV (win : Int) A2 ss2.length c2) rfl (by kernel_rfl) (by kernel_rfl) (by kernel_rfl) (fun _ _ _ h => h) (Or.inl ⟨by rfl, by intro w _; go_simp⟩) x8.box ?_
              refine wpAnyH_take (i := 6) (v := .slice Ao out.length co) rfl (by kernel_rfl) (by kernel_rfl) (by kernel_rfl) (fun _ _ _ h => h) (Or.inl ⟨by rfl, by intro w _; go_simp⟩) x8.box ?_
              refine wpAnyH_take (i := 7) (v := .int .i64 1) rfl (by kernel_rfl) (by kernel_rfl) (by kernel_rfl) (fun _ _ _ h => h) (Or.inl ⟨by rfl, by intro w _; go_simp⟩) x8.box ?_
              refine wpAnyH_take (i := 8) (v := .int .i64 0) rfl (by kernel_rfl) (by kernel_rfl) (by kernel_rfl) (fun _ _ _ h => h) (Or.inl ⟨by rfl, by intro w _; go_simp⟩) x8.box ?_
          all_goals
            have hne : X ≠ B6 := by omega
            have e0 : w8.cell? ⟨B6, 0, none⟩ = some (.int .i64 0) := by rw [Lib.cell_of_heap hZ8]; rfl
            have e1 : w8.cell? ⟨B6, 1, none⟩ = some (.slice none 0 0) := by rw [Lib.cell_of_heap hZ8]; rfl
            have f0 := Lib.frozen_of_heap hZ8 0
            have f1 := Lib.frozen_of_heap hZ8 1
            obtain ⟨w9, hw9⟩ : ∃ w9 : World, (w8.setCell ⟨B6, 0, none⟩ (.int .i64 (win : Int))).setCell ⟨B6, 1, none⟩ (.slice A2 ss2.length c2) = w9 := ⟨_, rfl⟩
            have hg9 : w8.grownBy w9 (some B6) := by rw [← hw9]; exact Lib.grownBy_setB (Lib.grownBy_setB (World.grownBy.refl w8 (some B6)) 0 (.int .i64 (win : Int))) 1 (.slice A2 ss2.length c2)
            have hY9 : w9.heap[B6]? = some (ibO (win : Int) A2 ss2.length c2) := by rw [← hw9, heap_setM _ (heap_setM _ hZ8)]; rfl
            have x9 := x8.grown hne hZ8 hg9
            have y9 := IBx.put hZ8 hin em hpl hg9 hY9
            have hb59 : Below wv.heap.size wv w9 := by rw [← hw9]; exact (hb58.setCell (p := ⟨B6, 0, none⟩) hlB _).setCell (p := ⟨B6, 1, none⟩) hlB _
            refine wpAnyH_one (i := 10) (by kernel_rfl) rfl (fun K hK => ?_)
            go_simp
            try rw [hw9]
            refine hK _ _ ⟨x9.box, ?_⟩
            clear hK K
            refine wpAnyH_take (i := 11) (v := .slice Ao out.length co) rfl (by kernel_rfl) (by kernel_rfl) (by kernel_rfl) (fun _ _ _ h => h) (Or.inl ⟨by rfl, by intro w _; go_simp⟩) x9.box ?_
            refine wpAnyH_take (i := 12) (v := .int .i64 1) rfl (by kernel_rfl) (by kernel_rfl) (by kernel_rfl) (fun _ _ _ h => h) (Or.inl ⟨by rfl, by intro w _; go_simp⟩) x9.box ?_
            refine wpAnyH_take (i := 13) (v := .int .i64 0) rfl (by kernel_rfl) (by kernel_rfl) (by kernel_rfl) (fun _ _ _ h => h) (Or.inl ⟨by rfl, by intro w _; go_simp⟩) x9.box ?_
            refine wpAnyH_done (by kernel_rfl) ?_ _
          all_goals
            have hGl : G < wv.heap.size := (Array.getElem?_eq_some_iff.1 (unhide HO).arr).1
            have hYG : B6 ≠ G := by omega
            have hM := (unhide HO).mid (k := next) hb59 x9 y9 hinb houtb hom hZ8 hg9
            go_simp
            exact hXX1 w9 B6 A2 c2 ss2 Ao co out s2 hM hcur hYG
        intro w9 B6 A2 c2 ss2 Ao co out s2 hM hcur hYG
        have hrl := rel_len hM.om
        have hord := ordD_step (unhide HO).ord h1 h2
        have HCUR := hide hcur
        have HORD := hide hord
        have hnle := hord.hi
        have hpos : 1 ≤ relD D next next := rel_pos (unhide HO).ord hnx
        generalize relD D next next = r at *
        have cA : w9.cell? ⟨G, next, none⟩ = some (.bool false) := by rw [Lib.cell_of_heap hM.arr, doneA_at _ _ (by omega), hd]
        have fA := Lib.frozen_of_heap hM.arr next
        obtain ⟨wA, hwA⟩ : ∃ wA, w9.setCell ⟨G, next, none⟩ (.bool true) = wA := ⟨_, rfl⟩
        have hMA := hM.mark (unhide HBL) hYG next
        rw [hwA] at hMA
        have HMA := hide hMA
        have HPOS := hide hpos
        have HRL := hide hrl
        have HHV := hide hv
        have HHD := hide hd
        clear hMA hM hbx hcur hYG hord hpos hrl hv hd
        go_wp2_with fail
        clear cA fA hwA
        go_loopw [11, 19] (fun t i wr => ∃ j : Nat, j ≤ out.length ∧ t = .int .i64 ((next + j : Nat) : Int) ∧ i = .int .i64 j ∧ Hid (OrdM w X b G win next r (addD D next) B6 s2 A2 c2 ss2 Ao out wr)) (fun _ i _ => out.length - (intOf i).toNat)
        case atStart => exact ⟨0, Nat.zero_le _, rfl, rfl, HMA⟩
        case round =>
          obtain ⟨j, hj, rfl, rfl, HJ⟩ := hrel
          obtain ⟨wi, rfl⟩ : ∃ wi : World, wi = wr := ⟨_, rfl⟩
          clear HMA
          by_cases hlt : j < out.length
          · obtain ⟨g, off, rfl, -, hc, hl⟩ := (unhide HJ).outs.at hlt
            have hm := rel_at (unhide HJ).om hlt
            have jl : (j : Int) < (out.length : Int) := by omega
            have j13 : j ≤ 13 := by have := unhide HRL; omega
            generalize out.getD j ms0 = xx at *
            have HD := hide (fun t : After wi => show Calls Tryd.prog 20 #[xx.v, (nbS ARN ((next + j : Nat) : Int)).v] t.to fun e w' => e = .returned (.bool true) ∧ Below t.to.heap.size t.to w' by
              have e := rsame4_any b xx.m (nbd ARN ((next + j : Nat) : Int)) xx.P none xx.Q none xx.c 0 xx.d 0 t.to (by rw [hm]; exact Nat.zero_le _) (by rw [hm]; exact Nat.zero_le _) (hl.1.keep t.is) (LegsIn.nil _ _ _) (hl.2.keep t.is) (NumsIn.nil _ _ _)
              rw [show sameM xx.m (nbd ARN ((next + j : Nat) : Int)) = true by rw [hm]; exact sameM_refl _] at e
              exact e)
            have HN := hide (fun t : After wi => nbd_any ARN ((next + j : Nat) : Int) t.to)
            have HC := hide (fun (w' : World) (hw' : ∃ t : After wi, w' = t.to) => show ∀ i u, xx.arr[i]? = some u → w'.cell? ⟨g, off + j * 30 + i, none⟩ = some u by
              obtain ⟨t, rfl⟩ := hw'
              exact fun i u hu => After.cell (hc i u hu) t)
            clear hc hl hm
            go_wp2_with fail
            refine wp_region_after (by kernel_rfl) (by kernel_rfl) ?_
            repeat (go_big_quiet_step (fail))
            refine BigFrame.wpQuiet_want rfl (fun K hK => ?_)
            refine quiet_loadA _ rfl rfl (unhide HC) (hK _ ?_)
            clear hK K
            simp only [Act.put, List.setIfInBounds_toArray, List.set_cons_succ, List.set_cons_zero]
            repeat (go_big_quiet_step (first | (go_at_call 19; exact After.call (unhide HN _)) | (go_at_call 20; exact After.call (unhide HD _))))
            refine wpQuiet_nil ?_
            rintro _ ⟨t, rfl⟩
            have HT := hide t.is
            generalize t.to = W3 at *
            go_wp2
            go_roundw
            case rel => exact ⟨j + 1, by omega, by go_num, by go_num, Lib.hid ((unhide HJ).below (unhide HT))⟩
            case measure => simp [intOf]; omega
          · have jl : ¬ (j : Int) < (out.length : Int) := by omega
            obtain rfl : j = r := by have := unhide HRL; omega
            have hXY := (unhide HJ).old
            obtain ⟨A9, n9, c9, h9⟩ := hXY
            have HX9 := hide h9
            have HY9 := hide (unhide HJ).bx.box
            have cN := (unhide HJ).arr
            have hgap := (unhide HORD).gap
            by_cases hle : next + j ≤ n
            · have nle2 : ((next + j : Nat) : Int) ≤ (n : Int) := by omega
              have n14 : ((next + j : Nat) : Int) < 14 := by omega
              have cB : wi.cell? ⟨G, next + j, none⟩ = some (.bool false) := by rw [Lib.cell_of_heap cN, doneA_at _ _ (by omega), hgap]
              clear h9 cN hgap
              go_wp2_with (first
                | (refine wpList_loadI (unhide HY9) rfl _ rfl rfl ?_)
                | (refine wpList_storeI (unhide HX9) (win : Int) A2 ss2.length c2 rfl _ _ rfl rfl rfl rfl ?_))
              go_roundw
              case rel => exact ⟨k + 1, next + j, addD D next, s2, A2, c2, ss2, by omega, by have := unhide HPOS; omega, by omega, by omega, rfl, by go_num, Lib.hid ((unhide HJ).done (unhide HBL) (unhide HCUR) (unhide HORD))⟩
              case measure => simp [intOf]; omega
            · have nle2 : ¬ ((next + j : Nat) : Int) ≤ (n : Int) := by omega
              clear h9 cN hgap
              go_wp2_with (first
                | (refine wpList_loadI (unhide HY9) rfl _ rfl rfl ?_)
                | (refine wpList_storeI (unhide HX9) (win : Int) A2 ss2.length c2 rfl _ _ rfl rfl rfl rfl ?_))
              go_roundw
              case rel => exact ⟨k + 1, next + j, addD D next, s2, A2, c2, ss2, by omega, by have := unhide HPOS; omega, by omega, by omega, rfl, by go_num, Lib.hid ((unhide HJ).done (unhide HBL) (unhide HCUR) (unhide HORD))⟩
              case measure => simp [intOf]; omega
    · have nle : ¬ (next : Int) ≤ (n : Int) := by omega
      have eqn : next = n + 1 := by omega
      have e1 : ((next : Int) == (n : Int) + 1) = true := by rw [beq_iff_eq]; omega
      have hXB := (unhide HP).bx.box
      have HM := hide (ord_missing (unhide HP) eqn)
      have x0 : wo.cell? ⟨X, 0, none⟩ = some (.int .i64 (win : Int)) := by rw [Lib.cell_of_heap hXB]; rfl
      have x1 : wo.cell? ⟨X, 1, none⟩ = some (.slice A ss.length c) := by rw [Lib.cell_of_heap hXB]; rfl
      clear hXB eqn
      have k60 : (k : Int) < 60 := by omega
      go_wp2_with (first
        | (go_at_call 21; refine (unhide HM).mono ?_; rintro e wm ⟨rfl, hbm⟩; have HBM := hide (onward (unhide HP).bel hbm); clear hbm)
        | (go_at_call 22; refine (awake_inb _ ((unhide HK).keep (unhide HBM))).mono ?_; rintro e wz ⟨rfl, hbz⟩; have HBZ := hide (onward (unhide HBM) hbz); clear hbz))
      go_ret
      exact ⟨rfl, unhide HBZ⟩
theorem order_law (x : Int) (_wx : (Lit.int .i64 x).wf = true) (y : Int) (_wy : (Lit.int .i64 y).wf = true) (A0 : Option Addr) (len cap : Nat) {w : World} (hcap : len ≤ cap) (hA : IntsIn w.heap.size w A0 len) (hK : Keys w) :
    Calls Tryd.prog 4 #[.int .i64 x, .int .i64 y, .slice A0 len cap] w fun e w' => e = .returned (.bool true) ∧ Below w.heap.size w w' := order_any x y A0 len cap w hcap hA hK
end Go.Proofs.YtcjdjdganaokfaaDoor
