/-
  InboxSenders: the walk.
-/
import Derived.Test.YtcjdjdganaokfaaDoorInbZ
import Derived.Test.YtcjdjdganaokfaaDoorInbP
namespace Go.Proofs.YtcjdjdganaokfaaDoor
open Go.RowKit

/-- The missing numbers of a sender, if it is known and holds a message. -/
def missA (s : Option Snd) : List Int := match s with
  | none => []
  | some u => if u.held.length = 0 then [] else missL u
theorem missA_len (s : Option Snd) : (missA s).length ≤ 8 := by
  cases s with
  | none => exact Nat.zero_le _
  | some u =>
    unfold missA
    simp only []
    split
    · exact Nat.zero_le _
    · exact missN_len _ _ _
theorem miss_mid (b : Nat) (win : Int) (A : Option Addr) (c : Nat) (ss : List SnS) (p : ByteArray) (pre post : List Snd) (s : Option Snd) (w : World) (h : SndsIn b w A ss) (hs : ss.map SnS.mod = pre ++ (s.toList ++ post)) (h1 : Mid p pre s post) (hb : b < w.heap.size) :
    Calls Tryd.prog 21 #[ibV win A ss.length c, .string p] w fun e w' => ∃ (A' : Option Addr) (c' : Nat), e = .returned (.slice A' (missA s).length c') ∧ NumsIn b w' A' (missA s) ∧ Below w.heap.size w w' := by
  have hlb : lbF (portC p) ss = pre.length := by rw [portC_lb, hs]; exact h1.lb
  have hhas : hasF (portC p) ss = s.isSome := by rw [portC_has, hs]; exact h1.has
  have hmono : MonoF (portC p) ss sn0 := by
    refine mono_map (portM p) SnS.mod ss sn0 ?_
    rw [hs]
    exact mono_mid _ h1.lo h1.rest
  have hlen : ss.length ≤ 1000000 := by
    have e1 := congrArg List.length hs
    rw [List.length_map, List.length_append, List.length_append] at e1
    have e2 := h1.len
    have e3 : s.toList.length ≤ 1 := by cases s <;> simp
    omega
  cases s with
  | none =>
    refine (imiss_none b win A c ss p w h hlen hmono (by unfold holdsF; rw [hhas]; rfl)).mono ?_
    rintro e w' ⟨rfl, hb'⟩
    exact ⟨none, 0, rfl, NumsIn.nil _ _ _, hb'⟩
  | some u =>
    have hmod : (ss.getD (lbF (portC p) ss) sn0).mod = u := by
      have e := getD_map' SnS.mod ss (lbF (portC p) ss) sn0
      rw [← e, hlb, hs, List.getD_eq_getElem?_getD, List.getElem?_append_right (Nat.le_refl _), Nat.sub_self]
      rfl
    have T : Tame u := h1.tame u (by simp)
    have hheld : (ss.getD (lbF (portC p) ss) sn0).held.map (fun x : MsS => x.m) = u.held := congrArg Snd.held hmod
    have hnext : (ss.getD (lbF (portC p) ss) sn0).next = u.next := congrArg Snd.next hmod
    have hhl : (ss.getD (lbF (portC p) ss) sn0).held.length = u.held.length := by have := congrArg List.length hheld; rwa [List.length_map] at this
    by_cases hz : u.held.length = 0
    · refine (imiss_none b win A c ss p w h hlen hmono (by unfold holdsF; rw [hhas, hhl, hz]; rfl)).mono ?_
      rintro e w' ⟨rfl, hb'⟩
      have e0 : missA (some u) = [] := by unfold missA; simp only []; rw [if_pos hz]
      rw [e0]
      exact ⟨none, 0, rfl, NumsIn.nil _ _ _, hb'⟩
    · have e0 : missA (some u) = missL u := by unfold missA; simp only []; rw [if_neg hz]
      have t1 := T.len
      have t2 := T.n1
      have t3 := T.n2
      rw [e0]
      refine (imiss_some b win A c ss p w h hlen hmono (by unfold holdsF; rw [hhas, hhl, decide_eq_true (Nat.pos_of_ne_zero hz)]; rfl) hb (by omega) (fun t => ?_) (by omega) (by omega)).mono ?_
      · refine mono_map (numM t) (fun x : MsS => x.m) _ ms0 ?_
        rw [hheld]
        exact T.asc.mono _ _
      · rintro e w' ⟨A', c', rfl, h1, h2⟩
        rw [hmod] at h1 ⊢
        exact ⟨A', c', rfl, h1, h2⟩

set_option maxHeartbeats 16000000 in
set_option maxRecDepth 100000 in
theorem senders_any (A0 : Option Addr) (len cap : Nat) (w : World) (hcap : len ≤ cap) (hA : IntsIn w.heap.size w A0 len) (hK : Keys w) :
    Calls Tryd.prog 5 #[.slice A0 len cap] w fun e w' => e = .returned (.bool true) ∧ Below w.heap.size w w' := by
  have HK := hide hK
  clear hK
  go_enter Tryd.func5, Tryd.ntmps5
  go_wp2_with fail
  refine (new_at w.heap.size A0 len cap w (Nat.le_refl _) hcap hA).mono ?_
  rintro e w1 ⟨rfl, hs1, hb1⟩
  have HS1 := hide hs1
  have HB1 := hide hb1
  clear hs1 hb1 hA
  go_wp2_with fail
  refine (inew_ok 3 w1 (by decide) (by decide)).mono ?_
  rintro e w2 ⟨rfl, hb2⟩
  obtain ⟨W2, hW2⟩ : ∃ W2 : World, w2.alloc (ibO 3 none 0 0) = W2 := ⟨_, rfl⟩
  obtain ⟨W3, hW3⟩ : ∃ W3 : World, W2.alloc (ibO 3 none 0 0) = W3 := ⟨_, rfl⟩
  have b2 : Below w2.heap.size w2 W2 := by rw [← hW2]; exact (Below.refl _ _).alloc (Nat.le_refl _) _
  have b3 : Below W2.heap.size W2 W3 := by rw [← hW3]; exact (Below.refl _ _).alloc (Nat.le_refl _) _
  have hX2 : W2.heap[w2.heap.size]? = some (ibO 3 none 0 0) := by rw [← hW2]; exact heap_alloc_new w2 _
  have hZ3 : W3.heap[W2.heap.size]? = some (ibO 3 none 0 0) := by rw [← hW3]; exact heap_alloc_new W2 _
  have hX3 := (b3.block _ (Array.getElem?_eq_some_iff.1 hX2).1).trans hX2
  have b13 := onward (onward hb2 b2) b3
  have hbl : Blk3 w w.heap.size w2.heap.size W2.heap.size := ⟨Nat.le_refl _, by have := (unhide HS1).lt; have := hb2.size; omega, (Array.getElem?_eq_some_iff.1 hX2).1⟩
  have hT : TwoS w w.heap.size w2.heap.size W2.heap.size 0 none none none none 0 [] none 0 [] W3 :=
    ⟨hX3, hZ3, fun _ _ => SndsIn.nil _ _ _, fun _ _ => SndsIn.nil _ _ _, rfl, rfl, (fun _ h => by cases h), (fun _ h => by cases h), (fun _ h => by cases h), (fun _ h => by cases h), (fun _ h => by cases h), (fun _ h => by cases h), (unhide HS1).keep b13, onward (unhide HB1) b13⟩
  have HX2 := hide hX2
  have HT := hide hT
  have HBL := hide hbl
  clear hX2 hZ3 hX3 b13 b2 b3 hb2 hT hbl
  go_wp2_with (first
    | (refine wpList_storeI_new (g := w2.heap.size) rfl 3 none 0 0 rfl _ _ rfl rfl rfl rfl ?_)
    | (refine wpList_loadI (unhide HX2) rfl _ rfl rfl ?_)
    | (refine wpList_storeI_new (g := W2.heap.size) rfl 3 none 0 0 rfl _ _ rfl rfl rfl rfl ?_))
  clear hW2 hW3 HX2
  generalize w2.heap.size = X at *
  generalize W2.heap.size = Z at *
  go_loopw [7] (fun i wr => ∃ (k : Nat) (a c : Option Snd) (A : Option Addr) (n1 : Nat) (ss : List SnS) (A2 : Option Addr) (n2 : Nat) (ts : List SnS), k ≤ 30 ∧ i = .int .i64 k ∧ Hid (TwoS w w.heap.size X Z k a a c A n1 ss A2 n2 ts wr)) (fun i _ => 30 - (intOf i).toNat)
  case atStart => exact ⟨0, none, none, none, 0, [], none, 0, [], by omega, rfl, HT⟩
  case round =>
    obtain ⟨k, a, c, A, n1, ss, A2, n2, ts, hk, rfl, HP⟩ := hrel
    obtain ⟨wo, rfl⟩ : ∃ wo : World, wo = wr := ⟨_, rfl⟩
    clear HT
    by_cases h30 : k < 30
    · have l30 : (k : Int) < 30 := by omega
      by_cases h4 : k < 4
      · have l4 : (k : Int) < 4 := by omega
        go_wp2_with fail
        refine (message_free w.heap.size w.heap.size wo (unhide HP).src).mono ?_
        rintro e w4 ⟨m, P, pc, Q, qc, rfl, ⟨hv, hn1, -, hport⟩, hl, hn, hs4, hg4⟩
        have hT4 := (unhide HP).reads (unhide HBL) hs4 hg4
        obtain ⟨W4, hW4⟩ : ∃ W4 : World, w4.alloc (msgO m P pc Q qc) = W4 := ⟨_, rfl⟩
        have b4 : Below w4.heap.size w4 W4 := by rw [← hW4]; exact (Below.refl _ _).alloc (Nat.le_refl _) _
        have hM4 : W4.heap[w4.heap.size]? = some (msgO m P pc Q qc) := by rw [← hW4]; exact heap_alloc_new w4 _
        have hT := hT4.below b4
        have hx : ∀ b, In3 w.heap.size X Z b → (⟨m, P, pc, Q, qc⟩ : MsS).Lies b W4 := fun b hb => ⟨(hl b ((unhide HP).lt b hb)).keep b4, (hn b ((unhide HP).lt b hb)).keep b4⟩
        have hp : m.port = ARN ∨ m.port = CPH := by
          obtain ⟨j, hj⟩ := hport
          rw [hj]
          exact fewPort_two j
        have hMX : w4.heap.size ≠ X := by have := hT4.l1; omega
        have HX1 := hide hT.box1
        have HM4 := hide hM4
        have HR := hide (two_rcv hT (by omega) ((unhide HK).keep hT.bel) ⟨m, P, pc, Q, qc⟩ (hx _ (Or.inl rfl)) hv hn1 hp)
        have HT := hide hT
        have HX := hide hx
        have HV := hide hv
        have HN := hide hn1
        clear hT hx hv hn1 hport hl hn hs4 hg4 hT4 b4 hM4 HP
        go_wp2_with (first
          | (refine wpList_storeM_new rfl m P pc Q qc rfl _ _ rfl rfl rfl rfl ?_)
          | (rw [hW4]; refine wpList_loadI (unhide HX1) rfl _ rfl rfl ?_)
          | (refine wpList_loadI (unhide HX1) rfl _ rfl rfl ?_)
          | (refine wpList_loadM (unhide HM4) rfl _ rfl rfl ?_))
        clear hW4
        refine (unhide HR).mono ?_
        rintro e w5 ⟨B, n, us, Ao, co, out, v, a', c', rfl, em, pa, pcc, ta, tc, hcase, hin, hout, hb5⟩
        clear HR HX1
        obtain ⟨W5, hW5⟩ : ∃ W5 : World, w5.alloc (ibO 3 B us.length n) = W5 := ⟨_, rfl⟩
        have b5 : Below w5.heap.size w5 W5 := by rw [← hW5]; exact (Below.refl _ _).alloc (Nat.le_refl _) _
        have b45 := onward hb5 b5
        have hY5 : W5.heap[w5.heap.size]? = some (ibO 3 B us.length n) := by rw [← hW5]; exact heap_alloc_new w5 _
        have hT5 := (unhide HT).below b45
        have hT6 := hT5.put1 (n := n) (unhide HBL) (fun b hb => (hin b ((unhide HT).lt b hb)).keep b5) em pa pcc ta tc
        have hg6 := gr_setRow W5 X #[.int .i64 3, .slice B us.length n]
        have hx6 : ∀ b, In3 w.heap.size X Z b → (⟨m, P, pc, Q, qc⟩ : MsS).Lies b (W5.setRow X #[.int .i64 3, .slice B us.length n]) := fun b hb => ((unhide HX b hb).keep b45).turn ((unhide HX X (Or.inr (Or.inl rfl))).keep b45) hg6
        have ho6 : MsgsIn w.heap.size (W5.setRow X #[.int .i64 3, .slice B us.length n]) Ao out := ((hout _ ((unhide HT).lt _ (Or.inl rfl))).keep b5).turn ((hout _ ((unhide HT).lt _ (Or.inr (Or.inl rfl)))).keep b5) hg6
        have hM5 := (b45.block _ (Array.getElem?_eq_some_iff.1 (unhide HM4)).1).trans (unhide HM4)
        have hM6 := (hg6.block _ (Array.getElem?_eq_some_iff.1 hM5).1 (by simpa using hMX)).trans hM5
        obtain ⟨W6, hW6⟩ : ∃ W6 : World, W5.setRow X #[.int .i64 3, .slice B us.length n] = W6 := ⟨_, rfl⟩
        rw [hW6] at hT6 hx6 ho6 hM6
        have HX5 := hide hT5.box1
        have HY5 := hide hY5
        have HT6 := hide hT6
        have HX6 := hide hx6
        have HO6 := hide ho6
        have HM6 := hide hM6
        have q2 : W6.cell? ⟨w4.heap.size, 2, none⟩ = some (.string m.port) := by rw [Lib.cell_of_heap hM6]; rfl
        have HTA := hide (unhide HT).ta
        clear hT5 hT6 hx6 ho6 hM5 hM6 hY5 hg6 hin hout hb5 b5 b45 em pa pcc ta tc HX HT
        rcases hp with hp | hp
        · have e2 := hcase.resolve_right (fun h => h.1 hp)
          obtain ⟨-, ea, eo⟩ := e2
          subst ea
          have HEO := hide eo
          have HP2 := hide hp
          have HPT := hide (show m.port.toList = [65, 82, 78] by rw [hp]; decide +kernel)
          have HZ6 := hide (unhide HT6).box2
          have HR2 := hide (alone_rcv (unhide HT6) (by omega) ((unhide HK).keep (unhide HT6).bel) ⟨m, P, pc, Q, qc⟩ (unhide HX6 _ (Or.inl rfl)) (unhide HV) (unhide HN) hp)
          clear hcase eo
          rw [hp] at q2
          have q2' : W6.cell? ⟨w4.heap.size, 2, none⟩ = some (.string ⟨#[65, 82, 78]⟩) := q2
          clear q2 hp
          go_wp2_with (first
            | (refine wpList_storeI_new (g := w5.heap.size) rfl 3 B us.length n rfl _ _ rfl rfl rfl rfl ?_)
            | (refine wpList_loadI (unhide HY5) rfl _ rfl rfl ?_)
            | (refine wpList_storeI (unhide HX5) 3 B us.length n rfl _ _ rfl rfl rfl rfl ?_)
            | (refine wpList_loadI (unhide HZ6) rfl _ rfl rfl ?_)
            | (refine wpList_loadM (unhide HM6) rfl _ rfl rfl ?_))
          refine (unhide HR2).mono ?_
          rintro e w7 ⟨B2, n', us2, Ao2, co2, out2, v2, rfl, em2, eo2, hin2, hout2, hb7⟩
          clear HR2 hW5 hW6 HX5 HY5
          obtain ⟨W7, hW7⟩ : ∃ W7 : World, w7.alloc (ibO 3 B2 us2.length n') = W7 := ⟨_, rfl⟩
          have b7 : Below w7.heap.size w7 W7 := by rw [← hW7]; exact (Below.refl _ _).alloc (Nat.le_refl _) _
          have b67 := onward hb7 b7
          have hY7 : W7.heap[w7.heap.size]? = some (ibO 3 B2 us2.length n') := by rw [← hW7]; exact heap_alloc_new w7 _
          have hz := valid_few (unhide HV)
          have hfew := out_few (p := ARN) (win := 3) (m := m) (unhide HTA) hz
          have hol : out.length ≤ 1000 := by
            have e1 := congrArg List.length (unhide HEO)
            rw [List.length_map] at e1
            have := hfew.1
            omega
          have hoz : ∀ x ∈ out, x.m.onw.length ≤ 1000 ∧ x.m.lst.length ≤ 1000 := fun x hx => hfew.2 x.m (by rw [← unhide HEO]; exact List.mem_map.2 ⟨x, hx, rfl⟩)
          have HSL := hide (rlist_any w.heap.size Ao Ao2 co co2 out out2 W7 ((unhide HO6).keep b67) ((hout2 _ ((unhide HT6).lt _ (Or.inl rfl))).keep b7) ((unhide HEO).trans eo2.symm) hol hoz)
          have hT7 := (unhide HT6).below b67
          have hI7 : ∀ b, In3 w.heap.size X Z b → SndsIn b W7 B2 us2 := fun b hb => (hin2 b ((unhide HT6).lt b hb)).keep b7
          have HT7 := hide hT7
          have HI7 := hide hI7
          have HY7 := hide hY7
          have HEM := hide em2
          clear hT7 hI7 hY7 hz hfew hol hoz hin2 hout2 hb7 b7 b67 em2 eo2
          go_wp2_with (first
            | (refine wpList_storeI_new (g := w7.heap.size) rfl 3 B2 us2.length n' rfl _ _ rfl rfl rfl rfl ?_))
          refine (unhide HSL).mono ?_
          rintro e w8 ⟨rfl, hb8⟩
          have hT8 := (unhide HT7).below hb8
          have hT9 := hT8.put2 (n := n') (unhide HBL) (fun b hb => (unhide HI7 b hb).keep hb8) (unhide HEM) (nxt_port (unhide HT7).pa2) (nxt_tm (unhide HTA) (valid_few (unhide HV)))
          have hY8 := (hb8.block _ (Array.getElem?_eq_some_iff.1 (unhide HY7)).1).trans (unhide HY7)
          have HY8 := hide hY8
          have HZ8 := hide hT8.box2
          have HT9 := hide hT9
          clear hT8 hT9 hY8 hb8 HSL hW7
          go_wp2_with (first
            | (refine wpList_loadI (unhide HY8) rfl _ rfl rfl ?_)
            | (refine wpList_storeI (unhide HZ8) 3 B2 us2.length n' rfl _ _ rfl rfl rfl rfl ?_))
          go_roundw
          case rel => exact ⟨k + 1, _, c', B, n, us, B2, n', us2, by omega, by go_num, HT9⟩
          case measure => simp [intOf]; omega
        · have hne : m.port ≠ ARN := by rw [hp]; decide +kernel
          have e2 := hcase.resolve_left (fun h => hne h.1)
          obtain ⟨-, ea⟩ := e2
          subst ea
          rw [hp] at q2
          have q2' : W6.cell? ⟨w4.heap.size, 2, none⟩ = some (.string ⟨#[67, 80, 72]⟩) := q2
          clear q2 hp hne hcase
          go_wp2_with (first
            | (refine wpList_storeI_new (g := w5.heap.size) rfl 3 B us.length n rfl _ _ rfl rfl rfl rfl ?_)
            | (refine wpList_loadI (unhide HY5) rfl _ rfl rfl ?_)
            | (refine wpList_storeI (unhide HX5) 3 B us.length n rfl _ _ rfl rfl rfl rfl ?_))
          go_roundw
          case rel => exact ⟨k + 1, a', c', B, n, us, A2, n2, ts, by omega, by go_num, HT6⟩
          case measure => simp [intOf]; omega
      · have l4 : ¬ (k : Int) < 4 := by omega
        go_wp2_with fail
        refine (more_any w.heap.size w.heap.size wo (unhide HP).src).mono ?_
        rintro e wm ⟨v, rfl, hbm⟩
        replace HP := hide ((unhide HP).below hbm)
        clear hbm
        cases v with
        | true =>
          go_wp2_with fail
          refine (message_free w.heap.size w.heap.size wm (unhide HP).src).mono ?_
          rintro e w4 ⟨m, P, pc, Q, qc, rfl, ⟨hv, hn1, -, hport⟩, hl, hn, hs4, hg4⟩
          have hT4 := (unhide HP).reads (unhide HBL) hs4 hg4
          obtain ⟨W4, hW4⟩ : ∃ W4 : World, w4.alloc (msgO m P pc Q qc) = W4 := ⟨_, rfl⟩
          have b4 : Below w4.heap.size w4 W4 := by rw [← hW4]; exact (Below.refl _ _).alloc (Nat.le_refl _) _
          have hM4 : W4.heap[w4.heap.size]? = some (msgO m P pc Q qc) := by rw [← hW4]; exact heap_alloc_new w4 _
          have hT := hT4.below b4
          have hx : ∀ b, In3 w.heap.size X Z b → (⟨m, P, pc, Q, qc⟩ : MsS).Lies b W4 := fun b hb => ⟨(hl b ((unhide HP).lt b hb)).keep b4, (hn b ((unhide HP).lt b hb)).keep b4⟩
          have hp : m.port = ARN ∨ m.port = CPH := by
            obtain ⟨j, hj⟩ := hport
            rw [hj]
            exact fewPort_two j
          have hMX : w4.heap.size ≠ X := by have := hT4.l1; omega
          have HX1 := hide hT.box1
          have HM4 := hide hM4
          have HR := hide (two_rcv hT (by omega) ((unhide HK).keep hT.bel) ⟨m, P, pc, Q, qc⟩ (hx _ (Or.inl rfl)) hv hn1 hp)
          have HT := hide hT
          have HX := hide hx
          have HV := hide hv
          have HN := hide hn1
          clear hT hx hv hn1 hport hl hn hs4 hg4 hT4 b4 hM4 HP
          go_wp2_with (first
            | (refine wpList_storeM_new rfl m P pc Q qc rfl _ _ rfl rfl rfl rfl ?_)
            | (rw [hW4]; refine wpList_loadI (unhide HX1) rfl _ rfl rfl ?_)
            | (refine wpList_loadI (unhide HX1) rfl _ rfl rfl ?_)
            | (refine wpList_loadM (unhide HM4) rfl _ rfl rfl ?_))
          clear hW4
          refine (unhide HR).mono ?_
          rintro e w5 ⟨B, n, us, Ao, co, out, v, a', c', rfl, em, pa, pcc, ta, tc, hcase, hin, hout, hb5⟩
          clear HR HX1
          obtain ⟨W5, hW5⟩ : ∃ W5 : World, w5.alloc (ibO 3 B us.length n) = W5 := ⟨_, rfl⟩
          have b5 : Below w5.heap.size w5 W5 := by rw [← hW5]; exact (Below.refl _ _).alloc (Nat.le_refl _) _
          have b45 := onward hb5 b5
          have hY5 : W5.heap[w5.heap.size]? = some (ibO 3 B us.length n) := by rw [← hW5]; exact heap_alloc_new w5 _
          have hT5 := (unhide HT).below b45
          have hT6 := hT5.put1 (n := n) (unhide HBL) (fun b hb => (hin b ((unhide HT).lt b hb)).keep b5) em pa pcc ta tc
          have hg6 := gr_setRow W5 X #[.int .i64 3, .slice B us.length n]
          have hx6 : ∀ b, In3 w.heap.size X Z b → (⟨m, P, pc, Q, qc⟩ : MsS).Lies b (W5.setRow X #[.int .i64 3, .slice B us.length n]) := fun b hb => ((unhide HX b hb).keep b45).turn ((unhide HX X (Or.inr (Or.inl rfl))).keep b45) hg6
          have ho6 : MsgsIn w.heap.size (W5.setRow X #[.int .i64 3, .slice B us.length n]) Ao out := ((hout _ ((unhide HT).lt _ (Or.inl rfl))).keep b5).turn ((hout _ ((unhide HT).lt _ (Or.inr (Or.inl rfl)))).keep b5) hg6
          have hM5 := (b45.block _ (Array.getElem?_eq_some_iff.1 (unhide HM4)).1).trans (unhide HM4)
          have hM6 := (hg6.block _ (Array.getElem?_eq_some_iff.1 hM5).1 (by simpa using hMX)).trans hM5
          obtain ⟨W6, hW6⟩ : ∃ W6 : World, W5.setRow X #[.int .i64 3, .slice B us.length n] = W6 := ⟨_, rfl⟩
          rw [hW6] at hT6 hx6 ho6 hM6
          have HX5 := hide hT5.box1
          have HY5 := hide hY5
          have HT6 := hide hT6
          have HX6 := hide hx6
          have HO6 := hide ho6
          have HM6 := hide hM6
          have q2 : W6.cell? ⟨w4.heap.size, 2, none⟩ = some (.string m.port) := by rw [Lib.cell_of_heap hM6]; rfl
          have HTA := hide (unhide HT).ta
          clear hT5 hT6 hx6 ho6 hM5 hM6 hY5 hg6 hin hout hb5 b5 b45 em pa pcc ta tc HX HT
          rcases hp with hp | hp
          · have e2 := hcase.resolve_right (fun h => h.1 hp)
            obtain ⟨-, ea, eo⟩ := e2
            subst ea
            have HEO := hide eo
            have HP2 := hide hp
            have HPT := hide (show m.port.toList = [65, 82, 78] by rw [hp]; decide +kernel)
            have HZ6 := hide (unhide HT6).box2
            have HR2 := hide (alone_rcv (unhide HT6) (by omega) ((unhide HK).keep (unhide HT6).bel) ⟨m, P, pc, Q, qc⟩ (unhide HX6 _ (Or.inl rfl)) (unhide HV) (unhide HN) hp)
            clear hcase eo
            rw [hp] at q2
            have q2' : W6.cell? ⟨w4.heap.size, 2, none⟩ = some (.string ⟨#[65, 82, 78]⟩) := q2
            clear q2 hp
            go_wp2_with (first
              | (refine wpList_storeI_new (g := w5.heap.size) rfl 3 B us.length n rfl _ _ rfl rfl rfl rfl ?_)
              | (refine wpList_loadI (unhide HY5) rfl _ rfl rfl ?_)
              | (refine wpList_storeI (unhide HX5) 3 B us.length n rfl _ _ rfl rfl rfl rfl ?_)
              | (refine wpList_loadI (unhide HZ6) rfl _ rfl rfl ?_)
              | (refine wpList_loadM (unhide HM6) rfl _ rfl rfl ?_))
            refine (unhide HR2).mono ?_
            rintro e w7 ⟨B2, n', us2, Ao2, co2, out2, v2, rfl, em2, eo2, hin2, hout2, hb7⟩
            clear HR2 hW5 hW6 HX5 HY5
            obtain ⟨W7, hW7⟩ : ∃ W7 : World, w7.alloc (ibO 3 B2 us2.length n') = W7 := ⟨_, rfl⟩
            have b7 : Below w7.heap.size w7 W7 := by rw [← hW7]; exact (Below.refl _ _).alloc (Nat.le_refl _) _
            have b67 := onward hb7 b7
            have hY7 : W7.heap[w7.heap.size]? = some (ibO 3 B2 us2.length n') := by rw [← hW7]; exact heap_alloc_new w7 _
            have hz := valid_few (unhide HV)
            have hfew := out_few (p := ARN) (win := 3) (m := m) (unhide HTA) hz
            have hol : out.length ≤ 1000 := by
              have e1 := congrArg List.length (unhide HEO)
              rw [List.length_map] at e1
              have := hfew.1
              omega
            have hoz : ∀ x ∈ out, x.m.onw.length ≤ 1000 ∧ x.m.lst.length ≤ 1000 := fun x hx => hfew.2 x.m (by rw [← unhide HEO]; exact List.mem_map.2 ⟨x, hx, rfl⟩)
            have HSL := hide (rlist_any w.heap.size Ao Ao2 co co2 out out2 W7 ((unhide HO6).keep b67) ((hout2 _ ((unhide HT6).lt _ (Or.inl rfl))).keep b7) ((unhide HEO).trans eo2.symm) hol hoz)
            have hT7 := (unhide HT6).below b67
            have hI7 : ∀ b, In3 w.heap.size X Z b → SndsIn b W7 B2 us2 := fun b hb => (hin2 b ((unhide HT6).lt b hb)).keep b7
            have HT7 := hide hT7
            have HI7 := hide hI7
            have HY7 := hide hY7
            have HEM := hide em2
            clear hT7 hI7 hY7 hz hfew hol hoz hin2 hout2 hb7 b7 b67 em2 eo2
            go_wp2_with (first
              | (refine wpList_storeI_new (g := w7.heap.size) rfl 3 B2 us2.length n' rfl _ _ rfl rfl rfl rfl ?_))
            refine (unhide HSL).mono ?_
            rintro e w8 ⟨rfl, hb8⟩
            have hT8 := (unhide HT7).below hb8
            have hT9 := hT8.put2 (n := n') (unhide HBL) (fun b hb => (unhide HI7 b hb).keep hb8) (unhide HEM) (nxt_port (unhide HT7).pa2) (nxt_tm (unhide HTA) (valid_few (unhide HV)))
            have hY8 := (hb8.block _ (Array.getElem?_eq_some_iff.1 (unhide HY7)).1).trans (unhide HY7)
            have HY8 := hide hY8
            have HZ8 := hide hT8.box2
            have HT9 := hide hT9
            clear hT8 hT9 hY8 hb8 HSL hW7
            go_wp2_with (first
              | (refine wpList_loadI (unhide HY8) rfl _ rfl rfl ?_)
              | (refine wpList_storeI (unhide HZ8) 3 B2 us2.length n' rfl _ _ rfl rfl rfl rfl ?_))
            go_roundw
            case rel => exact ⟨k + 1, _, c', B, n, us, B2, n', us2, by omega, by go_num, HT9⟩
            case measure => simp [intOf]; omega
          · have hne : m.port ≠ ARN := by rw [hp]; decide +kernel
            have e2 := hcase.resolve_left (fun h => hne h.1)
            obtain ⟨-, ea⟩ := e2
            subst ea
            rw [hp] at q2
            have q2' : W6.cell? ⟨w4.heap.size, 2, none⟩ = some (.string ⟨#[67, 80, 72]⟩) := q2
            clear q2 hp hne hcase
            go_wp2_with (first
              | (refine wpList_storeI_new (g := w5.heap.size) rfl 3 B us.length n rfl _ _ rfl rfl rfl rfl ?_)
              | (refine wpList_loadI (unhide HY5) rfl _ rfl rfl ?_)
              | (refine wpList_storeI (unhide HX5) 3 B us.length n rfl _ _ rfl rfl rfl rfl ?_))
            go_roundw
            case rel => exact ⟨k + 1, a', c', B, n, us, A2, n2, ts, by omega, by go_num, HT6⟩
            case measure => simp [intOf]; omega
        | false =>
          go_wp2_with fail
          have hT := unhide HP
          have hBL := unhide HBL
          have bD : Below wm.heap.size wm wm.drew := (Below.refl _ _).drew
          have hD := hT.below bD
          have hM1 : Mid ARN [] a c.toList := mid_ARN hT.pa hT.pc hT.ta hT.tc (by omega)
          have hM2 : Mid ARN [] a (none : Option Snd).toList := mid_ARN hT.pa (fun _ hu => by cases hu) hT.ta (fun _ hu => by cases hu) (by omega)
          have hme : ts.map SnS.mod = [] ++ (a.toList ++ (none : Option Snd).toList) := by rw [hT.mod2]; simp
          have hlm := missA_len a
          refine wp_region_held (S := fun Q => Q.heap[X]? = some (ibO 3 A ss.length n1) ∧ Q.heap[Z]? = some (ibO 3 A2 ts.length n2)) (by kernel_rfl) ?_
          refine wpAnyH_take (i := 0) (v := ibV 3 A ss.length n1) rfl (by kernel_rfl) (by kernel_rfl) (by kernel_rfl) (fun _ _ _ h => h) (yields_loadI _ rfl rfl rfl (fun _ h => h.1)) ⟨hD.box1, hD.box2⟩ ?_
          refine wpAnyH_take (i := 2) (v := ibV 3 A2 ts.length n2) rfl (by kernel_rfl) (by kernel_rfl) (by kernel_rfl) (fun _ _ _ h => h) (yields_loadI _ rfl rfl rfl (fun _ h => h.2)) ⟨hD.box1, hD.box2⟩ ?_
          refine wpAnyH_one (i := 1) (by kernel_rfl) rfl (fun K hK => ?_)
          go_simp
          go_at_call 21
          refine (miss_mid w.heap.size 3 A n1 ss ARN [] c.toList a _ (hD.in1 _ (Or.inl rfl)) hD.mod1 hM1 hD.src.lt).mono ?_
          rintro e w6 ⟨B1, d1, rfl, hn1, hb6⟩
          try go_simp
          have h6 := hD.below hb6
          refine hK _ _ ⟨⟨h6.box1, h6.box2⟩, ?_⟩
          clear hK K
          refine wpAnyH_one (i := 3) (by kernel_rfl) rfl (fun K hK => ?_)
          go_simp
          go_at_call 21
          refine (miss_mid w.heap.size 3 A2 n2 ts ARN [] [] a _ (h6.in2 _ (Or.inl rfl)) hme hM2 h6.src.lt).mono ?_
          rintro e w7 ⟨B2, d2, rfl, hn2, hb7⟩
          try go_simp
          have h7 := h6.below hb7
          replace hn1 := hn1.keep hb7
          refine hK _ _ ⟨⟨h7.box1, h7.box2⟩, ?_⟩
          clear hK K
          refine wpAnyH_one (i := 4) (by kernel_rfl) rfl (fun K hK => ?_)
          go_simp
          go_at_call 13
          refine (kints_any w.heap.size _ _ B1 B2 d1 d2 w7 (by omega) hn1 hn2).mono ?_
          rintro e w8 ⟨rfl, hb8⟩
          rw [decide_eq_true rfl]
          try go_simp
          have h8 := h7.below hb8
          refine hK _ _ ⟨⟨h8.box1, h8.box2⟩, ?_⟩
          clear hK K
          refine wpAnyH_take (i := 5) (v := .bool true) rfl (by kernel_rfl) (by kernel_rfl) (by kernel_rfl) (fun _ _ _ h => h) (Or.inl ⟨by rfl, by intro w _; go_simp⟩) ⟨h8.box1, h8.box2⟩ ?_
          refine wpAnyH_one (i := 6) (by kernel_rfl) rfl (fun K hK => ?_)
          go_simp
          go_at_call 22
          refine (awake_inb w8 ((unhide HK).keep h8.bel)).mono ?_
          rintro e w9 ⟨rfl, hb9⟩
          try go_simp
          have h9 := h8.below hb9
          refine hK _ _ ⟨⟨h9.box1, h9.box2⟩, ?_⟩
          clear hK K
          refine wpAnyH_take (i := 7) (v := .bool true) rfl (by kernel_rfl) (by kernel_rfl) (by kernel_rfl) (fun _ _ _ h => h) (Or.inl ⟨by rfl, by intro w _; go_simp⟩) ⟨h9.box1, h9.box2⟩ ?_
          refine wpAnyH_take (i := 8) (v := .bool true) rfl (by kernel_rfl) (by kernel_rfl) (by kernel_rfl) (fun _ _ _ h => h) (Or.inl ⟨by rfl, by intro w _; go_simp⟩) ⟨h9.box1, h9.box2⟩ ?_
          refine wpAnyH_done (by kernel_rfl) ?_ _
          have HB9 := hide h9.bel
          clear hT hD h6 h7 h8 h9 hM1 hM2 hme hlm hn1 hn2 hb6 hb7 hb8 hb9 bD
          go_wp2
          go_ret
          exact ⟨rfl, unhide HB9⟩
    · obtain rfl : k = 30 := by omega
      go_wp2_with fail
      have hT := unhide HP
      have hBL := unhide HBL
      have bD : Below wo.heap.size wo wo.drew := (Below.refl _ _).drew
      have hD := hT.below bD
      have hM1 : Mid ARN [] a c.toList := mid_ARN hT.pa hT.pc hT.ta hT.tc (by omega)
      have hM2 : Mid ARN [] a (none : Option Snd).toList := mid_ARN hT.pa (fun _ hu => by cases hu) hT.ta (fun _ hu => by cases hu) (by omega)
      have hme : ts.map SnS.mod = [] ++ (a.toList ++ (none : Option Snd).toList) := by rw [hT.mod2]; simp
      have hlm := missA_len a
      refine wp_region_held (S := fun Q => Q.heap[X]? = some (ibO 3 A ss.length n1) ∧ Q.heap[Z]? = some (ibO 3 A2 ts.length n2)) (by kernel_rfl) ?_
      refine wpAnyH_take (i := 0) (v := ibV 3 A ss.length n1) rfl (by kernel_rfl) (by kernel_rfl) (by kernel_rfl) (fun _ _ _ h => h) (yields_loadI _ rfl rfl rfl (fun _ h => h.1)) ⟨hD.box1, hD.box2⟩ ?_
      refine wpAnyH_take (i := 2) (v := ibV 3 A2 ts.length n2) rfl (by kernel_rfl) (by kernel_rfl) (by kernel_rfl) (fun _ _ _ h => h) (yields_loadI _ rfl rfl rfl (fun _ h => h.2)) ⟨hD.box1, hD.box2⟩ ?_
      refine wpAnyH_one (i := 1) (by kernel_rfl) rfl (fun K hK => ?_)
      go_simp
      go_at_call 21
      refine (miss_mid w.heap.size 3 A n1 ss ARN [] c.toList a _ (hD.in1 _ (Or.inl rfl)) hD.mod1 hM1 hD.src.lt).mono ?_
      rintro e w6 ⟨B1, d1, rfl, hn1, hb6⟩
      try go_simp
      have h6 := hD.below hb6
      refine hK _ _ ⟨⟨h6.box1, h6.box2⟩, ?_⟩
      clear hK K
      refine wpAnyH_one (i := 3) (by kernel_rfl) rfl (fun K hK => ?_)
      go_simp
      go_at_call 21
      refine (miss_mid w.heap.size 3 A2 n2 ts ARN [] [] a _ (h6.in2 _ (Or.inl rfl)) hme hM2 h6.src.lt).mono ?_
      rintro e w7 ⟨B2, d2, rfl, hn2, hb7⟩
      try go_simp
      have h7 := h6.below hb7
      replace hn1 := hn1.keep hb7
      refine hK _ _ ⟨⟨h7.box1, h7.box2⟩, ?_⟩
      clear hK K
      refine wpAnyH_one (i := 4) (by kernel_rfl) rfl (fun K hK => ?_)
      go_simp
      go_at_call 13
      refine (kints_any w.heap.size _ _ B1 B2 d1 d2 w7 (by omega) hn1 hn2).mono ?_
      rintro e w8 ⟨rfl, hb8⟩
      rw [decide_eq_true rfl]
      try go_simp
      have h8 := h7.below hb8
      refine hK _ _ ⟨⟨h8.box1, h8.box2⟩, ?_⟩
      clear hK K
      refine wpAnyH_take (i := 5) (v := .bool true) rfl (by kernel_rfl) (by kernel_rfl) (by kernel_rfl) (fun _ _ _ h => h) (Or.inl ⟨by rfl, by intro w _; go_simp⟩) ⟨h8.box1, h8.box2⟩ ?_
      refine wpAnyH_one (i := 6) (by kernel_rfl) rfl (fun K hK => ?_)
      go_simp
      go_at_call 22
      refine (awake_inb w8 ((unhide HK).keep h8.bel)).mono ?_
      rintro e w9 ⟨rfl, hb9⟩
      try go_simp
      have h9 := h8.below hb9
      refine hK _ _ ⟨⟨h9.box1, h9.box2⟩, ?_⟩
      clear hK K
      refine wpAnyH_take (i := 7) (v := .bool true) rfl (by kernel_rfl) (by kernel_rfl) (by kernel_rfl) (fun _ _ _ h => h) (Or.inl ⟨by rfl, by intro w _; go_simp⟩) ⟨h9.box1, h9.box2⟩ ?_
      refine wpAnyH_take (i := 8) (v := .bool true) rfl (by kernel_rfl) (by kernel_rfl) (by kernel_rfl) (fun _ _ _ h => h) (Or.inl ⟨by rfl, by intro w _; go_simp⟩) ⟨h9.box1, h9.box2⟩ ?_
      refine wpAnyH_done (by kernel_rfl) ?_ _
      have HB9 := hide h9.bel
      clear hT hD h6 h7 h8 h9 hM1 hM2 hme hlm hn1 hn2 hb6 hb7 hb8 hb9 bD
      go_wp2
      go_ret
      exact ⟨rfl, unhide HB9⟩
theorem senders_law (A0 : Option Addr) (len cap : Nat) {w : World} (hcap : len ≤ cap) (hA : IntsIn w.heap.size w A0 len) (hK : Keys w) :
    Calls Tryd.prog 5 #[.slice A0 len cap] w fun e w' => e = .returned (.bool true) ∧ Below w.heap.size w w' := senders_any A0 len cap w hcap hA hK
end Go.Proofs.YtcjdjdganaokfaaDoor
