/-
  InboxGaps: the walk.
-/
import Derived.Test.YtcjdjdganaokfaaDoorInbS
namespace Go.Proofs.YtcjdjdganaokfaaDoor
open Go.RowKit

theorem plain_G (f : Nat → Bool) (n top : Nat) : ∀ u ∈ oneL (stG f n top), PlainS u := fun u hu => by
  unfold stG oneL at hu
  split at hu
  · cases hu
  · rw [List.mem_singleton.1 hu]; exact plain_D _ _ _ _
theorem gaps_rcv {X : Nat} {f : Nat → Bool} {n top : Nat} {A : Option Addr} {c : Nat} {ss : List SnS} {W : World} (h : IBx X 8 (stG f n top) A c ss W) (ht : Top f n top) (h2 : 2 ≤ n) (h8 : n ≤ 8) (hf : f n = true) (hK : Keys W) :
    Calls Tryd.prog 18 #[ibV 8 A ss.length c, (nbS CPH (n : Int)).v] W fun e w' => ∃ (A' : Option Addr) (c' : Nat) (ss' : List SnS) (Ao : Option Addr) (co : Nat),
      e = .returned (.tuple #[ibV 8 A' ss'.length c', .slice Ao 0 co, .int .i64 2, .int .i64 0]) ∧ ss'.map SnS.mod = oneL (stG f (n + 1) n) ∧ SndsIn X w' A' ss' ∧ Below W.heap.size W w' := by
  refine (h.rcv one_G hK (n : Int) (by omega) (nbd_cph _ (by omega) (by omega)) (by decide) (by decide)).mono ?_
  rintro e w' ⟨A', c', ss', Ao, co, out, rfl, e1, e2, e3, _, e5⟩
  obtain ⟨g1, g2⟩ := nxt_G ht h2 h8 hf
  rw [g2] at e2
  obtain rfl : out = [] := by simpa using e2
  exact ⟨A', c', ss', Ao, co, by rw [dec_G ht h2 h8]; rfl, by rw [e1, g1], e3, e5⟩
/-- The one sender behind the numbers that came. -/
structure GOne (f : Nat → Bool) (ss : List SnS) (t : SnS) : Prop where
  eq : ss = [t]
  mod : t.mod = sndD CPH (G f 9) 1 8
  lb : ss.getD (lbF (portC CPH) ss) sn0 = t
  holds : holdsF ss CPH = true
  few : FewM t.held ∧ t.held.length ≤ 100
  mono : ∀ k, MonoF (numC k) t.held ms0
  next : t.next = 1
theorem gaps_one {f : Nat → Bool} {top : Nat} {ss : List SnS} (hm : ss.map SnS.mod = oneL (stG f 9 top)) (ht : Top f 9 top) (e : top ≠ 0) : ∃ t, GOne f ss t := by
  unfold stG at hm
  rw [if_neg e] at hm
  obtain ⟨t, rfl, hs⟩ := mod_one (show ss.map SnS.mod = [sndD CPH (G f 9) 1 8] from hm)
  obtain ⟨h2, h9, hf⟩ := ht.zero.resolve_left e
  have hp : t.port = CPH := congrArg Snd.port hs
  obtain ⟨hl, hh⟩ := lb_one hp self_CPH
  have e0 : ([t] : List SnS).getD (lbF (portC CPH) [t]) sn0 = t := by rw [hl]; rfl
  have hheld : t.held.map (·.m) = lst CPH (G f 9) 1 8 := congrArg Snd.held hs
  obtain ⟨l, hlast⟩ := lst_last (p := CPH) (D := G f 9) (t := top) (by rw [G_at h2 (by omega)]; exact hf) 8 1 (by omega) (by omega) (fun i h3 h4 => by rw [G_at (by omega) (by omega)]; exact ht.none i h3 (by omega) (by omega))
  have hlen : 0 < t.held.length := by
    have := congrArg List.length hheld
    rw [hlast] at this
    simp at this
    omega
  refine ⟨t, rfl, hs, e0, ?_, fewM_mod hs (fun m hm => by obtain ⟨i, _, _, _, rfl⟩ := lst_mem 8 1 hm; exact ⟨Nat.zero_le _, Nat.zero_le _⟩) (Nat.le_trans (lst_len CPH (G f 9) 8 1) (by decide)), fun k => ?_, congrArg Snd.next hs⟩
  · unfold holdsF
    rw [hh, e0, decide_eq_true hlen]; rfl
  · refine mono_map (numM k) (fun x : MsS => x.m) t.held ms0 ?_
    rw [hheld]
    exact (lst_asc CPH (G f 9) 8 1).mono _ _
theorem gaps_none {f : Nat → Bool} {ss : List SnS} (hm : ss.map SnS.mod = oneL (stG f 9 0)) : ss = [] := by simpa [stG, oneL] using hm
theorem gaps_missing {X : Nat} {f : Nat → Bool} {top : Nat} {A : Option Addr} {c : Nat} {ss : List SnS} {W : World} (h : IBx X 8 (stG f 9 top) A c ss W) (ht : Top f 9 top) :
    Calls Tryd.prog 21 #[ibV 8 A ss.length c, .string CPH] W fun e w' => ∃ (A' : Option Addr) (c' : Nat), e = .returned (.slice A' (wantN f top (top - 1)).length c') ∧ NumsIn X w' A' (wantN f top (top - 1)) ∧ Below W.heap.size W w' := by
  by_cases e : top = 0
  · subst e
    obtain rfl := gaps_none h.mod
    refine (imiss_none X 8 A c [] CPH W h.ins (by simp) (mono_nil _ _) rfl).mono ?_
    rintro e w' ⟨rfl, hb⟩
    exact ⟨none, 0, rfl, NumsIn.nil _ _ _, hb⟩
  · obtain ⟨t, g⟩ := gaps_one h.mod ht e
    have hm := missL_G ht e
    have g1 := g.eq
    subst g1
    refine (imiss_some X 8 A c [t] CPH W h.ins (by simp) (mono_one _ _ _) g.holds h.lt (by rw [g.lb]; have := g.few.2; omega) (fun k => by rw [g.lb]; exact g.mono k) (by rw [g.lb, g.next]; decide) (by rw [g.lb, g.next]; decide)).mono ?_
    rintro e w' ⟨A', c', rfl, h1, h2⟩
    rw [g.lb, g.mod, hm] at h1 ⊢
    exact ⟨A', c', rfl, h1, h2⟩
theorem first_G {f : Nat → Bool} {n top : Nat} (ht : Top f n top) (e : top ≠ 0) : ∃ t, 2 ≤ t ∧ t ≤ top ∧ f t = true ∧ ∀ i, 2 ≤ i → i < t → f i = false := by
  obtain ⟨h2, _, hf⟩ := ht.zero.resolve_left e
  have : ∀ k, k ≤ top - 2 → (∃ t, 2 ≤ t ∧ t ≤ top ∧ f t = true ∧ ∀ i, 2 ≤ i → i < t → f i = false) ∨ ∀ i, 2 ≤ i → i < 2 + k → f i = false := by
    intro k
    induction k with
    | zero => exact fun _ => Or.inr fun i h3 h4 => by omega
    | succ k ih =>
      intro hk
      rcases ih (by omega) with h | h
      · exact Or.inl h
      · cases hc : f (2 + k) with
        | true => exact Or.inl ⟨2 + k, by omega, by omega, hc, fun i h3 h4 => h i h3 h4⟩
        | false =>
          refine Or.inr fun i h3 h4 => ?_
          rcases Nat.lt_or_ge i (2 + k) with h5 | h5
          · exact h i h3 h5
          · obtain rfl : i = 2 + k := by omega
            exact hc
  rcases this (top - 2) (Nat.le_refl _) with h | h
  · exact h
  · exact ⟨top, h2, Nat.le_refl _, hf, fun i h3 h4 => h i h3 (by omega)⟩
theorem gaps_skip {X : Nat} {f : Nat → Bool} {top t : Nat} {A : Option Addr} {c : Nat} {ss : List SnS} {W : World} (h : IBx X 8 (stG f 9 top) A c ss W) (ht : Top f 9 top) (e : top ≠ 0) (h2 : 2 ≤ t) (h8 : t ≤ 8) (hf : f t = true) (hn : ∀ i, 2 ≤ i → i < t → f i = false) :
    Calls Tryd.prog 25 #[ibV 8 A ss.length c, .string CPH] W fun e w' => ∃ (A' : Option Addr) (n' c' g off r co : Nat), 1 ≤ r ∧ r ≤ 8 ∧
      e = .returned (.tuple #[ibV 8 A' n' c', .slice (some ⟨g, off, none⟩) r co, .int .i64 0]) ∧ w'.cell? ⟨g, off + 3, none⟩ = some (.int .i64 (t : Int)) ∧ w'.cell? ⟨g, off + (r - 1) * 30 + 3, none⟩ = some (.int .i64 ((t + (r - 1) : Nat) : Int)) ∧ Below W.heap.size W w' := by
  obtain ⟨s, g⟩ := gaps_one h.mod ht e
  have g1 := g.eq
  subst g1
  obtain ⟨k1, k2, k3⟩ := skip_G h2 h8 hf hn
  refine (skip_some X 8 A c [s] CPH W h.ins (by simp) (mono_one _ _ _) g.holds h.lt (fun u hu => by rw [List.mem_singleton.1 hu]; exact g.few.1) (by rw [g.lb, g.mod, k1]; omega) (by rw [g.lb, g.mod, k1]; omega)).mono ?_
  rintro e w' ⟨A', c', ss', Ao, co, out, rfl, -, ho, -, hout, hb⟩
  rw [g.lb, g.mod, k3] at ho
  have hlen : out.length = run (G f 9) t (9 - t) := by have := congrArg List.length ho; rw [List.length_map, seqL_len] at this; exact this
  have hle := run_le (G f 9) (9 - t) t
  have hat : ∀ i, i < out.length → (out.getD i ms0).m.num = ((t + i : Nat) : Int) := fun i hi => by
    have := getD_map' (fun x : MsS => x.m) out i ms0
    rw [← this, ho, seqL_at CPH _ _ _ _ (by omega)]
    exact nbd_num _ _
  obtain ⟨q, off, hA, -, hc, -⟩ := hout (by omega)
  subst hA
  have hcell : ∀ i, i < out.length → w'.cell? ⟨q, off + (i * 30 + 3), none⟩ = some (.int .i64 ((t + i : Nat) : Int)) := fun i hi => by
    refine hc (i * 30 + 3) _ ?_
    rw [flatK_at MsS.cs 30 MsS.cs_len out i hi 3 (by omega), ← hat i hi, at_k hi]
    rfl
  refine ⟨A', ss'.length, c', q, off, out.length, co, by omega, by omega, rfl, ?_, ?_, hb⟩
  · have := hcell 0 (by omega)
    simpa using this
  · have := hcell (out.length - 1) (by omega)
    rwa [← Nat.add_assoc] at this

/-- A bit of a number. -/
def bitE (x : Int) (n : Nat) : Int := bits BinOp.and IntKind.i64 (x / 2 ^ n) 1
def tb (x : Int) (n : Nat) : Bool := bitE x n == 1
theorem bitE_two (x : Int) (n : Nat) : bitE x n = 0 ∨ bitE x n = 1 := by
  unfold bitE
  have h127 : (BitVec.ofInt 64 1).toNat = 2 ^ 1 - 1 := by decide
  have key : (BitVec.ofInt 64 (x / 2 ^ n) &&& BitVec.ofInt 64 1).toNat = ((x / 2 ^ n) % ((2 ^ 64 : Nat) : Int)).toNat % 2 ^ 1 := by
    rw [BitVec.toNat_and, BitVec.toNat_ofInt, h127, Nat.and_two_pow_sub_one_eq_mod]
  show IntKind.i64.wrap ((BitVec.ofInt 64 (x / 2 ^ n) &&& BitVec.ofInt 64 1).toNat : Nat) = 0 ∨ IntKind.i64.wrap ((BitVec.ofInt 64 (x / 2 ^ n) &&& BitVec.ofInt 64 1).toNat : Nat) = 1
  rw [key, IntKind.wrap_i64]
  omega
theorem tb_yes {x : Int} {n : Nat} (h : tb x n = true) : (bits BinOp.and IntKind.i64 (x / 2 ^ n) 1 == 1) = true ∧ (bits BinOp.and IntKind.i64 (x / 2 ^ n) 1 == 0) = false := by
  refine ⟨h, ?_⟩
  have : bitE x n = 1 := eq_of_beq h
  show (bitE x n == 0) = false
  rw [this]; rfl
theorem tb_no {x : Int} {n : Nat} (h : tb x n = false) : (bits BinOp.and IntKind.i64 (x / 2 ^ n) 1 == 1) = false ∧ (bits BinOp.and IntKind.i64 (x / 2 ^ n) 1 == 0) = true := by
  refine ⟨h, ?_⟩
  have : bitE x n = 0 := (bitE_two x n).resolve_right fun e => by unfold tb at h; rw [e] at h; cases h
  show (bitE x n == 0) = true
  rw [this]; rfl

set_option maxHeartbeats 16000000 in
set_option maxRecDepth 100000 in
theorem gaps_any (x : Int) (w : World) (hK : Keys w) :
    Calls Tryd.prog 6 #[.int .i64 x] w fun e w' => e = .returned (.bool true) ∧ Below w.heap.size w w' := by
  obtain ⟨i0, hi0, hia, hib, hic⟩ := info_parts info_intE
  have HI0 := hide hi0
  have HIA := hide hia
  have HIB := hide hib
  have HIC := hide hic
  have HK := hide hK
  clear hK hi0 hia hib hic
  go_enter Tryd.func6, Tryd.ntmps6
  go_wp2_with fail
  refine (inew_ok 8 w (by decide) (by decide)).mono ?_
  rintro e w1 ⟨rfl, hb1⟩
  have hb2 := onward hb1 ((Below.refl w1.heap.size w1).alloc (Nat.le_refl _) (ibO 8 none 0 0))
  have hX2 := heap_alloc_new w1 (ibO 8 none 0 0)
  obtain ⟨W2, hW2⟩ : ∃ W2 : World, w1.alloc (ibO 8 none 0 0) = W2 := ⟨_, rfl⟩
  rw [hW2] at hb2 hX2
  have hzw := hb1.size
  have hX0 : IBx w1.heap.size 8 none none 0 [] W2 := ⟨hX2, SndsIn.nil _ _ _, rfl, fun u hu => by cases hu⟩
  clear hb1 hX2
  go_wp2_with (refine wpList_storeI_new (g := w1.heap.size) rfl 8 none 0 0 rfl _ _ rfl rfl rfl rfl ?_)
  have HX0 := hide hX0
  have HB2 := hide hb2
  have HZ := hide hzw
  clear hX0 hb2 hW2 hzw
  generalize w1.heap.size = X at *
  go_loopw [5, 7] (fun t i wr => ∃ (n top : Nat) (A : Option Addr) (c : Nat) (ss : List SnS), 2 ≤ n ∧ n ≤ 9 ∧ i = .int .i64 n ∧ t = .int .i64 top ∧ Hid (Top (tb x) n top ∧ IBx X 8 (stG (tb x) n top) A c ss wr ∧ Below w.heap.size w wr)) (fun _ i _ => 9 - (intOf i).toNat)
  case atStart => exact ⟨2, 0, none, 0, [], by omega, by omega, rfl, rfl, Lib.hid ⟨Top.start _, unhide HX0, unhide HB2⟩⟩
  case round =>
    obtain ⟨n, top, A, c, ss, h2, h9, rfl, rfl, HP⟩ := hrel
    obtain ⟨wo, rfl⟩ : ∃ wo : World, wo = wr := ⟨_, rfl⟩
    have HT := hide HP.out.1
    have HBX := hide HP.out.2.1
    have HBO := hide HP.out.2.2
    clear HP HX0 HB2
    by_cases h8 : n ≤ 8
    · have l8 : (n : Int) ≤ 8 := by omega
      have hwu : IntKind.u64.wrap (n : Int) = (n : Int) := by rw [IntKind.wrap_u64]; omega
      cases hf : tb x n with
      | false =>
        have t1 := (tb_no hf).1
        have HF := hide hf
        clear hf
        go_wp2_with fail
        go_roundw
        case rel => exact ⟨n + 1, top, A, c, ss, by omega, by omega, by go_num, rfl, Lib.hid ⟨(unhide HT).miss (unhide HF), by rw [same_G (unhide HF)]; exact unhide HBX, unhide HBO⟩⟩
        case measure => simp [intOf]; omega
      | true =>
        have t1 := (tb_yes hf).1
        have HF := hide hf
        have HKo := hide ((unhide HK).keep (unhide HBO))
        clear hf
        go_wp2_with fail
        have hbx := unhide HBX
        have bD : Below wo.heap.size wo wo.drew := (Below.refl _ _).drew
        have hD := hbx.below bD
        have hXlt := hbx.lt
        refine wp_region_held (S := fun Z => Z.heap[X]? = some (ibO 8 A ss.length c)) (by kernel_rfl) ?_
        refine wpAnyH_take (i := 0) (v := ibV 8 A ss.length c) rfl (by kernel_rfl) (by kernel_rfl) (by kernel_rfl) (fun _ _ _ h => h) (yields_loadI _ rfl rfl rfl (fun _ h => h)) hD.box ?_
        refine wpAnyH_take (i := 1) (v := .int .i64 (n : Int)) rfl (by kernel_rfl) (by kernel_rfl) (by kernel_rfl) (fun _ _ _ h => h) (Or.inl ⟨by rfl, by intro w _; go_simp⟩) hD.box ?_

        refine wpAnyH_two (i := 2) (j := 9) (by kernel_rfl) rfl rfl (fun K hK => ?_) (fun K hK => ?_)
        case' refine_2 =>
          go_simp
          obtain ⟨v5, hv5⟩ : ∃ v5 : World, (wo.alloc (.cells #[.int .i64 0, .slice none 0 0] 46)).drew = v5 := ⟨_, rfl⟩
          obtain ⟨B6, hB6⟩ : ∃ B6, wo.heap.size = B6 := ⟨_, rfl⟩
          have hbv : Below wo.heap.size wo v5 := by rw [← hv5]; exact ((Below.refl _ _).alloc (Nat.le_refl _) _).drew
          have hZv : v5.heap[B6]? = some (ibO 0 none 0 0) := by rw [← hv5, ← hB6]; exact heap_alloc_new wo _
          have x5 := hbx.below hbv
          have hBv : B6 < v5.heap.size := (Array.getElem?_eq_some_iff.1 hZv).1
          refine hK _ _ ⟨by rw [hv5]; exact x5.box, ?_⟩
          clear hK K
          rw [hv5]
          refine wpAnyH_one (i := 2) (by kernel_rfl) rfl (fun K hK => ?_)
          go_simp
          go_at_call 19
          refine (nbd_any CPH (n : Int) v5).mono ?_
          rintro e w6 ⟨rfl, hb_w6⟩
          try go_simp
          have x6 := x5.below hb_w6
          have hZ6 := (hb_w6.block _ hBv).trans hZv
          have hb56 := onward hbv hb_w6
          have hB6l := Nat.lt_of_lt_of_le hBv hb_w6.size
          refine hK _ _ ⟨x6.box, ?_⟩
          clear hK K
          refine wpAnyH_one (i := 3) (by kernel_rfl) rfl (fun K hK => ?_)
          go_simp
          go_at_call 18
          refine (gaps_rcv x6 (unhide HT) h2 h8 (unhide HF) ((unhide HKo).keep hb56)).mono ?_
          rintro e w8 ⟨A2, c2, ss2, Ao, co, rfl, em, hin, hb7⟩
          try go_simp
          have x8 := x6.below hb7
          have hZ8 := (hb7.block _ hB6l).trans hZ6
          refine hK _ _ ⟨x8.box, ?_⟩
          clear hK K
          have hb58 : Below wo.heap.size wo w8 := onward hb56 hb7
          have hlB : wo.heap.size ≤ B6 := Nat.le_of_eq hB6
          refine wpAnyH_take (i := 4) (v := .tuple #[ibV 8 A2 ss2.length c2, .slice Ao 0 co, .int .i64 2, .int .i64 0]) rfl (by kernel_rfl) (by kernel_rfl) (by kernel_rfl) (fun _ _ _ h => h) (Or.inl ⟨by rfl, by intro w _; go_simp⟩) x8.box ?_
          refine wpAnyH_take (i := 5) (v := ibV 8 A2 ss2.length c2) rfl (by kernel_rfl) (by kernel_rfl) (by kernel_rfl) (fun _ _ _ h => h) (Or.inl ⟨by rfl, by intro w _; go_simp⟩) x8.box ?_
          refine wpAnyH_take (i := 6) (v := .slice Ao 0 co) rfl (by kernel_rfl) (by kernel_rfl) (by kernel_rfl) (fun _ _ _ h => h) (Or.inl ⟨by rfl, by intro w _; go_simp⟩) x8.box ?_
          refine wpAnyH_take (i := 7) (v := .int .i64 2) rfl (by kernel_rfl) (by kernel_rfl) (by kernel_rfl) (fun _ _ _ h => h) (Or.inl ⟨by rfl, by intro w _; go_simp⟩) x8.box ?_
          refine wpAnyH_take (i := 8) (v := .int .i64 0) rfl (by kernel_rfl) (by kernel_rfl) (by kernel_rfl) (fun _ _ _ h => h) (Or.inl ⟨by rfl, by intro w _; go_simp⟩) x8.box ?_
        case' refine_1 =>
          go_simp
          go_at_call 19
          refine (nbd_any CPH (n : Int) wo.drew).mono ?_
          rintro e w6 ⟨rfl, hb_w6⟩
          try go_simp
          have x6 := hD.below hb_w6
          have hb56 := onward bD hb_w6
          refine hK _ _ ⟨x6.box, ?_⟩
          clear hK K
          refine wpAnyH_two (i := 3) (j := 9) (by kernel_rfl) rfl rfl (fun K hK => ?_) (fun K hK => ?_)
          case' refine_1 =>
            go_simp
            go_at_call 18
            refine (gaps_rcv x6 (unhide HT) h2 h8 (unhide HF) ((unhide HKo).keep hb56)).mono ?_
            rintro e w7 ⟨A2, c2, ss2, Ao, co, rfl, em, hin, hb7⟩
            try go_simp
            have x7 := x6.below hb7
            refine hK _ _ ⟨x7.box, ?_⟩
            clear hK K
            refine wpAnyH_take (i := 4) (v := .tuple #[ibV 8 A2 ss2.length c2, .slice Ao 0 co, .int .i64 2, .int .i64 0]) rfl (by kernel_rfl) (by kernel_rfl) (by kernel_rfl) (fun _ _ _ h => h) (Or.inl ⟨by rfl, by intro w _; go_simp⟩) x7.box ?_
            refine wpAnyH_take (i := 5) (v := ibV 8 A2 ss2.length c2) rfl (by kernel_rfl) (by kernel_rfl) (by kernel_rfl) (fun _ _ _ h => h) (Or.inl ⟨by rfl, by intro w _; go_simp⟩) x7.box ?_
            refine wpAnyH_take (i := 6) (v := .slice Ao 0 co) rfl (by kernel_rfl) (by kernel_rfl) (by kernel_rfl) (fun _ _ _ h => h) (Or.inl ⟨by rfl, by intro w _; go_simp⟩) x7.box ?_
            refine wpAnyH_take (i := 7) (v := .int .i64 2) rfl (by kernel_rfl) (by kernel_rfl) (by kernel_rfl) (fun _ _ _ h => h) (Or.inl ⟨by rfl, by intro w _; go_simp⟩) x7.box ?_
            refine wpAnyH_take (i := 8) (v := .int .i64 0) rfl (by kernel_rfl) (by kernel_rfl) (by kernel_rfl) (fun _ _ _ h => h) (Or.inl ⟨by rfl, by intro w _; go_simp⟩) x7.box ?_
            refine wpAnyH_one (i := 9) (by kernel_rfl) rfl (fun K hK => ?_)
            go_simp
            obtain ⟨w8, hw8⟩ : ∃ w8 : World, w7.alloc (.cells #[.int .i64 0, .slice none 0 0] 46) = w8 := ⟨_, rfl⟩
            obtain ⟨B6, hB6⟩ : ∃ B6, w7.heap.size = B6 := ⟨_, rfl⟩
            have hb8 : Below w7.heap.size w7 w8 := by rw [← hw8]; exact (Below.refl _ _).alloc (Nat.le_refl _) _
            have x8 := x7.below hb8
            have hZ8 : w8.heap[B6]? = some (ibO 0 none 0 0) := by rw [← hw8, ← hB6]; exact heap_alloc_new w7 _
            replace hin := hin.keep hb8
            have hb58 : Below wo.heap.size wo w8 := onward (onward hb56 hb7) hb8
            have hlB : wo.heap.size ≤ B6 := by have := (onward hb56 hb7).size; omega
            refine hK _ _ ⟨by rw [hw8]; exact x8.box, ?_⟩
            clear hK K
            rw [hw8]
          case' refine_2 =>
            go_simp
            obtain ⟨v6, hv6⟩ : ∃ v6 : World, w6.alloc (.cells #[.int .i64 0, .slice none 0 0] 46) = v6 := ⟨_, rfl⟩
            obtain ⟨B6, hB6⟩ : ∃ B6, w6.heap.size = B6 := ⟨_, rfl⟩
            have hbv : Below w6.heap.size w6 v6 := by rw [← hv6]; exact (Below.refl _ _).alloc (Nat.le_refl _) _
            have hlB : wo.heap.size ≤ B6 := by have := hb56.size; omega
            replace hb56 := onward hb56 hbv
            replace x6 := x6.below hbv
            have hZv : v6.heap[B6]? = some (ibO 0 none 0 0) := by rw [← hv6, ← hB6]; exact heap_alloc_new w6 _
            have hBv : B6 < v6.heap.size := (Array.getElem?_eq_some_iff.1 hZv).1
            refine hK _ _ ⟨by rw [hv6]; exact x6.box, ?_⟩
            clear hK K
            rw [hv6]
            refine wpAnyH_one (i := 3) (by kernel_rfl) rfl (fun K hK => ?_)
            go_simp
            go_at_call 18
            refine (gaps_rcv x6 (unhide HT) h2 h8 (unhide HF) ((unhide HKo).keep hb56)).mono ?_
            rintro e w8 ⟨A2, c2, ss2, Ao, co, rfl, em, hin, hb7⟩
            try go_simp
            have x8 := x6.below hb7
            have hZ8 := (hb7.block _ hBv).trans hZv
            refine hK _ _ ⟨x8.box, ?_⟩
            clear hK K
            have hb58 : Below wo.heap.size wo w8 := onward hb56 hb7
            refine wpAnyH_take (i := 4) (v := .tuple #[ibV 8 A2 ss2.length c2, .slice Ao 0 co, .int .i64 2, .int .i64 0]) rfl (by kernel_rfl) (by kernel_rfl) (by kernel_rfl) (fun _ _ _ h => h) (Or.inl ⟨by rfl, by intro w _; go_simp⟩) x8.box ?_
            refine wpAnyH_take (i := 5) (v := ibV 8 A2 ss2.length c2) rfl (by kernel_rfl) (by kernel_rfl) (by kernel_rfl) (fun _ _ _ h => h) (Or.inl ⟨by rfl, by intro w _; go_simp⟩) x8.box ?_
            refine wpAnyH_take (i := 6) (v := .slice Ao 0 co) rfl (by kernel_rfl) (by kernel_rfl) (by kernel_rfl) (fun _ _ _ h => h) (Or.inl ⟨by rfl, by intro w _; go_simp⟩) x8.box ?_
            refine wpAnyH_take (i := 7) (v := .int .i64 2) rfl (by kernel_rfl) (by kernel_rfl) (by kernel_rfl) (fun _ _ _ h => h) (Or.inl ⟨by rfl, by intro w _; go_simp⟩) x8.box ?_
            refine wpAnyH_take (i := 8) (v := .int .i64 0) rfl (by kernel_rfl) (by kernel_rfl) (by kernel_rfl) (fun _ _ _ h => h) (Or.inl ⟨by rfl, by intro w _; go_simp⟩) x8.box ?_
        all_goals
          have hne : X ≠ B6 := by omega
          have e0 : w8.cell? ⟨B6, 0, none⟩ = some (.int .i64 0) := by rw [Lib.cell_of_heap hZ8]; rfl
          have e1 : w8.cell? ⟨B6, 1, none⟩ = some (.slice none 0 0) := by rw [Lib.cell_of_heap hZ8]; rfl
          have f0 := Lib.frozen_of_heap hZ8 0
          have f1 := Lib.frozen_of_heap hZ8 1
          obtain ⟨w9, hw9⟩ : ∃ w9 : World, (w8.setCell ⟨B6, 0, none⟩ (.int .i64 8)).setCell ⟨B6, 1, none⟩ (.slice A2 ss2.length c2) = w9 := ⟨_, rfl⟩
          have hg9 : w8.grownBy w9 (some B6) := by rw [← hw9]; exact Lib.grownBy_setB (Lib.grownBy_setB (World.grownBy.refl w8 (some B6)) 0 (.int .i64 8)) 1 (.slice A2 ss2.length c2)
          have hY9 : w9.heap[B6]? = some (ibO 8 A2 ss2.length c2) := by rw [← hw9, heap_setM _ (heap_setM _ hZ8)]; rfl
          have x9 := x8.grown hne hZ8 hg9
          have y9 := IBx.put hZ8 hin em (plain_G _ _ _) hg9 hY9
          have hb59 : Below wo.heap.size wo w9 := by rw [← hw9]; exact (hb58.setCell (p := ⟨B6, 0, none⟩) hlB _).setCell (p := ⟨B6, 1, none⟩) hlB _
          refine wpAnyH_one (i := 10) (by kernel_rfl) rfl (fun K hK => ?_)
          go_simp
          try rw [hw9]
          refine hK _ _ ⟨x9.box, ?_⟩
          clear hK K
          refine wpAnyH_take (i := 11) (v := .slice Ao 0 co) rfl (by kernel_rfl) (by kernel_rfl) (by kernel_rfl) (fun _ _ _ h => h) (Or.inl ⟨by rfl, by intro w _; go_simp⟩) x9.box ?_
          refine wpAnyH_take (i := 12) (v := .int .i64 2) rfl (by kernel_rfl) (by kernel_rfl) (by kernel_rfl) (fun _ _ _ h => h) (Or.inl ⟨by rfl, by intro w _; go_simp⟩) x9.box ?_
          refine wpAnyH_take (i := 13) (v := .int .i64 0) rfl (by kernel_rfl) (by kernel_rfl) (by kernel_rfl) (fun _ _ _ h => h) (Or.inl ⟨by rfl, by intro w _; go_simp⟩) x9.box ?_
          refine wpAnyH_done (by kernel_rfl) ?_ _
        all_goals
          have HN := hide (x9.move y9)
          have HBF := hide (below_setRow (onward (unhide HBO) hb59) (unhide HZ) #[.int .i64 8, .slice A2 ss2.length c2])
          have HX9 := hide x9.box
          have HY9 := hide y9.box
          clear x9 y9 hg9 hY9 e0 e1 f0 f1 hb58 hb59 hw9
          go_wp2_with (first
            | (refine wpList_loadI (unhide HY9) rfl _ rfl rfl ?_)
            | (refine wpList_storeI (unhide HX9) 8 A2 ss2.length c2 rfl _ _ rfl rfl rfl rfl ?_))
          go_roundw
          case rel => exact ⟨n + 1, n, A2, c2, ss2, by omega, by omega, by go_num, rfl, Lib.hid ⟨(unhide HT).hit h2 (unhide HF), unhide HN, unhide HBF⟩⟩
          case measure => simp [intOf]; omega
    · obtain rfl : n = 9 := by omega
      rw [show ((9 : Nat) : Int) = 9 from rfl]
      have ht9 : top ≤ 8 ∧ (top = 0 ∨ 2 ≤ top) := by
        rcases (unhide HT).zero with h | ⟨h, h', _⟩ <;> omega
      go_wp2_with fail
      go_loopw [6, 12] (fun v i wr => ∃ (n k : Nat) (A' : Option Addr) (c' : Nat), n = k + 1 ∧ (n = 1 ∨ n ≤ top) ∧ i = .int .i64 (n : Int) ∧ v = .slice A' (wantN (tb x) top k).length c' ∧ Hid (wr.ownsRow wo.heap.size 3 1 (.slice A' (wantN (tb x) top k).length c') (wantN (tb x) top k).length ((wantN (tb x) top k).map (Value.int .i64)) ∧ Below wo.heap.size wo wr)) (fun _ i _ => 9 - (intOf i).toNat)
      case atStart => exact ⟨1, 0, none, 0, rfl, Or.inl rfl, rfl, rfl, Lib.hid ⟨World.ownsRow_nil _ _ _ _, Below.refl _ _⟩⟩
      case round =>
        obtain ⟨n, k, A', c', hk, hn, rfl, rfl, HP⟩ := hrel
        obtain ⟨wp, rfl⟩ : ∃ wp : World, wp = wr := ⟨_, rfl⟩
        have HO := hide HP.out.1
        have HB := hide HP.out.2
        clear HP
        by_cases hlt : n < top
        · have l8 : (n : Int) < (top : Int) := by omega
          have hwu : IntKind.u64.wrap (n : Int) = (n : Int) := by rw [IntKind.wrap_u64]; omega
          have hlen := wantN_len (tb x) top k
          cases hf : (decide (n = 1) || !tb x n) with
          | false =>
            have n1 : ¬ (n : Int) = 1 := fun e => by
              have : n = 1 := by omega
              rw [this] at hf; cases hf
            have n1' : ((n : Int) == 1) = false := by rw [beq_eq_false_iff_ne]; exact n1
            have t1 := (tb_yes (x := x) (n := n) (by revert hf; cases tb x n <;> simp)).2
            have HE := hide (show wantN (tb x) top n = wantN (tb x) top k by rw [hk]; conv => { lhs; unfold wantN }; rw [← hk, hf, Bool.false_and, if_neg Bool.false_ne_true, List.append_nil])
            clear hf hk
            go_wp2_with fail
            go_roundw
            case rel => exact ⟨n + 1, n, A', c', rfl, Or.inr (by omega), by go_num, by rw [unhide HE], Lib.hid ⟨by rw [unhide HE]; exact unhide HO, unhide HB⟩⟩
            case measure => simp [intOf]; omega
          | true =>
            have HE := hide (show wantN (tb x) top n = wantN (tb x) top k ++ [(n : Int)] by rw [hk]; conv => { lhs; unfold wantN }; rw [← hk, hf, Bool.true_and, decide_eq_true hlt, if_pos rfl])
            have hcase : n = 1 ∨ (¬ n = 1 ∧ tb x n = false) := by
              rcases Nat.decEq n 1 with h | h
              · refine Or.inr ⟨h, ?_⟩
                rw [decide_eq_false h] at hf
                revert hf; cases tb x n <;> simp
              · exact Or.inl h
            clear hf
            rcases hcase with e1 | ⟨n1, hf⟩
            · have n1b : ((n : Int) == 1) = true := by rw [e1]; rfl
              clear e1
              have hb5 := (Below.refl wp.heap.size wp).alloc (Nat.le_refl _) (.cells #[.int .i64 (n : Int)] 3)
              have hB5 := onward (unhide HB) hb5
              have HB5 := hide hB5
              have HO5 := hide (owns_below (unhide HO) hb5)
              have HN := hide (World.news_of_block (heap_alloc_new wp (.cells #[.int .i64 (n : Int)] 3)))
              have hz5 := hB5.size
              have k8 : k ≤ 8 := by omega
              clear hb5 hB5 hk
              go_wp2_with (at_builtin; refine wpList_append_lies _ rfl _ _ 30 rfl wo.heap.size 3 i0 (.int .i64 0) 1 8 Tryd.underlying30 (unhide HI0) (unhide HIA) (unhide HIB) (unhide HIC) rfl (by decide) _ _ _ rfl (unhide HO5) ⟨wp.heap.size, 0, none⟩ 1 1 [.int .i64 (n : Int)] rfl rfl (unhide HN) (fun u hu => by rw [List.mem_singleton.1 hu]; rfl) (by decide) (by unfold maxLen; omega) (by omega) hz5 _ rfl ?_)
              intro q cap' w6 hown hgrow hat hlt6
              have HB6 := hide ((unhide HB5).grown hgrow hz5 (fun k hk => ((unhide HO5).lt k hk).1))
              have HO6 := hide hown
              clear hown hgrow hat hlt6
              go_wp2
              go_roundw
              case rel => exact ⟨n + 1, n, some ⟨q, 0, none⟩, cap', rfl, Or.inr (by omega), by go_num, by rw [unhide HE, List.length_append]; rfl, Lib.hid ⟨by rw [unhide HE, List.length_append, List.map_append]; exact unhide HO6, unhide HB6⟩⟩
              case measure => simp [intOf]; omega
            · have n1' : ¬ (n : Int) = 1 := by omega
              have n1b : ((n : Int) == 1) = false := by rw [beq_eq_false_iff_ne]; exact n1'
              have t1 := (tb_no hf).2
              clear hf
              have hb5 := (Below.refl wp.heap.size wp).alloc (Nat.le_refl _) (.cells #[.int .i64 (n : Int)] 3)
              have hB5 := onward (unhide HB) hb5
              have HB5 := hide hB5
              have HO5 := hide (owns_below (unhide HO) hb5)
              have HN := hide (World.news_of_block (heap_alloc_new wp (.cells #[.int .i64 (n : Int)] 3)))
              have hz5 := hB5.size
              have k8 : k ≤ 8 := by omega
              clear hb5 hB5 hk
              go_wp2_with (at_builtin; refine wpList_append_lies _ rfl _ _ 30 rfl wo.heap.size 3 i0 (.int .i64 0) 1 8 Tryd.underlying30 (unhide HI0) (unhide HIA) (unhide HIB) (unhide HIC) rfl (by decide) _ _ _ rfl (unhide HO5) ⟨wp.heap.size, 0, none⟩ 1 1 [.int .i64 (n : Int)] rfl rfl (unhide HN) (fun u hu => by rw [List.mem_singleton.1 hu]; rfl) (by decide) (by unfold maxLen; omega) (by omega) hz5 _ rfl ?_)
              intro q cap' w6 hown hgrow hat hlt6
              have HB6 := hide ((unhide HB5).grown hgrow hz5 (fun k hk => ((unhide HO5).lt k hk).1))
              have HO6 := hide hown
              clear hown hgrow hat hlt6
              go_wp2
              go_roundw
              case rel => exact ⟨n + 1, n, some ⟨q, 0, none⟩, cap', rfl, Or.inr (by omega), by go_num, by rw [unhide HE, List.length_append]; rfl, Lib.hid ⟨by rw [unhide HE, List.length_append, List.map_append]; exact unhide HO6, unhide HB6⟩⟩
              case measure => simp [intOf]; omega
        · obtain rfl : k = top - 1 := by omega
          have l8 : ¬ (n : Int) < (top : Int) := by omega
          have hlen := wantN_len (tb x) top (top - 1)
          have hbp := (unhide HBX).below (unhide HB)
          have hOp := nums_own (unhide HO) (unhide HBX).lt
          have HM := hide (gaps_missing hbp (unhide HT))
          have HBP := hide hbp
          have HOP := hide hOp
          have HXB := hide hbp.box
          have HBW := hide (onward (unhide HBO) (unhide HB))
          clear hbp hOp HO hk
          generalize wantN (tb x) top (top - 1) = L at *
          go_wp2_with (first
            | (refine wpList_loadI (unhide HXB) rfl _ rfl rfl ?_)
            | (go_at_call 21; refine (unhide HM).mono ?_; rintro e w3 ⟨A3, c3, rfl, hn3, hb3⟩; have HN3 := hide hn3; have HB3 := hide hb3; clear hn3 hb3)
            | (go_at_call 13; refine (kints_any _ _ _ _ _ _ _ _ (by omega) (unhide HN3) ((unhide HOP).keep (unhide HB3))).mono ?_; rintro e w4 ⟨rfl, hb4⟩; have HB4 := hide (onward (unhide HB3) hb4); have HX4 := hide ((unhide HBP).below (unhide HB4)).box; clear hb4; rw [decide_eq_true rfl])
            | (refine wpList_loadI (unhide HX4) rfl _ rfl rfl ?_))
          have hb4 := (unhide HBP).below (unhide HB4)
          have HB5 := hide (onward (unhide HBW) (unhide HB4))
          by_cases e : top = 0
          · have z0 : ((top : Int) == 0) = true := by rw [e]; rfl
            have HS := hide (show Calls Tryd.prog 25 #[ibV 8 A ss.length c, .string CPH] w4 fun e w' => e = .returned (.tuple #[ibV 0 none 0 0, .slice none 0 0, .int .i64 6]) ∧ Below w4.heap.size w4 w' by
              subst e
              obtain rfl := gaps_none hb4.mod
              exact skip_none X 8 A c [] CPH w4 hb4.ins (by simp) (mono_nil _ _) rfl)
            clear hb4 e
            refine (unhide HS).mono ?_
            rintro e w5 ⟨rfl, hb5⟩
            obtain ⟨W6, hW6⟩ : ∃ W6 : World, w5.alloc (ibO 0 none 0 0) = W6 := ⟨_, rfl⟩
            have b6 : Below w5.heap.size w5 W6 := by rw [← hW6]; exact (Below.refl _ _).alloc (Nat.le_refl _) _
            have hX6 : W6.heap[w5.heap.size]? = some (ibO 0 none 0 0) := by rw [← hW6]; exact heap_alloc_new w5 _
            have HB6 := hide (below_setRow (onward (onward (unhide HB5) hb5) b6) (onward (unhide HB5) hb5).size #[.int .i64 0, .slice none 0 0])
            have HX6 := hide hX6
            clear hb5 b6 hX6
            go_wp2_with (first
              | (refine wpList_storeI (unhide HX6) 0 none 0 0 rfl _ _ rfl rfl rfl rfl ?_)
              | (go_at_call 22; refine (awake_inb _ ((unhide HK).keep (unhide HB6))).mono ?_; rintro e w7 ⟨rfl, hb7⟩; have HB7 := hide (onward (unhide HB6) hb7); clear hb7))
            go_ret
            exact ⟨rfl, unhide HB7⟩
          · have z0 : ((top : Int) == 0) = false := by rw [beq_eq_false_iff_ne]; omega
            obtain ⟨t, h2, htop, hf, hn'⟩ := first_G (unhide HT) e
            have t8 : t ≤ 8 := by omega
            have HS := hide (gaps_skip hb4 (unhide HT) e h2 t8 hf hn')
            have HF := hide hf
            have HN' := hide hn'
            clear hb4 e hf hn'
            refine (unhide HS).mono ?_
            rintro e w5 ⟨A', n', c', g, off, r, co, hr1, hr8, rfl, hc1, hc2, hb5⟩
            obtain ⟨W6, hW6⟩ : ∃ W6 : World, w5.alloc (ibO 8 A' n' c') = W6 := ⟨_, rfl⟩
            have b6 : Below w5.heap.size w5 W6 := by rw [← hW6]; exact (Below.refl _ _).alloc (Nat.le_refl _) _
            have K1 := hide (kept b6 hc1)
            have K2 := hide (kept b6 hc2)
            have HB6 := hide (onward (onward (unhide HB5) hb5) b6)
            clear hb5 b6 hc1 hc2
            go_wp2_with (refine wpList_storeI_new (g := w5.heap.size) rfl 8 A' n' c' rfl _ _ rfl rfl rfl rfl ?_)
            clear hW6
            go_loop [16] (fun i => ∃ m : Nat, 2 ≤ m ∧ m ≤ t ∧ i = .int .i64 m) (fun i => t - (intOf i).toNat)
            case atStart => exact ⟨2, by omega, h2, rfl⟩
            case round =>
              obtain ⟨m, hm2, hmt, rfl⟩ := hrel
              have hwu : IntKind.u64.wrap (m : Int) = (m : Int) := by rw [IntKind.wrap_u64]; omega
              by_cases hlt : m < t
              · have t1 := (tb_no (unhide HN' m hm2 hlt)).2
                go_wp2_with fail
                go_round
                case rel => exact ⟨m + 1, by omega, by omega, by go_num⟩
                case measure => simp [intOf]; omega
              · obtain rfl : m = t := by omega
                have t1 := (tb_yes (unhide HF)).2
                have c1 := unhide K1
                have c2 := unhide K2
                have r1 : (1 : Int) ≤ (r : Int) := by omega
                go_wp2_with (go_at_call 22; refine (awake_inb _ ((unhide HK).keep (unhide HB6))).mono ?_; rintro e w7 ⟨rfl, hb7⟩; have HB7 := hide (onward (unhide HB6) hb7); clear hb7)
                go_ret
                exact ⟨rfl, unhide HB7⟩
theorem gaps_law (x : Int) (_wx : (Lit.int .i64 x).wf = true) {w : World} (hK : Keys w) :
    Calls Tryd.prog 6 #[.int .i64 x] w fun e w' => e = .returned (.bool true) ∧ Below w.heap.size w w' := gaps_any x w hK
end Go.Proofs.YtcjdjdganaokfaaDoor
