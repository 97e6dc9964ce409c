/-
  Lanes (layer 17): the document's own Chain and Check.
-/
import Derived.Test.YtmmhchhekmcihaaLanA
import Derived.Test.YtmmhchhekmcihaaAppK
namespace Go.Proofs.Ytmmhchhekmcihaa
open Go.RowKit

theorem wpList_append_any {P : Program} {w : World} {ops : Array Oper} {rest : List Oper} {o : Oper} {a : Act} {Q : Exit → Act → World → Prop} (hgd : o.guard = none) (s x : Operand) (t : TypeId)
    (ho : o.op = .call { callee := .builtin .append, args := #[s, x], argTypes := #[t, t] })
    (base : Nat) (e : TypeId) (i : TypeInfo) (z : Value) (size bytes : Nat) (ht : P.underlying t = some (.slice e)) (hi : P.info? e = some i) (hz : i.zero = some z)
    (hsize : i.size = size) (hby : i.bytes = bytes) (hzs : z.cells.size = size) (hsz : 0 < size)
    (v : Value) (n : Nat) (xs : List Value) (hs : a.eval s = v) (hown : w.ownsRow base e size v n xs)
    (A : Option Addr) (m c : Nat) (news : List Value) (hx : a.eval x = .slice A m c) (hl : news.length = m * size) (hsrc : 0 < m → ∃ g off, A = some ⟨g, off, none⟩ ∧ ∀ j u, news[j]? = some u → w.cell? ⟨g, off + j, none⟩ = some u) (h1 : ∀ u ∈ news, u.oneCell' = true)
    (h63 : n + m ≤ maxLen) (hbytes : (n + m) * bytes ≤ 140737488355328) (hbase : base ≤ w.heap.size)
    (h : ∀ v' w', w'.ownsRow base e size v' (n + m) (xs ++ news) → w.grownBy w' v.ownBlock → (v'.ownBlock = v.ownBlock ∨ v'.ownBlock = some w.heap.size) → wpList P ops Q rest (a.put o.dst v') w') : wpList P ops Q (o :: rest) a w :=
  wpList_plain hgd fun _ hK => wp_append_any s x t ho base e i z size bytes ht hi hz hsize hby hzs hsz v n xs hs hown A m c news hx hl hsrc h1 h63 hbytes hbase fun v' w' a1 a2 a3 => hK _ _ (h v' w' a1 a2 a3)
/-- A slice of one number that was just built is a row of the call's own. -/
theorem own_one {w : World} {base : Nat} (x : Int) (hb : base ≤ w.heap.size) : (w.alloc (.cells #[.int .i64 x] 3)).ownsRow base 3 1 (.slice (some ⟨w.heap.size, 0, none⟩) 1 1) 1 [.int .i64 x] :=
  ⟨rfl, .inr ⟨w.heap.size, 1, #[.int .i64 x], rfl, hb, heap_alloc_new w _, Nat.le_refl _, by unfold maxLen; omega, rfl, rfl⟩⟩
theorem nums_src {b : Nat} {w : World} {A : Option Addr} {l : List Int} (h : NumsIn b w A l) : 0 < l.length → ∃ g off, A = some ⟨g, off, none⟩ ∧ ∀ j u, (l.map (Value.int .i64))[j]? = some u → w.cell? ⟨g, off + j, none⟩ = some u := fun hn => by
  obtain ⟨g, off, e, _, hc⟩ := h hn
  refine ⟨g, off, e, fun j u hu => ?_⟩
  rw [List.getElem?_map] at hu
  obtain ⟨hj, he⟩ : ∃ hj : j < l.length, Value.int .i64 l[j] = u := by
    cases hq : l[j]? with
    | none => rw [hq] at hu; cases hu
    | some y => rw [hq] at hu; obtain ⟨hj, e⟩ := List.getElem?_eq_some_iff.1 hq; exact ⟨hj, by rw [e]; injection hu⟩
  rw [hc j hj, at_k hj, he]
theorem cnt_pos_val {due : List Int} (h : cntR due ≠ 0) : valE due = 0 ∧ 0 < cntF due := by
  unfold cntR at h
  split at h
  · rename_i h1; exact ⟨h1, by omega⟩
  · exact absurd rfl h
theorem asgF_step {due : List Int} {a q : Nat} (ha : a < due.length) (he : (asgF due).getD a 0 = q + 1) : isLast (asgF due) a q (lastI (asgF due) q a) ∧ lastI (asgF due) q a < due.length ∧ (asgF due).getD (lastI (asgF due) q a) 0 = q := by
  obtain ⟨j, h1, h2⟩ := (asgF_inv due).back a q ha he
  have e : lastI (asgF due) q a = j := lastI_is h1
  rw [e]
  have := h1.1
  exact ⟨h1, by omega, h1.2.1⟩
set_option maxHeartbeats 2000000 in
set_option maxRecDepth 100000 in
theorem rchain_any (b : Nat) (due : List Int) (A : Option Addr) (c : Nat) (w : World) (h : NumsIn b w A due) :
    Calls Try.prog 17 #[.slice A due.length c] w fun e w' => ∃ A' c', e = .returned (.slice A' (chnR due).length c') ∧ GivesN w (chnR due) w' A' c' := by
  have HA := hide (rassign_any b due A c w h)
  have HCn := hide (fun W (hb : Below w.heap.size w W) => rcount_any b due A c W (h.keep hb))
  clear h
  go_enter Try.func17, Try.ntmps17
  go_wp2_with fail
  refine (unhide HA).mono ?_
  rintro e w2 ⟨A2, c2, rfl, hg⟩
  have HG := hide hg
  have HCn2 := hide ((unhide HCn) w2 hg.2)
  clear hg HA HCn
  go_wp2_with fail
  refine (unhide HCn2).mono ?_
  rintro e w3 ⟨rfl, hb3⟩
  have HB3 := hide (onward (unhide HG).2 hb3)
  have HR3 := hide (fun W (hb : Below w3.heap.size w3 W) => (((unhide HG).nums (b := w2.heap.size) (.inr (Nat.le_refl _))).keep hb3).keep hb)
  clear hb3 HCn2 HG
  by_cases h0 : cntR due = 0
  · have HE := hide (show chnR due = [] from by
      unfold chnR
      split
      · rename_i h1
        unfold cntR at h0
        rw [if_pos h1] at h0
        unfold chnF
        rw [if_pos h0]
      · rfl)
    have q : (((cntR due : Nat) : Int) == 0) = true := by rw [beq_iff_eq]; omega
    have HQ := hide h0
    clear h0
    generalize cntR due = n at *
    generalize valE due = er at *
    go_wp2
    go_ret
    rw [unhide HE]
    exact ⟨none, 0, rfl, World.ownsRow_nil _ _ _ _, unhide HB3⟩
  obtain ⟨hv, hcp⟩ := cnt_pos_val h0
  have HEa := hide (show asgR due = asgF due from if_pos hv)
  have HEc := hide (show cntR due = cntF due from if_pos hv)
  have HEh := hide (show chnR due = chnF due from if_pos hv)
  have HOk := hide (val_ok hv)
  have HLn := hide (asgF_len due)
  have hz := (unhide HOk).1
  have hcl := cntR_le due
  rw [unhide HEc] at h0 hcl ⊢
  rw [unhide HEa] at HR3 ⊢
  rw [hv]
  obtain ⟨f1, f2, f3⟩ := firstI_spec (L := asgF due) (lane := cntF due - 1) (by rw [asgF_len]; exact asgF_has due (by omega))
  rw [asgF_len] at f1
  have HF := hide (show chnF due = preC (asgF due) (firstI (asgF due) (cntF due - 1)) (cntF due - 1) ++ [firstI (asgF due) (cntF due - 1)] from if_neg (by omega))
  have HSt := hide (fun a q (ha : a < due.length) (he : (asgF due).getD a 0 = q + 1) => asgF_step ha he)
  have HPre : ∀ a q, Hid (preC (asgF due) a (q + 1) = preC (asgF due) (lastI (asgF due) q a) q ++ [lastI (asgF due) q a]) := fun a q => hide rfl
  obtain ⟨n, hn⟩ : ∃ n, cntF due = n + 1 := ⟨cntF due - 1, by omega⟩
  rw [hn] at f1 f2 f3 HF hcl ⊢
  rw [show n + 1 - 1 = n by omega] at f1 f2 f3 HF
  have HF1 := hide f1
  have HF2 := hide f2
  have HF3 := hide f3
  clear hv hcp h0 f1 f2 f3 hn HEc HEa
  obtain ⟨i0, hi, hz0, hz1, hz2⟩ := info_parts linfo_int
  have HI0 := hide hi
  have HZ0 := hide hz0
  have HZ1 := hide hz1
  have HZ2 := hide hz2
  clear hi hz0 hz1 hz2
  rw [unhide HLn]
  generalize hL : asgF due = L at *
  clear hL
  generalize hfi : firstI L n = fi at *
  clear hfi
  have hwn : IntKind.i64.wrap (((n + 1 : Nat) : Int) - 1) = (n : Int) := by rw [IntKind.wrap_i64]; omega
  have hwn2 : IntKind.i64.wrap (((n + 1 : Nat) : Int) - 2) = (n : Int) - 1 := by rw [IntKind.wrap_i64]; omega
  have qn : ((((n + 1 : Nat) : Int)) == 0) = false := by rw [beq_eq_false_iff_ne]; omega
  have HR3L := hide (fun W (hb : Below w3.heap.size w3 W) => by
    have h9 := (unhide HR3) W hb
    exact h9)
  go_wp2
  go_loop [6] (fun s6 => ∃ k : Nat, k ≤ fi ∧ s6 = .int .i64 k) (fun s6 => fi - (intOf s6).toNat)
  case atStart => exact ⟨0, Nat.zero_le _, rfl⟩
  case round =>
    obtain ⟨k, hk, rfl⟩ := hrel
    have hfl := unhide HF1
    have kl : (k : Int) < (due.length : Int) := by omega
    have k0 : (0 : Int) ≤ (k : Int) := by omega
    obtain ⟨g, off, rfl, c0⟩ := num_cell ((unhide HR3) w3 (Below.refl _ _)) (i := k) (by rw [nI_len, unhide HLn]; omega)
    rw [nI_at (by rw [unhide HLn]; omega)] at c0
    by_cases hkf : k < fi
    · have hne := (unhide HF3) k hkf
      generalize L.getD k 0 = y at *
      have q : ((y : Int) != (n : Int)) = true := by rw [bne_iff_ne]; omega
      clear hne
      go_wp2
      go_round
      case rel => exact ⟨k + 1, by omega, by go_num⟩
      case measure => simp [intOf]; omega
    · obtain rfl : k = fi := by omega
      rw [unhide HF2] at c0
      have q : ((n : Int) != (n : Int)) = false := by simp
      clear hkf hk
      have by0 := (Below.refl w3.heap.size w3).alloc (Nat.le_refl _) (.cells #[.int .i64 k] 3)
      have H0 := hide (show Below w3.heap.size w3 (w3.alloc (.cells #[.int .i64 k] 3)) ∧ (w3.alloc (.cells #[.int .i64 k] 3)).ownsRow w.heap.size 3 1 (.slice (some ⟨w3.heap.size, 0, none⟩) ([k] : List Nat).length 1) ([k] : List Nat).length ((nI [k]).map (Value.int .i64)) from ⟨by0, own_one _ (unhide HB3).size⟩)
      clear by0
      go_wp2
      go_loopw [6, 7, 8] (fun s6 s7 s8 wr => ∃ (q at_ : Nat) (out : List Nat) (A' : Option Addr) (c' : Nat), q ≤ n ∧ at_ < due.length ∧ s6 = .int .i64 at_ ∧ s7 = .slice A' out.length c' ∧ s8 = .int .i64 ((q : Int) - 1) ∧ out.length + q = n + 1 ∧ Hid (L.getD at_ 0 = q ∧ chnF due = preC L at_ q ++ out) ∧ Hid (Below w3.heap.size w3 wr ∧ wr.ownsRow w.heap.size 3 1 (.slice A' out.length c') out.length ((nI out).map (Value.int .i64)))) (fun _ _ s8 _ => ((intOf s8) + 1).toNat)
      case atStart => exact ⟨n, k, [k], some ⟨w3.heap.size, 0, none⟩, 1, Nat.le_refl _, unhide HF1, rfl, rfl, by first | rfl | (rw [show ((n : Int) + 1 - 2) = (n : Int) - 1 by omega]), by simp; omega, hide ⟨unhide HF2, unhide HF⟩, H0⟩
      case round =>
        obtain ⟨q, at_, out, A', c', hq, hat, rfl, rfl, rfl, hol, HI, HP⟩ := hrel
        obtain ⟨wo, rfl⟩ : ∃ wo : World, wo = wr := ⟨_, rfl⟩
        clear H0
        cases q with
        | zero =>
          go_wp2
          go_ret
          have e : chnF due = out := (unhide HI).2
          rw [unhide HEh, e]
          exact ⟨A', c', rfl, (unhide HP).2, onward (unhide HB3) (unhide HP).1⟩
        | succ q =>
          obtain ⟨l1, l2, l3⟩ := (unhide HSt) at_ q hat (unhide HI).1
          have HCal := hide (rlast_any w2.heap.size L at_ q (lastI L q at_) _ c2 wo l1 (by rw [unhide HLn]; omega) (by rw [unhide HLn]; omega) ((unhide HR3) wo (unhide HP).1))
          have HCh := hide (show chnF due = preC L (lastI L q at_) q ++ (lastI L q at_ :: out) by rw [(unhide HI).2, unhide (HPre at_ q), List.append_assoc]; rfl)
          rw [unhide HLn] at HCal
          generalize lastI L q at_ = j at *
          have HL3 := hide l3
          have HL2 := hide l2
          have hs8 : (((q + 1 : Nat) : Int) - 1) = (q : Int) := by omega
          have q0 : (0 : Int) ≤ (q : Int) := by omega
          rw [hs8]
          clear l1 l3 hs8
          have bx := (Below.refl wo.heap.size wo).alloc (Nat.le_refl _) (.cells #[.int .i64 j] 3)
          have HB2 := hide (onward (unhide HP).1 bx)
          have HO2 := hide (show (wo.alloc (.cells #[.int .i64 j] 3)).ownsRow w.heap.size 3 1 (.slice (some ⟨wo.heap.size, 0, none⟩) 1 1) 1 [.int .i64 j] from own_one _ (by have h1 := (unhide HP).1.size; have h2 := (unhide HB3).size; omega))
          have HSrc := hide (nums_src ((nums_own (n := out.length) (unhide HP).2 (b := wo.heap.size) (.inr (Nat.le_refl _))).keep bx))
          have hz2 : w.heap.size ≤ (wo.alloc (.cells #[.int .i64 j] 3)).heap.size := by have h1 := (unhide HP).1.size; have h2 := (unhide HB3).size; rw [World.size_alloc]; omega
          clear bx
          go_wp2_with (first
            | (go_at_call 37; refine (unhide HCal).mono ?_; rintro e wz ⟨rfl, hwz⟩; subst wz)
            | (at_builtin; refine wpList_append_any rfl _ _ 22 rfl w.heap.size 3 i0 (.int .i64 0) 1 8 Try.underlying22 (unhide HI0) (unhide HZ0) (unhide HZ1) (unhide HZ2) rfl (by decide) _ _ _ rfl (unhide HO2) A' out.length c' ((nI out).map (Value.int .i64)) rfl (by rw [List.length_map, nI_len, Nat.mul_one]) (fun hp => (unhide HSrc) (by rw [nI_len]; exact hp)) (fun u hu => by obtain ⟨y, _, rfl⟩ := List.mem_map.1 hu; rfl) (by unfold maxLen; omega) (by omega) hz2 ?_))
          intro v6 w6 hown hgrow hat6
          obtain ⟨A6, c6, rfl⟩ := own_form hown
          have HB6 := hide ((unhide HB2).grown hgrow (unhide HB2).size (fun q9 e => by
            have e9 : some wo.heap.size = some q9 := e
            injection e9 with e9
            have := (unhide HP).1.size
            omega))
          have HO6 := hide hown
          clear hown hgrow hat6
          go_wp2
          go_roundw
          case rel => exact ⟨q, j, j :: out, A6, c6, by omega, unhide HL2, rfl, by rw [List.length_cons, Nat.add_comm out.length 1], by first | rfl | go_num, by rw [List.length_cons]; omega, hide ⟨unhide HL3, unhide HCh⟩, hide ⟨unhide HB6, by rw [List.length_cons, Nat.add_comm out.length 1]; exact unhide HO6⟩⟩
          case measure => simp [intOf] <;> omega
theorem neg_step {l : List Int} {k : Nat} (hk : k < l.length) (h : ∀ x ∈ l.take k, 0 ≤ x) (hx : 0 ≤ l.getD k 0) : ∀ x ∈ l.take (k + 1), 0 ≤ x := fun x hm => by
  rw [List.take_succ_eq_append_getElem hk, List.mem_append, List.mem_singleton] at hm
  rcases hm with hm | hm
  · exact h x hm
  · rw [hm, ← at_k hk (d := (0 : Int))]; exact hx
/-- Good as far as bag i, and there as far as k. -/
def goodK (due l : List Int) (i : Nat) : Prop := ∀ a b, a < b → b < i → l.getD a 0 = l.getD b 0 → due.getD a 0 ≤ due.getD b 0
def goodJ (due l : List Int) (i k : Nat) : Prop := ∀ a, a < k → l.getD a 0 = l.getD i 0 → due.getD a 0 ≤ due.getD i 0
theorem goodK_step {due l : List Int} {i : Nat} (h : goodK due l i) (h2 : goodJ due l i i) : goodK due l (i + 1) := fun a b hab hb he => by
  by_cases e : b = i
  · subst e; exact h2 a hab he
  · exact h a b hab (by omega) he
theorem goodJ_step {due l : List Int} {i k : Nat} (h : goodJ due l i k) (h2 : l.getD k 0 = l.getD i 0 → due.getD k 0 ≤ due.getD i 0) : goodJ due l i (k + 1) := fun a ha he => by
  by_cases e : a = k
  · subst e; exact h2 he
  · exact h a (by omega) he
theorem chk_len {due l : List Int} (hv : valE due = 0) (h : l.length ≠ due.length) : chkE due l = 1 := by unfold chkE; rw [if_neg (by simp [hv]), if_pos h]
theorem chk_neg {due l : List Int} (hv : valE due = 0) (h : l.length = due.length) {k : Nat} (hk : k < l.length) (hn : l.getD k 0 < 0) : chkE due l = 1 := by
  have : negb l = true := by
    cases hb : negb l with
    | true => rfl
    | false =>
      have := negb_iff.1 hb _ (show l.getD k 0 ∈ l by rw [at_k hk]; exact List.getElem_mem _)
      omega
  unfold chkE
  rw [if_neg (by simp [hv]), if_neg (by simp [h]), if_pos this]
theorem chk_good {due l : List Int} (hv : valE due = 0) (h : l.length = due.length) (hn : ∀ x ∈ l, 0 ≤ x) (hg : goodK due l l.length) : chkE due l = 0 := by
  unfold chkE
  rw [if_neg (by simp [hv]), if_neg (by simp [h]), if_neg (by rw [negb_iff.2 hn]; simp), if_pos (goodb_iff.2 hg)]
theorem chk_bad {due l : List Int} (hv : valE due = 0) (h : l.length = due.length) (hn : ∀ x ∈ l, 0 ≤ x) {k i : Nat} (hki : k < i) (hi : i < l.length) (he : l.getD k 0 = l.getD i 0) (hd : ¬ due.getD k 0 ≤ due.getD i 0) : chkE due l = 9 := by
  unfold chkE
  rw [if_neg (by simp [hv]), if_neg (by simp [h]), if_neg (by rw [negb_iff.2 hn]; simp), if_neg (fun hg => hd (goodb_iff.1 hg k i hki hi he))]
set_option maxHeartbeats 2000000 in
set_option maxRecDepth 100000 in
theorem rcheck_any (b : Nat) (due l : List Int) (A A' : Option Addr) (c c' : Nat) (w : World) (hz : l.length ≤ 1000000) (h : NumsIn b w A due) (h' : NumsIn b w A' l) :
    Calls Try.prog 19 #[.slice A due.length c, .slice A' l.length c'] w fun e w' => e = .returned (.int .i64 (chkE due l)) ∧ Below w.heap.size w w' := by
  have HVa := hide (rvalid_any b due A c w h)
  have HD := hide (fun W (hb : Below w.heap.size w W) => NumsIn.keep h hb)
  have HL := hide (fun W (hb : Below w.heap.size w W) => NumsIn.keep h' hb)
  clear h h'
  by_cases hv : valE due = 0
  case neg =>
    have HE := hide (show chkE due l = valE due from if_pos hv)
    have q : (valE due != 0) = true := by rw [bne_iff_ne]; exact hv
    clear hv
    go_enter Try.func19, Try.ntmps19
    go_wp2_with (go_at_call 36; refine (unhide HVa).mono ?_; rintro e wz ⟨rfl, hwz⟩; subst wz)
    go_ret
    exact ⟨by rw [unhide HE]; rfl, Below.refl _ _⟩
  have HV := hide hv
  rw [hv] at HVa
  have HVa := hide (unhide HVa)
  clear hv
  by_cases hl : l.length = due.length
  case neg =>
    have HE := hide (chk_len (unhide HV) hl)
    have q : ((l.length : Int) != (due.length : Int)) = true := by rw [bne_iff_ne]; omega
    clear hl
    go_enter Try.func19, Try.ntmps19
    go_wp2_with (go_at_call 36; refine (unhide HVa).mono ?_; rintro e wz ⟨rfl, hwz⟩; subst wz)
    go_ret
    exact ⟨by rw [unhide HE]; rfl, Below.refl _ _⟩
  have HE := hide hl
  have q : ((l.length : Int) != (due.length : Int)) = false := by rw [bne_eq_false_iff_eq]; omega
  clear hl
  go_enter Try.func19, Try.ntmps19
  go_wp2_with (go_at_call 36; refine (unhide HVa).mono ?_; rintro e wz ⟨rfl, hwz⟩; subst wz)
  go_loop [6] (fun s6 => ∃ k : Nat, k ≤ l.length ∧ s6 = .int .i64 k ∧ Hid (∀ x ∈ l.take k, 0 ≤ x)) (fun s6 => l.length - (intOf s6).toNat)
  case atStart => exact ⟨0, Nat.zero_le _, rfl, Lib.hid fun x hx => by simp at hx⟩
  case round =>
    obtain ⟨k, hk, rfl, HJ⟩ := hrel
    by_cases hlt : k < l.length
    · obtain ⟨g, off, rfl, c0⟩ := num_cell ((unhide HL) w (Below.refl _ _)) hlt
      have kl : (k : Int) < (l.length : Int) := by omega
      have k0 : (0 : Int) ≤ (k : Int) := by omega
      have HB := hide (fun h => chk_neg (unhide HV) (unhide HE) hlt h)
      have HS := hide (fun h => neg_step hlt (unhide HJ) h)
      generalize l.getD k 0 = x at *
      by_cases x0 : x < 0
      · have HEx := hide (unhide HB x0)
        go_wp2
        go_ret
        exact ⟨by rw [unhide HEx]; rfl, Below.refl _ _⟩
      · have HEx := hide (unhide HS (by omega))
        go_wp2
        go_round
        case rel => exact ⟨k + 1, by omega, by go_num, HEx⟩
        case measure => simp [intOf]; omega
    · have kl : ¬ (k : Int) < (l.length : Int) := by omega
      have HNn := hide (show ∀ x ∈ l, 0 ≤ x by
        have h9 := unhide HJ
        rwa [List.take_of_length_le (by omega)] at h9)
      clear HJ hlt
      go_wp2
      go_loopw [7] (fun s7 wr => ∃ i : Nat, i ≤ l.length ∧ s7 = .int .i64 i ∧ Hid (goodK due l i) ∧ Hid (Below w.heap.size w wr)) (fun s7 _ => l.length - (intOf s7).toNat)
      case atStart => exact ⟨0, Nat.zero_le _, rfl, Lib.hid fun a b _ hb => absurd hb (Nat.not_lt_zero _), hide (Below.refl _ _)⟩
      case round =>
        obtain ⟨i, hi, rfl, HG, HB⟩ := hrel
        obtain ⟨wo, rfl⟩ : ∃ wo : World, wo = wr := ⟨_, rfl⟩
        by_cases hil : i < l.length
        · have il : (i : Int) < (l.length : Int) := by omega
          have i0 : (0 : Int) ≤ (i : Int) := by omega
          have ild : (i : Int) < (due.length : Int) := by have := unhide HE; omega
          go_upto_region 15 with fail
          go_loopw [8] (fun s8 wr => ∃ j : Nat, j ≤ i ∧ s8 = .int .i64 j ∧ Hid (goodJ due l i j) ∧ Hid (Below w.heap.size w wr)) (fun s8 _ => i - (intOf s8).toNat)
          case atStart => exact ⟨0, Nat.zero_le _, rfl, Lib.hid fun a ha => absurd ha (Nat.not_lt_zero _), HB⟩
          case round =>
            obtain ⟨j, hj, rfl, HG2, HB2⟩ := hrel
            obtain ⟨wi, rfl⟩ : ∃ wi : World, wi = wr := ⟨_, rfl⟩
            clear HB
            by_cases hji : j < i
            · have jl : (j : Int) < (i : Int) := by omega
              have j0 : (0 : Int) ≤ (j : Int) := by omega
              have jl1 : (j : Int) < (l.length : Int) := by omega
              have jl2 : (j : Int) < (due.length : Int) := by have := unhide HE; omega
              obtain ⟨g, off, rfl, _, hc⟩ := (unhide HL) wi (unhide HB2) (by omega)
              obtain ⟨g', off', rfl, _, hc'⟩ := (unhide HD) wi (unhide HB2) (by have := unhide HE; omega)
              have c0 := hc i hil
              have c1 := hc j (by omega)
              have d0 := hc' i (by have := unhide HE; omega)
              have d1 := hc' j (by have := unhide HE; omega)
              have HSt := hide (fun h => goodJ_step (unhide HG2) h)
              have HBd := hide (fun h1 h2 => chk_bad (unhide HV) (unhide HE) (unhide HNn) hji hil h1 h2)
              clear hc hc'
              generalize l.getD i 0 = li at *
              generalize l.getD j 0 = lj at *
              generalize due.getD i 0 = di at *
              generalize due.getD j 0 = dj at *
              by_cases he : lj = li
              · have qe : (lj == li) = true := by rw [beq_iff_eq]; exact he
                by_cases hd : dj ≤ di
                · have hd1 : ¬ di < dj := by omega
                  have HN := hide ((unhide HSt) (fun _ => hd))
                  clear he hd
                  go_wp2_with fail
                  go_quiet (fail)
                  go_wp2
                  go_roundw
                  case rel => exact ⟨j + 1, by omega, by go_num, HN, hide (draws (unhide HB2) _)⟩
                  case measure => simp [intOf]; omega
                · have hd1 : di < dj := by omega
                  have HN := hide ((unhide HBd) he hd)
                  clear he hd
                  go_wp2_with fail
                  go_quiet (fail)
                  go_wp2
                  go_ret
                  exact ⟨by rw [unhide HN]; rfl, draws (unhide HB2) _⟩
              · have qe : (lj == li) = false := by rw [beq_eq_false_iff_ne]; exact he
                have HN := hide ((unhide HSt) (fun h => absurd h he))
                clear he
                go_wp2_with fail
                go_quiet (fail)
                go_wp2
                go_roundw
                case rel => exact ⟨j + 1, by omega, by go_num, HN, hide (draws (unhide HB2) _)⟩
                case measure => simp [intOf]; omega
            · have jl : ¬ (j : Int) < (i : Int) := by omega
              obtain rfl : j = i := by omega
              have HN := hide (goodK_step (unhide HG) (unhide HG2))
              go_wp2
              go_roundw
              case rel => exact ⟨j + 1, by omega, by go_num, HN, HB2⟩
              case measure => simp [intOf]; omega
        · have il : ¬ (i : Int) < (l.length : Int) := by omega
          obtain rfl : i = l.length := by omega
          have HC := hide (chk_good (unhide HV) (unhide HE) (unhide HNn) (unhide HG))
          go_wp2
          go_ret
          exact ⟨by rw [unhide HC]; rfl, unhide HB⟩
end Go.Proofs.Ytmmhchhekmcihaa
