/-
  Custody (layer 16): CustodyUndone: mathematics, the custody of a law under way, the walk.
-/
import Derived.Test.YtbjpcajhceapkaaCusI
import Derived.Test.YtbjpcajhceapkaaRowX
import Derived.Test.YtbjpcajhceapkaaAnyH
import Derived.Deep.CutRange
import Derived.Deep.CutBlock
namespace Go.Proofs.Ytbjpcajhceapkaa
open Go.RowKit

theorem insSe_mem {x y : Se} : ∀ {l : List Se}, y ∈ insSe x l ↔ y = x ∨ y ∈ l
  | [] => by simp [insSe]
  | z :: l => by
    unfold insSe
    split
    · rw [List.mem_cons, insSe_mem (l := l), List.mem_cons]
      constructor
      · rintro (h | h | h)
        · exact .inr (.inl h)
        · exact .inl h
        · exact .inr (.inr h)
      · rintro (h | h | h)
        · exact .inr (.inl h)
        · exact .inl h
        · exact .inr (.inr h)
    · rw [List.mem_cons]
theorem insSe_asc {x : Se} : ∀ {l : List Se}, ascQ l → hasSe l x.bag = false → ascQ (insSe x l)
  | [], _, _ => List.pairwise_singleton _ _
  | y :: l, h, hn => by
    obtain ⟨h1, h2⟩ := List.pairwise_cons.1 h
    unfold hasSe at hn
    rw [decide_eq_false_iff_not, List.map_cons, List.mem_cons] at hn
    unfold insSe
    split
    · rename_i hy
      refine List.pairwise_cons.2 ⟨fun z hz => ?_, insSe_asc h2 (by unfold hasSe; rw [decide_eq_false_iff_not]; exact fun h => hn (.inr h))⟩
      rcases insSe_mem.1 hz with e | hz
      · rw [e]; exact hy
      · exact h1 z hz
    · rename_i hy
      have hne : x.bag ≠ y.bag := fun e => hn (.inl e)
      refine List.pairwise_cons.2 ⟨fun z hz => ?_, h⟩
      rcases List.mem_cons.1 hz with e | hz
      · rw [e]; omega
      · have := h1 z hz; omega
theorem clear_val {l : List Se} {bag im : Int} (h : ValQ l) (he : clearE l bag im = 0) : ValQ (clearL l bag im) ∧ clearL l bag im = insSe ⟨bag, im⟩ l ∧ hasSe l bag = false := by
  have hr : 1 ≤ bag ∧ bag ≤ 40 ∧ 1 ≤ im ∧ im ≤ 1048576 := by
    by_cases hr : 1 ≤ bag ∧ bag ≤ 40 ∧ 1 ≤ im ∧ im ≤ 1048576
    · exact hr
    · unfold clearE at he; rw [if_neg hr] at he; cases he
  have hh : hasSe l bag = false := by
    unfold clearE at he
    rw [if_pos hr] at he
    cases hh : hasSe l bag with
    | false => rfl
    | true => rw [hh] at he; cases he
  have e : clearL l bag im = insSe ⟨bag, im⟩ l := by unfold clearL; rw [if_pos he]
  refine ⟨?_, e, hh⟩
  rw [e]
  refine ⟨fun y hy => ?_, insSe_asc h.asc hh⟩
  rcases insSe_mem.1 hy with e | hy
  · rw [e]; exact ⟨⟨hr.1, hr.2.1⟩, hr.2.2.1, hr.2.2.2⟩
  · exact h.ok y hy
theorem rev_ins {x : Se} : ∀ {l : List Se}, hasSe l x.bag = false → hasSe (insSe x l) x.bag = true ∧ ((insSe x l).filter fun y => decide (y.bag ≠ x.bag)) = l := fun {l} hn => by
  refine ⟨by unfold hasSe; rw [decide_eq_true_eq]; exact List.mem_map.2 ⟨x, insSe_mem.2 (.inl rfl), rfl⟩, ?_⟩
  induction l with
  | nil => unfold insSe; rw [List.filter_cons_of_neg (by simp)]; rfl
  | cons y l ih =>
    unfold hasSe at hn ih
    rw [decide_eq_false_iff_not, List.map_cons, List.mem_cons] at hn
    have hy : y.bag ≠ x.bag := fun e => hn (.inl e.symm)
    have hl : (l.filter fun y => decide (y.bag ≠ x.bag)) = l := by
      rw [List.filter_eq_self]
      intro z hz
      rw [decide_eq_true_eq]
      exact fun e => hn (.inr (by rw [← e]; exact List.mem_map_of_mem hz))
    unfold insSe
    split
    · rw [List.filter_cons_of_pos (by rw [decide_eq_true_eq]; exact hy), ih (by rw [decide_eq_false_iff_not]; exact fun h => hn (.inr h))]
    · rw [List.filter_cons_of_neg (by simp), List.filter_cons_of_pos (by rw [decide_eq_true_eq]; exact hy), hl]

/-- A custody under way in its box X, the reader R; its seals lie behind X. -/
structure UnS (w0 : World) (R X : Nat) (l : List Se) (A : Option Addr) (c : Nat) (W : World) : Prop where
  src : Src R R W
  box : W.heap[X]? = some (cusO A l.length c)
  ck : ∀ b, b ≤ X → SesIn b W A l
  cap : l.length ≤ c
  bel : Below w0.heap.size w0 W
  lo : w0.heap.size ≤ R
  lt : R < X
  val : ValQ l
/-- Behind a call: what it gave lies in box Gn. -/
structure UnN (w0 : World) (R X Gn : Nat) (l : List Se) (A : Option Addr) (c : Nat) (o : List Se) (A' : Option Addr) (c' : Nat) (W : World) : Prop where
  st : UnS w0 R X l A c W
  box : W.heap[Gn]? = some (cusO A' o.length c')
  ck : ∀ b, b ≤ X → SesIn b W A' o
  cap : o.length ≤ c'
  gx : X < Gn
section
variable {w0 W W' : World} {R X Gn : Nat} {l o : List Se} {A A' : Option Addr} {c c' : Nat}
theorem UnS.szX (h : UnS w0 R X l A c W) : X < W.heap.size := (Array.getElem?_eq_some_iff.1 h.box).1
theorem UnS.reads (h : UnS w0 R X l A c W) (hs : Src R R W') (hg : W.grownBy W' (some R)) : UnS w0 R X l A c W' :=
  ⟨hs, heap_reads h.box hg (by have := h.lt; omega), fun b hb => (h.ck b hb).grown2 (h.ck R (by have := h.lt; omega)) hg, h.cap, below_reads h.bel hg h.lo h.bel.size, h.lo, h.lt, h.val⟩
theorem UnS.below (h : UnS w0 R X l A c W) (hb : Below W.heap.size W W') : UnS w0 R X l A c W' := ⟨h.src.keep hb, heap_below h.box hb, fun b k => (h.ck b k).keep hb, h.cap, onward h.bel hb, h.lo, h.lt, h.val⟩
theorem UnS.put (h : UnS w0 R X l A c W) (ck : ∀ b, b ≤ X → SesIn b W A' o) (hc : o.length ≤ c') (hv : ValQ o) : UnS w0 R X o A' c' (W.setRow X #[.slice A' o.length c']) := by
  have h1 := h.lo
  have h2 := h.lt
  exact ⟨h.src.grown (row := some X) (grown_row W X _) (fun k hk => by injection hk with hk; omega), setRow_heap W X _ _ _ _ h.box, fun b hb => (ck b hb).row2 (ck X (Nat.le_refl _)) _, hc, below_row h.bel (by omega) _, h1, h2, hv⟩
theorem UnN.late (h : UnS w0 R X l A c W) (hb : Below W.heap.size W W') (hC : ∀ b, b < W.heap.size ∨ W'.heap.size ≤ b → SesIn b W' A' o) (hc : o.length ≤ c') : UnN w0 R X W'.heap.size l A c o A' c' (W'.alloc (cusO A' o.length c')) :=
  have b1 := (Below.refl W'.heap.size W').alloc (Nat.le_refl _) (cusO A' o.length c')
  ⟨(h.below hb).below b1, heap_alloc_new W' _, fun b k => (hC b (.inl (by have := h.szX; omega))).keep b1, hc, by have := h.szX; have := hb.size; omega⟩
theorem UnN.early {A2 : Option Addr} {n2 c2 : Nat} (h : UnS w0 R X l A c W) (hN : W.heap[Gn]? = some (cusO A2 n2 c2)) (hX : X < Gn) (hA : SesIn Gn W A l) (hb : Below W.heap.size W W') (hC : ∀ b, b < W.heap.size ∨ W'.heap.size ≤ b → SesIn b W' A' o) (hc : o.length ≤ c') : UnN w0 R X Gn l A c o A' c' (W'.setRow Gn #[.slice A' o.length c']) := by
  have hn := (Array.getElem?_eq_some_iff.1 hN).1
  have h1 := h.below hb
  have hr := h.lt
  refine ⟨⟨h1.src.grown (row := some Gn) (grown_row W' Gn _) (fun k hk => by injection hk with hk; omega), by rw [setRow_other _ _ _ _ (by omega)]; exact h1.box, fun b k => (h1.ck b k).row2 (hA.keep hb) _, h1.cap, below_row h1.bel (by have := h.lo; omega) _, h1.lo, h1.lt, h1.val⟩,
    setRow_heap W' Gn _ _ _ _ (heap_below hN hb), fun b k => (hC b (.inl (by omega))).row2 (hC Gn (.inl hn)) _, hc, hX⟩
theorem UnN.below (h : UnN w0 R X Gn l A c o A' c' W) (hb : Below W.heap.size W W') : UnN w0 R X Gn l A c o A' c' W' := ⟨h.st.below hb, heap_below h.box hb, fun b k => (h.ck b k).keep hb, h.cap, h.gx⟩
end
section
variable {P : Program} {ops : Array Oper} {Q : Exit → Act → World → Prop} {md : Region.Mode} {S : World → Prop}
theorem wpList_loadCu_w {rest : List Oper} {o : Oper} {a : Act} {W : World} {A : Option Addr} {n c g : Nat} (hg : W.heap[g]? = some (cusO A n c)) (x : Operand) (ho : o.op = .load 27 x) (hx : a.eval x = .pointer (some ⟨g, 0, none⟩)) (hw : Region.wanted o (yielded ops a.tmps) = true)
    (h : wpList Try.prog ops Q rest (a.put o.dst (cusV A n c)) W) : wpList Try.prog ops Q (o :: rest) a W :=
  BigFrame.wpList_want hw fun _ hK => wp_load_row _ x ho g hx 27 #[.slice A n c] (0, 0) _ hg Try.underlying27 rfl infoCu (hK _ _ h)
theorem yields_loadCu {o : Oper} {a : Act} {g : Nat} {A : Option Addr} {n c : Nat} (x : Operand) (ho : o.op = .load 27 x)
    (hx : a.eval x = .pointer (some ⟨g, 0, none⟩)) (hw : Region.wanted o (yielded ops a.tmps) = true) (hS : ∀ w, S w → w.heap[g]? = some (cusO A n c)) : YieldsIf Try.prog ops S o (cusV A n c) a := by
  refine .inl ⟨hw, fun w hs => ?_⟩
  unfold execOp
  simp only [ho, hx, Instr.loadAt, Instr.sureAddr, Sem.run_bind, Sem.run_pure, Result.andThen_ok, run_loadVar_row w g 27 27 _ (0, 0) _ (hS w hs) Try.underlying27 rfl infoCu]
end

set_option maxRecDepth 100000 in
set_option maxHeartbeats 1000000 in
theorem undone_any (P : CusOk) (A0 : Option Addr) (n0 c0 : Nat) (w : World) (hc : n0 ≤ c0) (hA : IntsIn w.heap.size w A0 n0) (bag : Int) :
    Calls Try.prog 6 #[.slice A0 n0 c0, .int .i64 bag] w fun e w' => e = .returned (.bool true) ∧ Below w.heap.size w w' := by
  have HP := hide P
  have HNew := hide (new_any A0 n0 c0 w hc hA)
  have HMod := hide (fun W => mod_any bag 12 W (by omega) (by omega))
  have hmr := modN_range bag 12 (by omega)
  obtain ⟨m, hm⟩ : ∃ m, modN bag 12 = m := ⟨_, rfl⟩
  rw [hm] at HMod hmr
  have HMod := hide (unhide HMod)
  have HMr := hide hmr
  clear P hA hm hmr
  go_enter Try.func6, Try.ntmps6
  go_wp2_with fail
  refine (unhide HNew).mono ?_
  rintro e w1 ⟨rfl, hs1, hb1⟩
  have b2 := (Below.refl w1.heap.size w1).alloc (Nat.le_refl _) (cusO none 0 0)
  have HO0 := hide (show UnS w w.heap.size w1.heap.size [] none 0 (w1.alloc (cusO none 0 0)) from ⟨hs1.keep b2, heap_alloc_new w1 _, fun _ _ => RowIn.nil, Nat.le_refl _, onward hb1 b2, Nat.le_refl _, hs1.lt, ⟨(fun x hx => by cases hx), List.Pairwise.nil⟩⟩)
  clear hs1 hb1 b2 HNew
  go_wp2_with fail
  obtain ⟨X, hX⟩ : ∃ X, w1.heap.size = X := ⟨_, rfl⟩
  rw [hX] at HO0 ⊢
  clear hX
  go_loopw [7] (fun iv wr => ∃ (i : Nat) (l : List Se) (A : Option Addr) (c : Nat), i ≤ 8 ∧ iv = .int .i64 i ∧ Hid (UnS w w.heap.size X l A c wr)) (fun iv _ => 8 - (intOf iv).toNat)
  case atStart => exact ⟨0, [], none, 0, Nat.zero_le _, rfl, HO0⟩
  case round =>
    obtain ⟨i, l, A, c, hi, rfl, HO⟩ := hrel
    obtain ⟨wo, rfl⟩ : ∃ wo : World, wo = wr := ⟨_, rfl⟩
    clear HO0
    by_cases hlt : i < 8
    · have il : (i : Int) < 8 := by omega
      go_wp2_with fail
      refine (moreq_any _ _ _ (unhide HO).src).mono ?_
      rintro e wm ⟨v, rfl, hbm⟩
      have HOm := hide ((unhide HO).below hbm)
      clear hbm HO
      cases v
      case' false =>
        go_wp2_with fail
        refine (unhide HMod _).mono ?_
        rintro e wy ⟨rfl, hwy⟩
        subst wy
        have hmr := unhide HMr
        obtain ⟨t, ht⟩ : ∃ t, (1 : Int) + m = t := ⟨_, rfl⟩
        have htr : 1 ≤ t ∧ t ≤ 12 := by omega
        have hw1 : IntKind.i64.wrap (1 + m) = t := by rw [IntKind.wrap_i64]; omega
        have HT := hide htr
        clear hmr ht htr
        go_wp2_with (refine wpList_loadCu (unhide HOm).box rfl _ rfl rfl ?_)
        refine ((unhide HP).clear X l t 5 A c _ (unhide HOm).val ((unhide HOm).ck X (Nat.le_refl _)) (unhide HOm).cap).mono ?_
        rintro e wd ⟨A1, c1, rfl, hC, hbd, hcd⟩
        have HN := hide (UnN.late (unhide HOm) hbd hC hcd)
        clear hC hbd hcd HOm
        obtain ⟨d, hd⟩ : ∃ d, clearL l t 5 = d := ⟨_, rfl⟩
        obtain ⟨er, her⟩ : ∃ er, clearE l t 5 = er := ⟨_, rfl⟩
        rw [hd] at HN
        rw [hd, her]
        have HD := hide hd
        have HER := hide her
        clear hd her
        go_upto_region 11 with fail
        obtain ⟨Wn, hWn⟩ : ∃ Wn : World, wd.alloc (cusO A1 d.length c1) = Wn := ⟨_, rfl⟩
        rw [hWn] at HN ⊢
        obtain ⟨Gn, hGn⟩ : ∃ Gn : Nat, wd.heap.size = Gn := ⟨_, rfl⟩
        rw [hGn] at HN ⊢
        clear hWn hGn
        have HLe := hide (unhide HN).st.val.len
        go_wp2_with (refine wpList_loadCu (unhide HN).st.box rfl _ rfl rfl ?_)
        refine (rqcleared_any X l A c _ (unhide HN).st.val ((unhide HN).st.ck X (Nat.le_refl _))).mono ?_
        rintro e we ⟨Ae, ce, rfl, hne, hbe⟩
        have HNe := hide (hne X (.inl (unhide HN).st.szX))
        have HN1 := hide ((unhide HN).below hbe)
        clear hne hbe HN
        have HIn := hide (kin_any X (l.map Se.bag) t Ae ce we (by have := unhide HLe; rw [List.length_map]; omega) (unhide HNe))
        rw [List.length_map] at HIn
        have HIn := hide (unhide HIn)
        cases hh : hasSe l t with
        | true =>
          have he : clearE l t 5 = 5 ∧ clearL l t 5 = [] := clearE_dup (by have := unhide HT; omega) (by omega) hh
          rw [show decide (t ∈ l.map Se.bag) = true from hh] at HIn
          have HIn := hide (unhide HIn)
          obtain rfl : er = 5 := by rw [← unhide HER]; exact he.1
          clear he hh
          go_wp2_with (first
            | (go_at_call 23; refine (unhide HIn).mono ?_; rintro e wy ⟨rfl, hwy⟩; subst wy)
            | (go_at_call 19; refine (awake_cus (unhide HP) _).mono ?_; rintro e wz ⟨rfl, hbz⟩; have HBZ := hide (onward (unhide HN1).st.bel hbz); clear hbz))
          go_ret
          exact ⟨rfl, unhide HBZ⟩
        | false =>
          have he := clearE_ok (l := l) (bag := t) (im := 5) (by have := unhide HT; omega) (by omega) hh
          have hv := clear_val (unhide HN1).st.val he.1
          rw [show decide (t ∈ l.map Se.bag) = false from hh] at HIn
          have HIn := hide (unhide HIn)
          have hri := rev_ins (x := ⟨t, 5⟩) (l := l) hh
          obtain rfl : er = 0 := by rw [← unhide HER]; exact he.1
          have hdd := hv.2.1
          rw [unhide HD] at hdd
          rw [← hdd] at hri
          have HV := hide (show ValQ d by rw [← unhide HD]; exact hv.1)
          have HRE := hide (show revE d t = 0 from by unfold revE; rw [hri.1]; rfl)
          have HRL := hide (show revL d t = l from by unfold revL; rw [unhide HRE, if_pos rfl]; exact hri.2)
          have HIN2 := hide (show decide (t ∈ d.map Se.bag) = true from hri.1)
          clear he hv hh hri hdd
          go_upto_region 13 with (go_at_call 23; refine (unhide HIn).mono ?_; rintro e wy ⟨rfl, hwy⟩; subst wy)
          go_wp2_with (refine wpList_loadCu (unhide HN1).box rfl _ rfl rfl ?_)
          refine ((unhide HP).revoke X d t A1 c1 we (unhide HV) ((unhide HN1).ck X (Nat.le_refl _)) (unhide HN1).cap).mono ?_
          rintro e wf ⟨A2, c2, rfl, hC2, hbf, hcf⟩
          rw [unhide HRL] at hC2 hcf
          rw [unhide HRL, unhide HRE]
          have bf := (Below.refl wf.heap.size wf).alloc (Nat.le_refl _) (cusO A2 l.length c2)
          have HN2 := hide (((unhide HN1).below hbf).below bf)
          have HC2 := hide ((hC2 X (.inl (unhide HN1).st.szX)).keep bf)
          have HB2 := hide (heap_alloc_new wf (cusO A2 l.length c2))
          clear hC2 hcf hbf bf HN1
          go_upto_region 14 with fail
          obtain ⟨Wf, hWf⟩ : ∃ Wf : World, wf.alloc (cusO A2 l.length c2) = Wf := ⟨_, rfl⟩
          rw [hWf] at HN2 HC2 HB2 ⊢
          obtain ⟨Gf, hGf⟩ : ∃ Gf : Nat, wf.heap.size = Gf := ⟨_, rfl⟩
          rw [hGf] at HB2 ⊢
          clear hWf hGf
          have HSm := hide (rqsame_any X l l A2 A c2 c Wf (by have := unhide HLe; omega) (unhide HC2) ((unhide HN2).st.ck X (Nat.le_refl _)))
          rw [decide_eq_true rfl] at HSm
          have HSm := hide (unhide HSm)
          go_wp2_with (first
            | (refine wpList_loadCu_w (unhide HB2) _ rfl rfl rfl ?_)
            | (refine wpList_loadCu_w (unhide HN2).st.box _ rfl rfl rfl ?_)
            | (go_at_call 15; refine (unhide HSm).mono ?_; rintro e wg ⟨rfl, hbg⟩; have HN3 := hide ((unhide HN2).below hbg); clear hbg)
            | (refine wpList_loadCu_w (unhide HN3).box _ rfl rfl rfl ?_)
            | (go_at_call 17; refine ((unhide HP).cleared X d A1 c1 _ (unhide HV) ((unhide HN3).ck X (Nat.le_refl _)) (unhide HN3).cap).mono ?_; rintro e wh ⟨Ah, ch, rfl, hnh, hbh⟩; have HNh := hide (hnh X (.inl (unhide HN3).st.szX)); have HN4 := hide ((unhide HN3).below hbh); clear hnh hbh
               have HIn2 := hide (kin_any X (d.map Se.bag) t Ah ch wh (by have := (unhide HV).len; rw [List.length_map]; omega) (unhide HNh)); rw [List.length_map, unhide HIN2] at HIn2; have HIn2 := hide (unhide HIn2))
            | (go_at_call 23; refine (unhide HIn2).mono ?_; rintro e wy ⟨rfl, hwy⟩; subst wy)
            | (go_at_call 19; refine (awake_cus (unhide HP) _).mono ?_; rintro e wz ⟨rfl, hbz⟩; have HBZ := hide (onward (unhide HN4).st.bel hbz); clear hbz))
          go_ret
          exact ⟨rfl, unhide HBZ⟩
      go_wp2_with fail
      obtain ⟨k, hk⟩ : ∃ k, IntKind.i64.wrap (1 + (i : Int)) = k := ⟨_, rfl⟩
      refine wp_region_held (S := fun Z => Z.heap[X]? = some (cusO A l.length c)) (by kernel_rfl) ?_
      have HOd := hide ((unhide HOm).below (Below.refl wm.heap.size wm).drew)
      have HSX := hide (unhide HOm).szX
      clear HOm
      refine wpAnyH_take (i := 0) (v := cusV A l.length c) rfl (by kernel_rfl) (by kernel_rfl) (by kernel_rfl) (fun _ _ _ h => h) (yields_loadCu _ rfl rfl rfl (fun _ h => h)) (unhide HOd).box ?_
      refine wpAnyH_take (i := 1) (v := .pointer (some ⟨w.heap.size, 0, none⟩)) rfl (by kernel_rfl) (by kernel_rfl) (by kernel_rfl) (fun _ _ _ h => h) (Or.inl ⟨by rfl, by intro w _; go_simp⟩) (unhide HOd).box ?_
      refine wpAnyH_take (i := 3) (v := .int .i64 i) rfl (by kernel_rfl) (by kernel_rfl) (by kernel_rfl) (fun _ _ _ h => h) (Or.inl ⟨by rfl, by intro w _; go_simp⟩) (unhide HOd).box ?_
      refine wpAnyH_take (i := 4) (v := .int .i64 k) rfl (by kernel_rfl) (by kernel_rfl) (by kernel_rfl) (fun _ _ _ h => h) (Or.inl ⟨by rfl, by intro w _; go_simp; try rw [hk]⟩) (unhide HOd).box ?_
      go_simp
      refine (fun (Y : Int → Nat → Option Addr → Nat → World → Prop) (f : (∀ x Gn A' c' W, ((1 ≤ x ∧ x ≤ 12) ∧ UnN w w.heap.size X Gn l A c (clearL l x k) A' c' W) → Y x Gn A' c' W) → _) (g : ∀ x Gn A' c' W, ((1 ≤ x ∧ x ≤ 12) ∧ UnN w w.heap.size X Gn l A c (clearL l x k) A' c' W) → Y x Gn A' c' W) => f g) ?Y1 ?m1 ?r1
      case m1 =>
        intro hM
        refine wpAnyH_two (i := 2) (j := 9) (by kernel_rfl) rfl rfl (fun K hK => ?_) (fun K hK => ?_)
        case' refine_2 =>
          go_simp
          refine hK _ _ ⟨heap_later (unhide HOd).box _, ?_⟩
          clear hK K
          have HOe := hide ((unhide HOd).below ((Below.refl wm.drew.heap.size wm.drew).alloc (Nat.le_refl _) (cusO none 0 0)))
          have HNe := hide (show (wm.drew.alloc (cusO none 0 0)).heap[wm.heap.size]? = some (cusO none 0 0) from heap_alloc_new wm.drew (cusO none 0 0))
          have HAe := hide (show SesIn wm.heap.size (wm.drew.alloc (cusO none 0 0)) A l from (((unhide HOd).ck X (Nat.le_refl _)).other (n := 2) Se.cs_len (by omega) (Nat.le_refl wm.drew.heap.size)).keep ((Below.refl wm.drew.heap.size wm.drew).alloc (Nat.le_refl _) (cusO none 0 0)))
          refine wpAnyH_one (i := 2) (by kernel_rfl) rfl (fun K hK => ?_)
          go_simp
          go_at_call 9
          refine (range_any _ _ 1 12 _ (unhide HOe).src (by omega) (by omega) (by omega)).mono ?_
          rintro e wa ⟨x, rfl, g1, g2, hsa, hga⟩
          try go_simp
          have HOx := hide ((unhide HOe).reads hsa hga)
          have HNx := hide (heap_reads (unhide HNe) hga (by have := (unhide HOe).lt; have := unhide HSX; omega))
          have HAx := hide ((unhide HAe).grown2 ((unhide HOe).ck w.heap.size (by have := (unhide HOe).lt; omega)) hga)
          refine hK _ _ ⟨(unhide HOx).box, ?_⟩
          clear hK K hsa hga
          refine wpAnyH_one (i := 5) (by kernel_rfl) rfl (fun K hK => ?_)
          go_simp
          go_at_call 11
          refine ((unhide HP).clear X l x k A c _ (unhide HOx).val ((unhide HOx).ck X (Nat.le_refl _)) (unhide HOx).cap).mono ?_
          rintro e wb ⟨A', c', rfl, hC, hb, hcap⟩
          try go_simp
          have HOb := hide ((unhide HOx).below hb)
          refine hK _ _ ⟨(unhide HOb).box, ?_⟩
          clear hK K
          refine wpAnyH_take (i := 6) (v := .tuple #[cusV A' (clearL l x k).length c', .int .i64 (clearE l x k)]) rfl (by kernel_rfl) (by kernel_rfl) (by kernel_rfl) (fun _ _ _ h => h) (Or.inl ⟨by rfl, by intro w _; go_simp⟩) (unhide HOb).box ?_
          refine wpAnyH_take (i := 7) (v := cusV A' (clearL l x k).length c') rfl (by kernel_rfl) (by kernel_rfl) (by kernel_rfl) (fun _ _ _ h => h) (Or.inl ⟨by rfl, by intro w _; go_simp⟩) (unhide HOb).box ?_
          refine wpAnyH_take (i := 8) (v := .int .i64 (clearE l x k)) rfl (by kernel_rfl) (by kernel_rfl) (by kernel_rfl) (fun _ _ _ h => h) (Or.inl ⟨by rfl, by intro w _; go_simp⟩) (unhide HOb).box ?_
          go_simp
          have HNb := hide (heap_below (unhide HNx) hb)
          have HN := hide (UnN.early (Gn := wm.heap.size) (unhide HOx) (unhide HNx) (unhide HSX) (unhide HAx) hb hC hcap)
          refine wpAnyH_one (i := 10) (by kernel_rfl) rfl (fun K hK => ?_)
          rw [if_pos (by rfl)]
          refine wp_store_row _ _ _ rfl (wm.heap.size) #[.slice A' (clearL l x k).length c'] rfl rfl 27 _ (unhide HNb) infoCu rfl (by simp [Value.oneCell']) ?_
          refine hK _ _ ⟨(unhide HN).st.box, ?_⟩
          clear hK K
          refine wpAnyH_take (i := 11) (v := .int .i64 (clearE l x k)) rfl (by kernel_rfl) (by kernel_rfl) (by kernel_rfl) (fun _ _ _ h => h) (Or.inl ⟨by rfl, by intro w _; go_simp⟩) (unhide HN).st.box ?_
          refine wpAnyH_done (by kernel_rfl) ?_ _
          go_simp
          have HM := hide (show (1 ≤ x ∧ x ≤ 12) ∧ UnN w w.heap.size X (wm.heap.size) l A c (clearL l x k) A' c' (wb.setRow (wm.heap.size) #[.slice A' (clearL l x k).length c']) from ⟨⟨g1, g2⟩, unhide HN⟩)
          clear HN HOb hb hC
          generalize wb.setRow (wm.heap.size) #[.slice A' (clearL l x k).length c'] = Wf at HM ⊢
          generalize wm.heap.size = Gn at HM ⊢
          exact hM x Gn A' c' Wf (unhide HM)
        case' refine_1 =>
          go_simp
          go_at_call 9
          refine (range_any _ _ 1 12 _ (unhide HOd).src (by omega) (by omega) (by omega)).mono ?_
          rintro e wa ⟨x, rfl, g1, g2, hsa, hga⟩
          try go_simp
          have HOa := hide ((unhide HOd).reads hsa hga)
          refine hK _ _ ⟨(unhide HOa).box, ?_⟩
          clear hK K hsa hga
          refine wpAnyH_two (i := 5) (j := 9) (by kernel_rfl) rfl rfl (fun K hK => ?_) (fun K hK => ?_)
          case' refine_1 =>
            go_simp
            go_at_call 11
            refine ((unhide HP).clear X l x k A c _ (unhide HOa).val ((unhide HOa).ck X (Nat.le_refl _)) (unhide HOa).cap).mono ?_
            rintro e wb ⟨A', c', rfl, hC, hb, hcap⟩
            try go_simp
            have HOb := hide ((unhide HOa).below hb)
            refine hK _ _ ⟨(unhide HOb).box, ?_⟩
            clear hK K
            refine wpAnyH_take (i := 6) (v := .tuple #[cusV A' (clearL l x k).length c', .int .i64 (clearE l x k)]) rfl (by kernel_rfl) (by kernel_rfl) (by kernel_rfl) (fun _ _ _ h => h) (Or.inl ⟨by rfl, by intro w _; go_simp⟩) (unhide HOb).box ?_
            refine wpAnyH_take (i := 7) (v := cusV A' (clearL l x k).length c') rfl (by kernel_rfl) (by kernel_rfl) (by kernel_rfl) (fun _ _ _ h => h) (Or.inl ⟨by rfl, by intro w _; go_simp⟩) (unhide HOb).box ?_
            refine wpAnyH_take (i := 8) (v := .int .i64 (clearE l x k)) rfl (by kernel_rfl) (by kernel_rfl) (by kernel_rfl) (fun _ _ _ h => h) (Or.inl ⟨by rfl, by intro w _; go_simp⟩) (unhide HOb).box ?_
            go_simp
            refine wpAnyH_one (i := 9) (by kernel_rfl) rfl (fun K hK => ?_)
            go_simp
            refine hK _ _ ⟨heap_later (unhide HOb).box _, ?_⟩
            clear hK K
            refine wpAnyH_one (i := 10) (by kernel_rfl) rfl (fun K hK => ?_)
            go_simp
            have HN := hide (UnN.late (unhide HOa) hb hC hcap)
            refine hK _ _ ⟨(unhide HN).st.box, ?_⟩
            clear hK K
            refine wpAnyH_take (i := 11) (v := .int .i64 (clearE l x k)) rfl (by kernel_rfl) (by kernel_rfl) (by kernel_rfl) (fun _ _ _ h => h) (Or.inl ⟨by rfl, by intro w _; go_simp⟩) (unhide HN).st.box ?_
            refine wpAnyH_done (by kernel_rfl) ?_ _
            go_simp
            have HM := hide (show (1 ≤ x ∧ x ≤ 12) ∧ UnN w w.heap.size X (wb.heap.size) l A c (clearL l x k) A' c' (wb.alloc (cusO A' (clearL l x k).length c')) from ⟨⟨g1, g2⟩, unhide HN⟩)
            clear HN HOb hb hC
            generalize wb.alloc (cusO A' (clearL l x k).length c') = Wf at HM ⊢
            generalize wb.heap.size = Gn at HM ⊢
            exact hM x Gn A' c' Wf (unhide HM)
          case' refine_2 =>
            go_simp
            refine hK _ _ ⟨heap_later (unhide HOa).box _, ?_⟩
            clear hK K
            have bx := (Below.refl wa.heap.size wa).alloc (Nat.le_refl _) (cusO none 0 0)
            have HOx := hide ((unhide HOa).below bx)
            have HNx := hide (heap_alloc_new wa (cusO none 0 0))
            have HAx := hide ((((unhide HOa).ck X (Nat.le_refl _)).other (n := 2) Se.cs_len (by omega) (Nat.le_refl wa.heap.size)).keep bx)
            clear bx
            refine wpAnyH_one (i := 5) (by kernel_rfl) rfl (fun K hK => ?_)
            go_simp
            go_at_call 11
            refine ((unhide HP).clear X l x k A c _ (unhide HOx).val ((unhide HOx).ck X (Nat.le_refl _)) (unhide HOx).cap).mono ?_
            rintro e wb ⟨A', c', rfl, hC, hb, hcap⟩
            try go_simp
            have HOb := hide ((unhide HOx).below hb)
            refine hK _ _ ⟨(unhide HOb).box, ?_⟩
            clear hK K
            refine wpAnyH_take (i := 6) (v := .tuple #[cusV A' (clearL l x k).length c', .int .i64 (clearE l x k)]) rfl (by kernel_rfl) (by kernel_rfl) (by kernel_rfl) (fun _ _ _ h => h) (Or.inl ⟨by rfl, by intro w _; go_simp⟩) (unhide HOb).box ?_
            refine wpAnyH_take (i := 7) (v := cusV A' (clearL l x k).length c') rfl (by kernel_rfl) (by kernel_rfl) (by kernel_rfl) (fun _ _ _ h => h) (Or.inl ⟨by rfl, by intro w _; go_simp⟩) (unhide HOb).box ?_
            refine wpAnyH_take (i := 8) (v := .int .i64 (clearE l x k)) rfl (by kernel_rfl) (by kernel_rfl) (by kernel_rfl) (fun _ _ _ h => h) (Or.inl ⟨by rfl, by intro w _; go_simp⟩) (unhide HOb).box ?_
            go_simp
            have HNb := hide (heap_below (unhide HNx) hb)
            have HN := hide (UnN.early (Gn := wa.heap.size) (unhide HOx) (unhide HNx) (unhide HOa).szX (unhide HAx) hb hC hcap)
            refine wpAnyH_one (i := 10) (by kernel_rfl) rfl (fun K hK => ?_)
            rw [if_pos (by rfl)]
            refine wp_store_row _ _ _ rfl (wa.heap.size) #[.slice A' (clearL l x k).length c'] rfl rfl 27 _ (unhide HNb) infoCu rfl (by simp [Value.oneCell']) ?_
            refine hK _ _ ⟨(unhide HN).st.box, ?_⟩
            clear hK K
            refine wpAnyH_take (i := 11) (v := .int .i64 (clearE l x k)) rfl (by kernel_rfl) (by kernel_rfl) (by kernel_rfl) (fun _ _ _ h => h) (Or.inl ⟨by rfl, by intro w _; go_simp⟩) (unhide HN).st.box ?_
            refine wpAnyH_done (by kernel_rfl) ?_ _
            go_simp
            have HM := hide (show (1 ≤ x ∧ x ≤ 12) ∧ UnN w w.heap.size X (wa.heap.size) l A c (clearL l x k) A' c' (wb.setRow (wa.heap.size) #[.slice A' (clearL l x k).length c']) from ⟨⟨g1, g2⟩, unhide HN⟩)
            clear HN HOb hb hC
            generalize wb.setRow (wa.heap.size) #[.slice A' (clearL l x k).length c'] = Wf at HM ⊢
            generalize wa.heap.size = Gn at HM ⊢
            exact hM x Gn A' c' Wf (unhide HM)
      intro x Gn A' c' Wf hM
      have HN := hide hM.2
      clear hM
      obtain ⟨er, her⟩ : ∃ er, clearE l x k = er := ⟨_, rfl⟩
      have HER := hide her
      rw [her]
      clear her hk
      by_cases he : er = 0
      · subst he
        have HV := hide (clear_val (unhide HN).st.val (unhide HER)).1
        have HPut := hide ((unhide HN).st.put (unhide HN).ck (unhide HN).cap (unhide HV))
        go_wp2_with (first
          | (refine wpList_loadCu (unhide HN).box rfl _ rfl rfl ?_)
          | (refine wpList_storeCu (A := A') (n := (clearL l x k).length) (c := c') (unhide HN).st.box rfl _ _ rfl rfl rfl ?_))
        go_roundw
        case rel => exact ⟨i + 1, _, A', c', by omega, by go_num, HPut⟩
        case measure => simp [intOf]; omega
      · have hq : (er == 0) = false := by rw [beq_eq_false_iff_ne]; exact he
        have HP2 := hide (unhide HN).st
        clear he
        go_wp2
        go_roundw
        case rel => exact ⟨i + 1, l, A, c, by omega, by go_num, HP2⟩
        case measure => simp [intOf]; omega
    · have il : ¬ (i : Int) < 8 := by omega
      have HOm := hide (unhide HO)
      clear HO
      go_wp2_with fail
      refine (unhide HMod _).mono ?_
      rintro e wy ⟨rfl, hwy⟩
      subst wy
      have hmr := unhide HMr
      obtain ⟨t, ht⟩ : ∃ t, (1 : Int) + m = t := ⟨_, rfl⟩
      have htr : 1 ≤ t ∧ t ≤ 12 := by omega
      have hw1 : IntKind.i64.wrap (1 + m) = t := by rw [IntKind.wrap_i64]; omega
      have HT := hide htr
      clear hmr ht htr
      go_wp2_with (refine wpList_loadCu (unhide HOm).box rfl _ rfl rfl ?_)
      refine ((unhide HP).clear X l t 5 A c _ (unhide HOm).val ((unhide HOm).ck X (Nat.le_refl _)) (unhide HOm).cap).mono ?_
      rintro e wd ⟨A1, c1, rfl, hC, hbd, hcd⟩
      have HN := hide (UnN.late (unhide HOm) hbd hC hcd)
      clear hC hbd hcd HOm
      obtain ⟨d, hd⟩ : ∃ d, clearL l t 5 = d := ⟨_, rfl⟩
      obtain ⟨er, her⟩ : ∃ er, clearE l t 5 = er := ⟨_, rfl⟩
      rw [hd] at HN
      rw [hd, her]
      have HD := hide hd
      have HER := hide her
      clear hd her
      go_upto_region 11 with fail
      obtain ⟨Wn, hWn⟩ : ∃ Wn : World, wd.alloc (cusO A1 d.length c1) = Wn := ⟨_, rfl⟩
      rw [hWn] at HN ⊢
      obtain ⟨Gn, hGn⟩ : ∃ Gn : Nat, wd.heap.size = Gn := ⟨_, rfl⟩
      rw [hGn] at HN ⊢
      clear hWn hGn
      have HLe := hide (unhide HN).st.val.len
      go_wp2_with (refine wpList_loadCu (unhide HN).st.box rfl _ rfl rfl ?_)
      refine (rqcleared_any X l A c _ (unhide HN).st.val ((unhide HN).st.ck X (Nat.le_refl _))).mono ?_
      rintro e we ⟨Ae, ce, rfl, hne, hbe⟩
      have HNe := hide (hne X (.inl (unhide HN).st.szX))
      have HN1 := hide ((unhide HN).below hbe)
      clear hne hbe HN
      have HIn := hide (kin_any X (l.map Se.bag) t Ae ce we (by have := unhide HLe; rw [List.length_map]; omega) (unhide HNe))
      rw [List.length_map] at HIn
      have HIn := hide (unhide HIn)
      cases hh : hasSe l t with
      | true =>
        have he : clearE l t 5 = 5 ∧ clearL l t 5 = [] := clearE_dup (by have := unhide HT; omega) (by omega) hh
        rw [show decide (t ∈ l.map Se.bag) = true from hh] at HIn
        have HIn := hide (unhide HIn)
        obtain rfl : er = 5 := by rw [← unhide HER]; exact he.1
        clear he hh
        go_wp2_with (first
          | (go_at_call 23; refine (unhide HIn).mono ?_; rintro e wy ⟨rfl, hwy⟩; subst wy)
          | (go_at_call 19; refine (awake_cus (unhide HP) _).mono ?_; rintro e wz ⟨rfl, hbz⟩; have HBZ := hide (onward (unhide HN1).st.bel hbz); clear hbz))
        go_ret
        exact ⟨rfl, unhide HBZ⟩
      | false =>
        have he := clearE_ok (l := l) (bag := t) (im := 5) (by have := unhide HT; omega) (by omega) hh
        have hv := clear_val (unhide HN1).st.val he.1
        rw [show decide (t ∈ l.map Se.bag) = false from hh] at HIn
        have HIn := hide (unhide HIn)
        have hri := rev_ins (x := ⟨t, 5⟩) (l := l) hh
        obtain rfl : er = 0 := by rw [← unhide HER]; exact he.1
        have hdd := hv.2.1
        rw [unhide HD] at hdd
        rw [← hdd] at hri
        have HV := hide (show ValQ d by rw [← unhide HD]; exact hv.1)
        have HRE := hide (show revE d t = 0 from by unfold revE; rw [hri.1]; rfl)
        have HRL := hide (show revL d t = l from by unfold revL; rw [unhide HRE, if_pos rfl]; exact hri.2)
        have HIN2 := hide (show decide (t ∈ d.map Se.bag) = true from hri.1)
        clear he hv hh hri hdd
        go_upto_region 13 with (go_at_call 23; refine (unhide HIn).mono ?_; rintro e wy ⟨rfl, hwy⟩; subst wy)
        go_wp2_with (refine wpList_loadCu (unhide HN1).box rfl _ rfl rfl ?_)
        refine ((unhide HP).revoke X d t A1 c1 we (unhide HV) ((unhide HN1).ck X (Nat.le_refl _)) (unhide HN1).cap).mono ?_
        rintro e wf ⟨A2, c2, rfl, hC2, hbf, hcf⟩
        rw [unhide HRL] at hC2 hcf
        rw [unhide HRL, unhide HRE]
        have bf := (Below.refl wf.heap.size wf).alloc (Nat.le_refl _) (cusO A2 l.length c2)
        have HN2 := hide (((unhide HN1).below hbf).below bf)
        have HC2 := hide ((hC2 X (.inl (unhide HN1).st.szX)).keep bf)
        have HB2 := hide (heap_alloc_new wf (cusO A2 l.length c2))
        clear hC2 hcf hbf bf HN1
        go_upto_region 14 with fail
        obtain ⟨Wf, hWf⟩ : ∃ Wf : World, wf.alloc (cusO A2 l.length c2) = Wf := ⟨_, rfl⟩
        rw [hWf] at HN2 HC2 HB2 ⊢
        obtain ⟨Gf, hGf⟩ : ∃ Gf : Nat, wf.heap.size = Gf := ⟨_, rfl⟩
        rw [hGf] at HB2 ⊢
        clear hWf hGf
        have HSm := hide (rqsame_any X l l A2 A c2 c Wf (by have := unhide HLe; omega) (unhide HC2) ((unhide HN2).st.ck X (Nat.le_refl _)))
        rw [decide_eq_true rfl] at HSm
        have HSm := hide (unhide HSm)
        go_wp2_with (first
          | (refine wpList_loadCu_w (unhide HB2) _ rfl rfl rfl ?_)
          | (refine wpList_loadCu_w (unhide HN2).st.box _ rfl rfl rfl ?_)
          | (go_at_call 15; refine (unhide HSm).mono ?_; rintro e wg ⟨rfl, hbg⟩; have HN3 := hide ((unhide HN2).below hbg); clear hbg)
          | (refine wpList_loadCu_w (unhide HN3).box _ rfl rfl rfl ?_)
          | (go_at_call 17; refine ((unhide HP).cleared X d A1 c1 _ (unhide HV) ((unhide HN3).ck X (Nat.le_refl _)) (unhide HN3).cap).mono ?_; rintro e wh ⟨Ah, ch, rfl, hnh, hbh⟩; have HNh := hide (hnh X (.inl (unhide HN3).st.szX)); have HN4 := hide ((unhide HN3).below hbh); clear hnh hbh
             have HIn2 := hide (kin_any X (d.map Se.bag) t Ah ch wh (by have := (unhide HV).len; rw [List.length_map]; omega) (unhide HNh)); rw [List.length_map, unhide HIN2] at HIn2; have HIn2 := hide (unhide HIn2))
          | (go_at_call 23; refine (unhide HIn2).mono ?_; rintro e wy ⟨rfl, hwy⟩; subst wy)
          | (go_at_call 19; refine (awake_cus (unhide HP) _).mono ?_; rintro e wz ⟨rfl, hbz⟩; have HBZ := hide (onward (unhide HN4).st.bel hbz); clear hbz))
        go_ret
        exact ⟨rfl, unhide HBZ⟩
end Go.Proofs.Ytbjpcajhceapkaa
