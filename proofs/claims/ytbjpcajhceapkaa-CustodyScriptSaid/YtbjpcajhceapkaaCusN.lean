/-
  Custody (layer 16): CustodyScript: two custodies under way, the walk.
-/
import Derived.Test.YtbjpcajhceapkaaCusM
namespace Go.Proofs.Ytbjpcajhceapkaa
open Go.RowKit

/-- Two custodies under way, the program's in box XA, the document's in box XB; the reader R. -/
structure ScS (w0 : World) (R XA XB : Nat) (l : List Se) (A : Option Addr) (c : Nat) (B : Option Addr) (c' : Nat) (W : World) : Prop where
  src : Src R R W
  ba : W.heap[XA]? = some (cusO A l.length c)
  bb : W.heap[XB]? = some (cusO B l.length c')
  ck : ∀ b, b ≤ XB → SesIn b W A l
  cap : l.length ≤ c
  own : SesO (XB + 1) W B c' l
  bel : Below w0.heap.size w0 W
  lo : w0.heap.size ≤ R
  la : R < XA
  lb : XA < XB
  val : ValQ l
/-- .. and what two calls gave, in boxes G1 and G2. -/
structure Sc2 (w0 : World) (R XA XB G1 G2 : Nat) (l : List Se) (A : Option Addr) (c : Nat) (B : Option Addr) (c' : Nat) (o1 : List Se) (A1 : Option Addr) (c1 : Nat) (o2 : List Se) (B2 : Option Addr) (c2 : Nat) (W : World) : Prop where
  st : ScS w0 R XA XB l A c B c' W
  b1 : W.heap[G1]? = some (cusO A1 o1.length c1)
  b2 : W.heap[G2]? = some (cusO B2 o2.length c2)
  k1 : ∀ b, b ≤ G2 → SesIn b W A1 o1
  cap1 : o1.length ≤ c1
  own2 : SesO (G2 + 1) W B2 c2 o2
  ka : SesIn G1 W A l ∧ SesIn G2 W A l
  kb : ∀ k, (Value.slice B l.length c').ownBlock = some k → k ≠ G1 ∧ k ≠ G2
  l1 : XB < G1
  l2 : G1 < G2
section
variable {w0 W W' : World} {R XA XB G1 G2 : Nat} {l o o1 o2 : List Se} {A B A1 B2 A' : Option Addr} {c c' c1 c2 c9 : Nat}
theorem ScS.sz (h : ScS w0 R XA XB l A c B c' W) : XB < W.heap.size := (Array.getElem?_eq_some_iff.1 h.bb).1
theorem ScS.below (h : ScS w0 R XA XB l A c B c' W) (hb : Below W.heap.size W W') : ScS w0 R XA XB l A c B c' W' :=
  ⟨h.src.keep hb, heap_below h.ba hb, heap_below h.bb hb, fun b k => (h.ck b k).keep hb, h.cap, owns_later h.own hb, onward h.bel hb, h.lo, h.la, h.lb, h.val⟩
theorem ScS.reads (h : ScS w0 R XA XB l A c B c' W) (hs : Src R R W') (hg : W.grownBy W' (some R)) : ScS w0 R XA XB l A c B c' W' := by
  have h1 := h.la
  have h2 := h.lb
  exact ⟨hs, heap_reads h.ba hg (by omega), heap_reads h.bb hg (by omega), fun b k => (h.ck b k).grown2 (h.ck R (by omega)) hg, h.cap, h.own.kept hg (.inr (fun e => by have := (h.own.lt _ e).1; omega)), below_reads h.bel hg h.lo h.bel.size, h.lo, h1, h2, h.val⟩
/-- Another box is written. -/
theorem ScS.other {G : Nat} {cs : Array Value} (h : ScS w0 R XA XB l A c B c' W) (hG : XB < G) (ka : SesIn G W A l) (kb : (Value.slice B l.length c').ownBlock ≠ some G) : ScS w0 R XA XB l A c B c' (W.setRow G cs) := by
  have h0 := h.lo
  have h1 := h.la
  have h2 := h.lb
  exact ⟨h.src.grown (row := some G) (grown_row W G _) (fun k hk => by injection hk with hk; omega), by rw [setRow_other _ _ _ _ (by omega)]; exact h.ba, by rw [setRow_other _ _ _ _ (by omega)]; exact h.bb, fun b k => (h.ck b k).row2 ka _, h.cap, h.own.kept (grown_row W G _) (.inr kb), below_row h.bel (by omega) _, h0, h1, h2, h.val⟩
theorem Sc2.start (h : ScS w0 R XA XB l A c B c' W) : Sc2 w0 R XA XB W.heap.size (W.heap.size + 1) l A c B c' [] none 0 [] none 0 ((W.alloc (cusO none 0 0)).alloc (cusO none 0 0)) := by
  have b0 := below_new (below_new (Below.refl W.heap.size W) (cusO none 0 0)) (cusO none 0 0)
  have hz := h.sz
  refine ⟨h.below b0, heap_later (heap_alloc_new W _) _, by rw [← World.size_alloc W (cusO none 0 0)]; exact heap_alloc_new _ _, fun _ _ => RowIn.nil, Nat.le_refl _, World.ownsRow_nil _ _ _ _,
    ⟨((h.ck 0 (Nat.zero_le _)).other (n := 2) Se.cs_len (by omega) (Nat.le_refl _)).keep b0, ((h.ck 0 (Nat.zero_le _)).other (n := 2) Se.cs_len (by omega) (Nat.le_succ _)).keep b0⟩, fun k hk => ?_, hz, Nat.lt_succ_self _⟩
  have := (h.own.lt k hk).2
  omega
theorem Sc2.below (h : Sc2 w0 R XA XB G1 G2 l A c B c' o1 A1 c1 o2 B2 c2 W) (hb : Below W.heap.size W W') : Sc2 w0 R XA XB G1 G2 l A c B c' o1 A1 c1 o2 B2 c2 W' :=
  ⟨h.st.below hb, heap_below h.b1 hb, heap_below h.b2 hb, fun b k => (h.k1 b k).keep hb, h.cap1, owns_later h.own2 hb, ⟨h.ka.1.keep hb, h.ka.2.keep hb⟩, h.kb, h.l1, h.l2⟩
theorem Sc2.reads (h : Sc2 w0 R XA XB G1 G2 l A c B c' o1 A1 c1 o2 B2 c2 W) (hs : Src R R W') (hg : W.grownBy W' (some R)) : Sc2 w0 R XA XB G1 G2 l A c B c' o1 A1 c1 o2 B2 c2 W' := by
  have h1 := h.st.la
  have h2 := h.st.lb
  have h3 := h.l1
  have h4 := h.l2
  have kR := h.st.ck R (by omega)
  exact ⟨h.st.reads hs hg, heap_reads h.b1 hg (by omega), heap_reads h.b2 hg (by omega), fun b k => (h.k1 b k).grown2 (h.k1 R (by omega)) hg, h.cap1, h.own2.kept hg (.inr (fun e => by have := (h.own2.lt _ e).1; omega)), ⟨h.ka.1.grown2 kR hg, h.ka.2.grown2 kR hg⟩, h.kb, h3, h4⟩
theorem Sc2.sz (h : Sc2 w0 R XA XB G1 G2 l A c B c' o1 A1 c1 o2 B2 c2 W) : G2 < W.heap.size := (Array.getElem?_eq_some_iff.1 h.b2).1
theorem Sc2.put1 (h : Sc2 w0 R XA XB G1 G2 l A c B c' o1 A1 c1 o2 B2 c2 W) (hb : Below W.heap.size W W') (hC : ∀ b, b < W.heap.size ∨ W'.heap.size ≤ b → SesIn b W' A' o) (hc : o.length ≤ c9) :
    Sc2 w0 R XA XB G1 G2 l A c B c' o A' c9 o2 B2 c2 (W'.setRow G1 #[.slice A' o.length c9]) := by
  have h' := h.below hb
  have hz := h.sz
  have h4 := h.l2
  have kG := hC G1 (.inl (by omega))
  refine ⟨h'.st.other h'.l1 h'.ka.1 (fun e => (h'.kb _ e).1 rfl), setRow_heap W' G1 _ _ _ _ h'.b1, by rw [setRow_other _ _ _ _ (by omega)]; exact h'.b2, fun b k => (hC b (.inl (by omega))).row2 kG _, hc, h'.own2.kept (grown_row W' G1 _) (.inr (fun e => by have := (h'.own2.lt _ e).1; omega)),
    ⟨h'.ka.1.row2 h'.ka.1 _, h'.ka.2.row2 h'.ka.1 _⟩, h'.kb, h'.l1, h4⟩
theorem Sc2.put2 (h : Sc2 w0 R XA XB G1 G2 l A c B c' o1 A1 c1 o2 B2 c2 W) (hb : Below W.heap.size W W') (hO : SesO W.heap.size W' A' c9 o) :
    Sc2 w0 R XA XB G1 G2 l A c B c' o1 A1 c1 o A' c9 (W'.setRow G2 #[.slice A' o.length c9]) := by
  have h' := h.below hb
  have hz := h.sz
  have h4 := h.l2
  refine ⟨h'.st.other (by have := h'.l1; omega) h'.ka.2 (fun e => (h'.kb _ e).2 rfl), by rw [setRow_other _ _ _ _ (by omega)]; exact h'.b1, setRow_heap W' G2 _ _ _ _ h'.b2, fun b k => (h'.k1 b k).row2 (h'.k1 G2 (Nat.le_refl _)) _, h'.cap1, own_base (hO.kept (grown_row W' G2 _) (.inr (fun e => by have := (hO.lt _ e).1; omega))) hz,
    ⟨h'.ka.1.row2 h'.ka.2 _, h'.ka.2.row2 h'.ka.2 _⟩, h'.kb, h'.l1, h4⟩
/-- What the calls gave is taken over. -/
theorem Sc2.take (h : Sc2 w0 R XA XB G1 G2 l A c B c' o A1 c1 o B2 c2 W) (hv : ValQ o) : (W.setRow XA #[.slice A1 o.length c1]).heap[XB]? = some (cusO B l.length c') ∧ ScS w0 R XA XB o A1 c1 B2 c2 ((W.setRow XA #[.slice A1 o.length c1]).setRow XB #[.slice B2 o.length c2]) := by
  have h0 := h.st.lo
  have h1 := h.st.la
  have h2 := h.st.lb
  have h3 := h.l1
  have h4 := h.l2
  have bb : (W.setRow XA #[.slice A1 o.length c1]).heap[XB]? = some (cusO B l.length c') := by rw [setRow_other _ _ _ _ (by omega)]; exact h.st.bb
  have kA := h.k1 XA (by omega)
  have kB := (h.k1 XB (by omega)).row2 kA #[.slice A1 o.length c1]
  refine ⟨bb, (h.st.src.grown (row := some XA) (grown_row W XA _) (fun k hk => by injection hk with hk; omega)).grown (row := some XB) (grown_row _ XB _) (fun k hk => by injection hk with hk; omega), by rw [setRow_other _ _ _ _ (by omega)]; exact setRow_heap W XA _ _ _ _ h.st.ba, setRow_heap _ XB _ _ _ _ bb, fun b k => ((h.k1 b (by omega)).row2 kA _).row2 kB _, h.cap1, ?_, below_row (below_row h.st.bel (by omega) _) (by omega) _, h0, h1, h2, hv⟩
  exact own_base ((h.own2.kept (grown_row W XA _) (.inr (fun e => by have := (h.own2.lt _ e).1; omega))).kept (grown_row _ XB _) (.inr (fun e => by have := (h.own2.lt _ e).1; omega))) (by omega)
end
theorem insSe_len (x : Se) : ∀ l : List Se, (insSe x l).length = l.length + 1
  | [] => rfl
  | y :: l => by
    unfold insSe
    split
    · rw [List.length_cons, insSe_len x l, List.length_cons]
    · rfl
theorem clear_len {l : List Se} {bag im : Int} (h : ValQ l) : (clearL l bag im).length ≤ 1000 := by
  have := h.len
  unfold clearL
  split
  · rw [insSe_len]; omega
  · exact Nat.zero_le _
theorem rev_len {l : List Se} {bag : Int} (h : ValQ l) : (revL l bag).length ≤ 1000 := by
  have := h.len
  unfold revL
  split
  · exact Nat.le_trans (List.length_filter_le _ _) (by omega)
  · exact Nat.zero_le _
theorem rev_val {l : List Se} {bag : Int} (h : ValQ l) (he : revE l bag = 0) : ValQ (revL l bag) := by
  unfold revL
  rw [if_pos he]
  exact ⟨fun x hx => h.ok x (List.mem_filter.1 hx).1, h.asc.filter _⟩

set_option maxRecDepth 100000 in
set_option maxHeartbeats 4000000 in
theorem script_any (P : CusOk) (A0 : Option Addr) (n0 c0 : Nat) (w : World) (hc : n0 ≤ c0) (hA : IntsIn w.heap.size w A0 n0) (bag image : Int) :
    Calls Try.prog 3 #[.slice A0 n0 c0, .int .i64 bag, .int .i64 image] w fun e w' => e = .returned (.bool true) ∧ Below w.heap.size w w' := by
  have HP := hide P
  have HNew := hide (new_any A0 n0 c0 w hc hA)
  clear P hA
  go_enter Try.func3, Try.ntmps3
  go_wp2_with fail
  refine (unhide HNew).mono ?_
  rintro e w1 ⟨rfl, hs1, hb1⟩
  obtain ⟨W2, hW2⟩ : ∃ W2 : World, (w1.alloc (cusO none 0 0)).alloc (cusO none 0 0) = W2 := ⟨_, rfl⟩
  have b2 := below_new (below_new (Below.refl w1.heap.size w1) (cusO none 0 0)) (cusO none 0 0)
  have HO0 := hide (show ScS w w.heap.size w1.heap.size (w1.heap.size + 1) [] none 0 none 0 W2 from by
    rw [← hW2]
    exact ⟨hs1.keep b2, heap_later (heap_alloc_new w1 _) _, by rw [← World.size_alloc w1 (cusO none 0 0)]; exact heap_alloc_new _ _, fun _ _ => RowIn.nil, Nat.le_refl _, World.ownsRow_nil _ _ _ _, onward hb1 b2, Nat.le_refl _, hs1.lt, Nat.lt_succ_self _, ⟨(fun x hx => by cases hx), List.Pairwise.nil⟩⟩)
  clear hs1 hb1 b2 HNew
  go_wp2_with fail
  obtain ⟨XA, hX⟩ : ∃ X, w1.heap.size = X := ⟨_, rfl⟩
  rw [hX] at HO0 ⊢
  clear hX hW2
  obtain ⟨XB, hXB⟩ : ∃ XB, XA + 1 = XB := ⟨_, rfl⟩
  rw [hXB] at HO0 ⊢
  clear hXB
  go_loopw [10] (fun iv wr => ∃ (i : Nat) (l : List Se) (A B : Option Addr) (c c' : Nat), i ≤ 20 ∧ iv = .int .i64 i ∧ Hid (ScS w w.heap.size XA XB l A c B c' wr)) (fun iv _ => 20 - (intOf iv).toNat)
  case atStart => exact ⟨0, [], none, none, 0, 0, Nat.zero_le _, rfl, HO0⟩
  case round =>
    obtain ⟨i, l, A, B, c, c', hi, rfl, HO⟩ := hrel
    obtain ⟨wo, rfl⟩ : ∃ wo : World, wo = wr := ⟨_, rfl⟩
    clear HO0
    by_cases hlt : i < 20
    · have il : (i : Int) < 20 := by omega
      by_cases h3 : i < 3
      · have i3 : (i : Int) < 3 := by omega
        go_wp2_with fail
        have HOm := hide (unhide HO)
        clear HO
        refine (range_any _ _ 0 6 _ (unhide HOm).src (by omega) (by omega) (by omega)).mono ?_
        rintro e wx ⟨x, rfl, x0, x1, hs, hg⟩
        have HOx := hide ((unhide HOm).reads hs hg)
        clear hs hg HOm x0 x1
        go_wp2_with fail
        refine (range_any _ _ 0 4 _ (unhide HOx).src (by omega) (by omega) (by omega)).mono ?_
        rintro e wy ⟨y, rfl, y0, y1, hs, hg⟩
        have HOy := hide ((unhide HOx).reads hs hg)
        clear hs hg HOx y0 y1
        by_cases h2 : i = 2
        · subst h2
          go_upto_region 9 with fail
          obtain ⟨W3, hW3⟩ : ∃ W3 : World, (wy.alloc (cusO none 0 0)).alloc (cusO none 0 0) = W3 := ⟨_, rfl⟩
          have HQ := hide (show Sc2 w w.heap.size XA XB wy.heap.size (wy.heap.size + 1) l A c B c' [] none 0 [] none 0 W3 from by rw [← hW3]; exact Sc2.start (unhide HOy))
          go_upto_region 11 with fail
          obtain ⟨G1, hG1⟩ : ∃ G1, wy.heap.size = G1 := ⟨_, rfl⟩
          rw [hG1] at HQ ⊢
          obtain ⟨G2, hG2⟩ : ∃ G2, G1 + 1 = G2 := ⟨_, rfl⟩
          rw [hG2] at HQ ⊢
          clear hG1 hG2 hW3 HOy
          go_wp2_with fail
          refine (n_any _ _ 3 _ (unhide HQ).st.src (by omega) (by omega)).mono ?_
          rintro e wn ⟨u, rfl, u0, u1, hs, hg⟩
          have HQn := hide ((unhide HQ).reads hs hg)
          clear hs hg HQ
          by_cases hu : 0 < u
          · go_wp2_with (refine wpList_loadCu (unhide HQn).st.ba rfl _ rfl rfl ?_)
            refine ((unhide HP).clear 0 l bag image A c _ (unhide HQn).st.val ((unhide HQn).st.ck 0 (Nat.zero_le _)) (unhide HQn).st.cap).mono ?_
            rintro e wp ⟨A1, c1, rfl, hC, hb, hcap⟩
            have HQp := hide ((unhide HQn).put1 hb hC hcap)
            have HZp := hide (heap_below (unhide HQn).b1 hb)
            have HV := hide (show clearE l bag image = 0 → ValQ (clearL l bag image) from fun h => (clear_val (unhide HQn).st.val h).1)
            have HLn := hide (clear_len (bag := bag) (im := image) (unhide HQn).st.val)
            have HRc := hide (fun W (hq : SesO (XB + 1) W B c' l) => rqclear_any (XB + 1) l bag image B c' W (unhide HQn).st.val hq)
            clear hC hb hcap HQn
            obtain ⟨o, ho⟩ : ∃ o, clearL l bag image = o := ⟨_, rfl⟩
            obtain ⟨er, her⟩ : ∃ er, clearE l bag image = er := ⟨_, rfl⟩
            rw [ho] at HQp HLn
            rw [ho, her] at HV HRc ⊢
            clear ho her
            go_upto_region 13 with (refine wpList_storeCu (A := A1) (n := o.length) (c := c1) (unhide HZp) rfl _ _ rfl rfl rfl ?_)
            generalize wp.setRow G1 #[.slice A1 o.length c1] = wp2 at HQp ⊢
            clear HZp
            go_wp2_with (refine wpList_loadCu (unhide HQp).st.bb rfl _ rfl rfl ?_)
            refine (unhide HRc _ (unhide HQp).st.own).mono ?_
            rintro e wr2 ⟨B2, c2, rfl, hO, hb⟩
            have HQr := hide ((unhide HQp).put2 hb hO)
            have HZr := hide (heap_below (unhide HQp).b2 hb)
            clear hO hb HQp HRc
            go_upto_region 16 with (refine wpList_storeCu (A := B2) (n := o.length) (c := c2) (unhide HZr) rfl _ _ rfl rfl rfl ?_)
            generalize wr2.setRow G2 #[.slice B2 o.length c2] = wq at HQr ⊢
            clear HZr
            have qe : (er != er) = false := by simp
            have HLo := hide (show er = 0 → o.length ≤ 40 from fun h => ((unhide HV) h).len)
            have HSm := hide (rqsame_any 0 o o A1 B2 c1 c2 wq (unhide HLn) ((unhide HQr).k1 0 (Nat.zero_le _)) (sesO_in (unhide HQr).own2 (.inl (Nat.succ_pos _))))
            rw [decide_eq_true rfl] at HSm
            have HSm := hide (unhide HSm)
            go_upto_region 18 with (first
              | (refine wpList_loadCu_w (unhide HQr).b1 _ rfl rfl rfl ?_)
              | (refine wpList_loadCu_w (unhide HQr).b2 _ rfl rfl rfl ?_)
              | (go_at_call 15; refine (unhide HSm).mono ?_; rintro e wg ⟨rfl, hbg⟩; have HQg := hide ((unhide HQr).below hbg); clear hbg))
            by_cases he : er = 0
            · have HV1 := hide ((unhide HV) he)
              subst he
              go_upto_region 19 with fail
              have HT := hide ((unhide HQg).below (Below.refl wg.heap.size wg).drew)
              refine wp_region_held (S := fun Z => Z.heap[G1]? = some (cusO A1 o.length c1) ∧ Z.heap[G2]? = some (cusO B2 o.length c2)) (by kernel_rfl) ?_
              have HSs := hide (show wg.drew.heap[G1]? = some (cusO A1 o.length c1) ∧ wg.drew.heap[G2]? = some (cusO B2 o.length c2) from ⟨(unhide HT).b1, (unhide HT).b2⟩)
              refine wpAnyH_take (i := 0) (v := cusV A1 o.length c1) rfl (by kernel_rfl) (by kernel_rfl) (by kernel_rfl) (fun _ _ _ h => h) (yields_loadCu _ rfl rfl rfl (fun _ h => h.1)) HSs.out ?_
              refine wpAnyH_take (i := 1) (v := cusV B2 o.length c2) rfl (by kernel_rfl) (by kernel_rfl) (by kernel_rfl) (fun _ _ _ h => h) (yields_loadCu _ rfl rfl rfl (fun _ h => h.2)) HSs.out ?_
              go_simp
              obtain ⟨ht1, ht2⟩ := (unhide HT).take (unhide HV1)
              have HT1 := hide ht1
              have HF := hide ht2
              have HTa := hide (unhide HT).st.ba
              have hla := (unhide HT).st.lb
              have hl1 := (unhide HT).l1
              have hl2 := (unhide HT).l2
              have HS2 := hide (show (wg.drew.setRow XA #[.slice A1 o.length c1]).heap[G1]? = some (cusO A1 o.length c1) ∧ (wg.drew.setRow XA #[.slice A1 o.length c1]).heap[G2]? = some (cusO B2 o.length c2) from
                ⟨by rw [setRow_other _ _ _ _ (by omega)]; exact (unhide HT).b1, by rw [setRow_other _ _ _ _ (by omega)]; exact (unhide HT).b2⟩)
              have HS3 := hide (show ((wg.drew.setRow XA #[.slice A1 o.length c1]).setRow XB #[.slice B2 o.length c2]).heap[G1]? = some (cusO A1 o.length c1) ∧ ((wg.drew.setRow XA #[.slice A1 o.length c1]).setRow XB #[.slice B2 o.length c2]).heap[G2]? = some (cusO B2 o.length c2) from
                ⟨by rw [setRow_other _ _ _ _ (by omega)]; exact (unhide HS2).1, by rw [setRow_other _ _ _ _ (by omega)]; exact (unhide HS2).2⟩)
              clear ht1 ht2 HQg HQr HT HSs hla hl1 hl2
              refine wpAnyH_one (i := 2) (by kernel_rfl) rfl (fun K hK => ?_)
              rw [if_pos (by rfl)]
              refine wp_store_row _ _ _ rfl XA #[.slice A1 o.length c1] rfl rfl 27 _ (unhide HTa) infoCu rfl (by simp [Value.oneCell']) ?_
              refine hK _ _ ⟨unhide HS2, ?_⟩
              clear hK K
              refine wpAnyH_one (i := 3) (by kernel_rfl) rfl (fun K hK => ?_)
              rw [if_pos (by rfl)]
              refine wp_store_row _ _ _ rfl XB #[.slice B2 o.length c2] rfl rfl 27 _ (unhide HT1) infoCu rfl (by simp [Value.oneCell']) ?_
              refine hK _ _ ⟨unhide HS3, ?_⟩
              clear hK K
              refine wpAnyH_done (by kernel_rfl) ?_ _
              go_simp
              have HF := hide (unhide HF)
              generalize ((wg.drew).setRow XA #[.slice A1 o.length c1]).setRow XB #[.slice B2 o.length c2] = wf at HF ⊢
              go_wp2_with fail
              refine wp_region_held (S := fun Z => Z.heap[XA]? = some (cusO A1 o.length c1) ∧ Z.heap[XB]? = some (cusO B2 o.length c2)) (by kernel_rfl) ?_
              have HFd := hide ((unhide HF).below (Below.refl wf.heap.size wf).drew)
              have HSf := hide (show wf.drew.heap[XA]? = some (cusO A1 o.length c1) ∧ wf.drew.heap[XB]? = some (cusO B2 o.length c2) from ⟨(unhide HFd).ba, (unhide HFd).bb⟩)
              clear HF
              refine wpAnyH_take (i := 0) (v := cusV A1 o.length c1) rfl (by kernel_rfl) (by kernel_rfl) (by kernel_rfl) (fun _ _ _ h => h) (yields_loadCu _ rfl rfl rfl (fun _ h => h.1)) HSf.out ?_
              refine wpAnyH_take (i := 2) (v := cusV B2 o.length c2) rfl (by kernel_rfl) (by kernel_rfl) (by kernel_rfl) (fun _ _ _ h => h) (yields_loadCu _ rfl rfl rfl (fun _ h => h.2)) HSf.out ?_
              go_simp
              refine wpAnyH_one (i := 1) (by kernel_rfl) rfl (fun K hK => ?_)
              go_simp
              go_at_call 17
              refine ((unhide HP).cleared 0 o A1 c1 _ (unhide HFd).val ((unhide HFd).ck 0 (Nat.zero_le _)) (unhide HFd).cap).mono ?_
              rintro e wh ⟨Ah, ch, rfl, hnh, hbh⟩
              try go_simp
              have HFh := hide ((unhide HFd).below hbh)
              have HNh := hide (hnh 0 (.inl (by have := (unhide HFd).sz; omega)))
              refine hK _ _ ⟨⟨(unhide HFh).ba, (unhide HFh).bb⟩, ?_⟩
              clear hK K hnh hbh
              refine wpAnyH_one (i := 3) (by kernel_rfl) rfl (fun K hK => ?_)
              go_simp
              go_at_call 18
              refine (rqcleared_any 0 o B2 c2 _ (unhide HFh).val (sesO_in (unhide HFh).own (.inl (Nat.succ_pos _)))).mono ?_
              rintro e wj ⟨Aj, cj, rfl, hnj, hbj⟩
              try go_simp
              have HFj := hide ((unhide HFh).below hbj)
              have HNj := hide (hnj 0 (.inl (by have := (unhide HFh).sz; omega)))
              have HNi := hide ((unhide HNh).keep hbj)
              refine hK _ _ ⟨⟨(unhide HFj).ba, (unhide HFj).bb⟩, ?_⟩
              clear hK K hnj hbj
              have HKi := hide (kints_any 0 (o.map Se.bag) (o.map Se.bag) Ah Aj ch cj wj (by have := (unhide HFj).val.len; rw [List.length_map]; omega) (unhide HNi) (unhide HNj))
              rw [List.length_map, decide_eq_true rfl] at HKi
              have HKi := hide (unhide HKi)
              refine wpAnyH_one (i := 4) (by kernel_rfl) rfl (fun K hK => ?_)
              go_simp
              go_at_call 16
              refine (unhide HKi).mono ?_
              rintro e wk ⟨rfl, hbk⟩
              try go_simp
              have HFk := hide ((unhide HFj).below hbk)
              refine hK _ _ ⟨⟨(unhide HFk).ba, (unhide HFk).bb⟩, ?_⟩
              clear hK K hbk
              refine wpAnyH_one (i := 5) (by kernel_rfl) rfl (fun K hK => ?_)
              go_simp
              refine hK _ _ ⟨⟨(unhide HFk).ba, (unhide HFk).bb⟩, ?_⟩
              clear hK K
              refine wpAnyH_done (by kernel_rfl) ?_ _
              go_simp
              go_wp2
              go_roundw
              case rel => exact ⟨3, o, A1, B2, c1, c2, by omega, by first | rfl | go_num, HFk⟩
              case measure => simp [intOf] <;> omega
            · have q0 : (er == 0) = false := by rw [beq_eq_false_iff_ne]; exact he
              have HF := hide (unhide HQg).st
              clear he HQg HQr
              go_wp2_with fail
              refine wp_region_held (S := fun Z => Z.heap[XA]? = some (cusO A l.length c) ∧ Z.heap[XB]? = some (cusO B l.length c')) (by kernel_rfl) ?_
              have HFd := hide ((unhide HF).below (Below.refl wg.heap.size wg).drew)
              have HSf := hide (show wg.drew.heap[XA]? = some (cusO A l.length c) ∧ wg.drew.heap[XB]? = some (cusO B l.length c') from ⟨(unhide HFd).ba, (unhide HFd).bb⟩)
              clear HF
              refine wpAnyH_take (i := 0) (v := cusV A l.length c) rfl (by kernel_rfl) (by kernel_rfl) (by kernel_rfl) (fun _ _ _ h => h) (yields_loadCu _ rfl rfl rfl (fun _ h => h.1)) HSf.out ?_
              refine wpAnyH_take (i := 2) (v := cusV B l.length c') rfl (by kernel_rfl) (by kernel_rfl) (by kernel_rfl) (fun _ _ _ h => h) (yields_loadCu _ rfl rfl rfl (fun _ h => h.2)) HSf.out ?_
              go_simp
              refine wpAnyH_one (i := 1) (by kernel_rfl) rfl (fun K hK => ?_)
              go_simp
              go_at_call 17
              refine ((unhide HP).cleared 0 l A c _ (unhide HFd).val ((unhide HFd).ck 0 (Nat.zero_le _)) (unhide HFd).cap).mono ?_
              rintro e wh ⟨Ah, ch, rfl, hnh, hbh⟩
              try go_simp
              have HFh := hide ((unhide HFd).below hbh)
              have HNh := hide (hnh 0 (.inl (by have := (unhide HFd).sz; omega)))
              refine hK _ _ ⟨⟨(unhide HFh).ba, (unhide HFh).bb⟩, ?_⟩
              clear hK K hnh hbh
              refine wpAnyH_one (i := 3) (by kernel_rfl) rfl (fun K hK => ?_)
              go_simp
              go_at_call 18
              refine (rqcleared_any 0 l B c' _ (unhide HFh).val (sesO_in (unhide HFh).own (.inl (Nat.succ_pos _)))).mono ?_
              rintro e wj ⟨Aj, cj, rfl, hnj, hbj⟩
              try go_simp
              have HFj := hide ((unhide HFh).below hbj)
              have HNj := hide (hnj 0 (.inl (by have := (unhide HFh).sz; omega)))
              have HNi := hide ((unhide HNh).keep hbj)
              refine hK _ _ ⟨⟨(unhide HFj).ba, (unhide HFj).bb⟩, ?_⟩
              clear hK K hnj hbj
              have HKi := hide (kints_any 0 (l.map Se.bag) (l.map Se.bag) Ah Aj ch cj wj (by have := (unhide HFj).val.len; rw [List.length_map]; omega) (unhide HNi) (unhide HNj))
              rw [List.length_map, decide_eq_true rfl] at HKi
              have HKi := hide (unhide HKi)
              refine wpAnyH_one (i := 4) (by kernel_rfl) rfl (fun K hK => ?_)
              go_simp
              go_at_call 16
              refine (unhide HKi).mono ?_
              rintro e wk ⟨rfl, hbk⟩
              try go_simp
              have HFk := hide ((unhide HFj).below hbk)
              refine hK _ _ ⟨⟨(unhide HFk).ba, (unhide HFk).bb⟩, ?_⟩
              clear hK K hbk
              refine wpAnyH_one (i := 5) (by kernel_rfl) rfl (fun K hK => ?_)
              go_simp
              refine hK _ _ ⟨⟨(unhide HFk).ba, (unhide HFk).bb⟩, ?_⟩
              clear hK K
              refine wpAnyH_done (by kernel_rfl) ?_ _
              go_simp
              go_wp2
              go_roundw
              case rel => exact ⟨3, l, A, B, c, c', by omega, by first | rfl | go_num, HFk⟩
              case measure => simp [intOf] <;> omega
          · go_wp2_with (refine wpList_loadCu (unhide HQn).st.ba rfl _ rfl rfl ?_)
            refine ((unhide HP).revoke 0 l bag A c _ (unhide HQn).st.val ((unhide HQn).st.ck 0 (Nat.zero_le _)) (unhide HQn).st.cap).mono ?_
            rintro e wp ⟨A1, c1, rfl, hC, hb, hcap⟩
            have HQp := hide ((unhide HQn).put1 hb hC hcap)
            have HZp := hide (heap_below (unhide HQn).b1 hb)
            have HV := hide (show revE l bag = 0 → ValQ (revL l bag) from fun h => rev_val (unhide HQn).st.val h)
            have HLn := hide (rev_len (bag := bag) (unhide HQn).st.val)
            have HRc := hide (fun W (hq : SesO (XB + 1) W B c' l) => rqrevoke_any (XB + 1) l bag B c' W (unhide HQn).st.val hq)
            clear hC hb hcap HQn
            obtain ⟨o, ho⟩ : ∃ o, revL l bag = o := ⟨_, rfl⟩
            obtain ⟨er, her⟩ : ∃ er, revE l bag = er := ⟨_, rfl⟩
            rw [ho] at HQp HLn
            rw [ho, her] at HV HRc ⊢
            clear ho her
            go_upto_region 15 with (refine wpList_storeCu (A := A1) (n := o.length) (c := c1) (unhide HZp) rfl _ _ rfl rfl rfl ?_)
            generalize wp.setRow G1 #[.slice A1 o.length c1] = wp2 at HQp ⊢
            clear HZp
            go_wp2_with (refine wpList_loadCu (unhide HQp).st.bb rfl _ rfl rfl ?_)
            refine (unhide HRc _ (unhide HQp).st.own).mono ?_
            rintro e wr2 ⟨B2, c2, rfl, hO, hb⟩
            have HQr := hide ((unhide HQp).put2 hb hO)
            have HZr := hide (heap_below (unhide HQp).b2 hb)
            clear hO hb HQp HRc
            go_upto_region 16 with (refine wpList_storeCu (A := B2) (n := o.length) (c := c2) (unhide HZr) rfl _ _ rfl rfl rfl ?_)
            generalize wr2.setRow G2 #[.slice B2 o.length c2] = wq at HQr ⊢
            clear HZr
            have qe : (er != er) = false := by simp
            have HLo := hide (show er = 0 → o.length ≤ 40 from fun h => ((unhide HV) h).len)
            have HSm := hide (rqsame_any 0 o o A1 B2 c1 c2 wq (unhide HLn) ((unhide HQr).k1 0 (Nat.zero_le _)) (sesO_in (unhide HQr).own2 (.inl (Nat.succ_pos _))))
            rw [decide_eq_true rfl] at HSm
            have HSm := hide (unhide HSm)
            go_upto_region 18 with (first
              | (refine wpList_loadCu_w (unhide HQr).b1 _ rfl rfl rfl ?_)
              | (refine wpList_loadCu_w (unhide HQr).b2 _ rfl rfl rfl ?_)
              | (go_at_call 15; refine (unhide HSm).mono ?_; rintro e wg ⟨rfl, hbg⟩; have HQg := hide ((unhide HQr).below hbg); clear hbg))
            by_cases he : er = 0
            · have HV1 := hide ((unhide HV) he)
              subst he
              go_upto_region 19 with fail
              have HT := hide ((unhide HQg).below (Below.refl wg.heap.size wg).drew)
              refine wp_region_held (S := fun Z => Z.heap[G1]? = some (cusO A1 o.length c1) ∧ Z.heap[G2]? = some (cusO B2 o.length c2)) (by kernel_rfl) ?_
              have HSs := hide (show wg.drew.heap[G1]? = some (cusO A1 o.length c1) ∧ wg.drew.heap[G2]? = some (cusO B2 o.length c2) from ⟨(unhide HT).b1, (unhide HT).b2⟩)
              refine wpAnyH_take (i := 0) (v := cusV A1 o.length c1) rfl (by kernel_rfl) (by kernel_rfl) (by kernel_rfl) (fun _ _ _ h => h) (yields_loadCu _ rfl rfl rfl (fun _ h => h.1)) HSs.out ?_
              refine wpAnyH_take (i := 1) (v := cusV B2 o.length c2) rfl (by kernel_rfl) (by kernel_rfl) (by kernel_rfl) (fun _ _ _ h => h) (yields_loadCu _ rfl rfl rfl (fun _ h => h.2)) HSs.out ?_
              go_simp
              obtain ⟨ht1, ht2⟩ := (unhide HT).take (unhide HV1)
              have HT1 := hide ht1
              have HF := hide ht2
              have HTa := hide (unhide HT).st.ba
              have hla := (unhide HT).st.lb
              have hl1 := (unhide HT).l1
              have hl2 := (unhide HT).l2
              have HS2 := hide (show (wg.drew.setRow XA #[.slice A1 o.length c1]).heap[G1]? = some (cusO A1 o.length c1) ∧ (wg.drew.setRow XA #[.slice A1 o.length c1]).heap[G2]? = some (cusO B2 o.length c2) from
                ⟨by rw [setRow_other _ _ _ _ (by omega)]; exact (unhide HT).b1, by rw [setRow_other _ _ _ _ (by omega)]; exact (unhide HT).b2⟩)
              have HS3 := hide (show ((wg.drew.setRow XA #[.slice A1 o.length c1]).setRow XB #[.slice B2 o.length c2]).heap[G1]? = some (cusO A1 o.length c1) ∧ ((wg.drew.setRow XA #[.slice A1 o.length c1]).setRow XB #[.slice B2 o.length c2]).heap[G2]? = some (cusO B2 o.length c2) from
                ⟨by rw [setRow_other _ _ _ _ (by omega)]; exact (unhide HS2).1, by rw [setRow_other _ _ _ _ (by omega)]; exact (unhide HS2).2⟩)
              clear ht1 ht2 HQg HQr HT HSs hla hl1 hl2
              refine wpAnyH_one (i := 2) (by kernel_rfl) rfl (fun K hK => ?_)
              rw [if_pos (by rfl)]
              refine wp_store_row _ _ _ rfl XA #[.slice A1 o.length c1] rfl rfl 27 _ (unhide HTa) infoCu rfl (by simp [Value.oneCell']) ?_
              refine hK _ _ ⟨unhide HS2, ?_⟩
              clear hK K
              refine wpAnyH_one (i := 3) (by kernel_rfl) rfl (fun K hK => ?_)
              rw [if_pos (by rfl)]
              refine wp_store_row _ _ _ rfl XB #[.slice B2 o.length c2] rfl rfl 27 _ (unhide HT1) infoCu rfl (by simp [Value.oneCell']) ?_
              refine hK _ _ ⟨unhide HS3, ?_⟩
              clear hK K
              refine wpAnyH_done (by kernel_rfl) ?_ _
              go_simp
              have HF := hide (unhide HF)
              generalize ((wg.drew).setRow XA #[.slice A1 o.length c1]).setRow XB #[.slice B2 o.length c2] = wf at HF ⊢
              go_wp2_with fail
              refine wp_region_held (S := fun Z => Z.heap[XA]? = some (cusO A1 o.length c1) ∧ Z.heap[XB]? = some (cusO B2 o.length c2)) (by kernel_rfl) ?_
              have HFd := hide ((unhide HF).below (Below.refl wf.heap.size wf).drew)
              have HSf := hide (show wf.drew.heap[XA]? = some (cusO A1 o.length c1) ∧ wf.drew.heap[XB]? = some (cusO B2 o.length c2) from ⟨(unhide HFd).ba, (unhide HFd).bb⟩)
              clear HF
              refine wpAnyH_take (i := 0) (v := cusV A1 o.length c1) rfl (by kernel_rfl) (by kernel_rfl) (by kernel_rfl) (fun _ _ _ h => h) (yields_loadCu _ rfl rfl rfl (fun _ h => h.1)) HSf.out ?_
              refine wpAnyH_take (i := 2) (v := cusV B2 o.length c2) rfl (by kernel_rfl) (by kernel_rfl) (by kernel_rfl) (fun _ _ _ h => h) (yields_loadCu _ rfl rfl rfl (fun _ h => h.2)) HSf.out ?_
              go_simp
              refine wpAnyH_one (i := 1) (by kernel_rfl) rfl (fun K hK => ?_)
              go_simp
              go_at_call 17
              refine ((unhide HP).cleared 0 o A1 c1 _ (unhide HFd).val ((unhide HFd).ck 0 (Nat.zero_le _)) (unhide HFd).cap).mono ?_
              rintro e wh ⟨Ah, ch, rfl, hnh, hbh⟩
              try go_simp
              have HFh := hide ((unhide HFd).below hbh)
              have HNh := hide (hnh 0 (.inl (by have := (unhide HFd).sz; omega)))
              refine hK _ _ ⟨⟨(unhide HFh).ba, (unhide HFh).bb⟩, ?_⟩
              clear hK K hnh hbh
              refine wpAnyH_one (i := 3) (by kernel_rfl) rfl (fun K hK => ?_)
              go_simp
              go_at_call 18
              refine (rqcleared_any 0 o B2 c2 _ (unhide HFh).val (sesO_in (unhide HFh).own (.inl (Nat.succ_pos _)))).mono ?_
              rintro e wj ⟨Aj, cj, rfl, hnj, hbj⟩
              try go_simp
              have HFj := hide ((unhide HFh).below hbj)
              have HNj := hide (hnj 0 (.inl (by have := (unhide HFh).sz; omega)))
              have HNi := hide ((unhide HNh).keep hbj)
              refine hK _ _ ⟨⟨(unhide HFj).ba, (unhide HFj).bb⟩, ?_⟩
              clear hK K hnj hbj
              have HKi := hide (kints_any 0 (o.map Se.bag) (o.map Se.bag) Ah Aj ch cj wj (by have := (unhide HFj).val.len; rw [List.length_map]; omega) (unhide HNi) (unhide HNj))
              rw [List.length_map, decide_eq_true rfl] at HKi
              have HKi := hide (unhide HKi)
              refine wpAnyH_one (i := 4) (by kernel_rfl) rfl (fun K hK => ?_)
              go_simp
              go_at_call 16
              refine (unhide HKi).mono ?_
              rintro e wk ⟨rfl, hbk⟩
              try go_simp
              have HFk := hide ((unhide HFj).below hbk)
              refine hK _ _ ⟨⟨(unhide HFk).ba, (unhide HFk).bb⟩, ?_⟩
              clear hK K hbk
              refine wpAnyH_one (i := 5) (by kernel_rfl) rfl (fun K hK => ?_)
              go_simp
              refine hK _ _ ⟨⟨(unhide HFk).ba, (unhide HFk).bb⟩, ?_⟩
              clear hK K
              refine wpAnyH_done (by kernel_rfl) ?_ _
              go_simp
              go_wp2
              go_roundw
              case rel => exact ⟨3, o, A1, B2, c1, c2, by omega, by first | rfl | go_num, HFk⟩
              case measure => simp [intOf] <;> omega
            · have q0 : (er == 0) = false := by rw [beq_eq_false_iff_ne]; exact he
              have HF := hide (unhide HQg).st
              clear he HQg HQr
              go_wp2_with fail
              refine wp_region_held (S := fun Z => Z.heap[XA]? = some (cusO A l.length c) ∧ Z.heap[XB]? = some (cusO B l.length c')) (by kernel_rfl) ?_
              have HFd := hide ((unhide HF).below (Below.refl wg.heap.size wg).drew)
              have HSf := hide (show wg.drew.heap[XA]? = some (cusO A l.length c) ∧ wg.drew.heap[XB]? = some (cusO B l.length c') from ⟨(unhide HFd).ba, (unhide HFd).bb⟩)
              clear HF
              refine wpAnyH_take (i := 0) (v := cusV A l.length c) rfl (by kernel_rfl) (by kernel_rfl) (by kernel_rfl) (fun _ _ _ h => h) (yields_loadCu _ rfl rfl rfl (fun _ h => h.1)) HSf.out ?_
              refine wpAnyH_take (i := 2) (v := cusV B l.length c') rfl (by kernel_rfl) (by kernel_rfl) (by kernel_rfl) (fun _ _ _ h => h) (yields_loadCu _ rfl rfl rfl (fun _ h => h.2)) HSf.out ?_
              go_simp
              refine wpAnyH_one (i := 1) (by kernel_rfl) rfl (fun K hK => ?_)
              go_simp
              go_at_call 17
              refine ((unhide HP).cleared 0 l A c _ (unhide HFd).val ((unhide HFd).ck 0 (Nat.zero_le _)) (unhide HFd).cap).mono ?_
              rintro e wh ⟨Ah, ch, rfl, hnh, hbh⟩
              try go_simp
              have HFh := hide ((unhide HFd).below hbh)
              have HNh := hide (hnh 0 (.inl (by have := (unhide HFd).sz; omega)))
              refine hK _ _ ⟨⟨(unhide HFh).ba, (unhide HFh).bb⟩, ?_⟩
              clear hK K hnh hbh
              refine wpAnyH_one (i := 3) (by kernel_rfl) rfl (fun K hK => ?_)
              go_simp
              go_at_call 18
              refine (rqcleared_any 0 l B c' _ (unhide HFh).val (sesO_in (unhide HFh).own (.inl (Nat.succ_pos _)))).mono ?_
              rintro e wj ⟨Aj, cj, rfl, hnj, hbj⟩
              try go_simp
              have HFj := hide ((unhide HFh).below hbj)
              have HNj := hide (hnj 0 (.inl (by have := (unhide HFh).sz; omega)))
              have HNi := hide ((unhide HNh).keep hbj)
              refine hK _ _ ⟨⟨(unhide HFj).ba, (unhide HFj).bb⟩, ?_⟩
              clear hK K hnj hbj
              have HKi := hide (kints_any 0 (l.map Se.bag) (l.map Se.bag) Ah Aj ch cj wj (by have := (unhide HFj).val.len; rw [List.length_map]; omega) (unhide HNi) (unhide HNj))
              rw [List.length_map, decide_eq_true rfl] at HKi
              have HKi := hide (unhide HKi)
              refine wpAnyH_one (i := 4) (by kernel_rfl) rfl (fun K hK => ?_)
              go_simp
              go_at_call 16
              refine (unhide HKi).mono ?_
              rintro e wk ⟨rfl, hbk⟩
              try go_simp
              have HFk := hide ((unhide HFj).below hbk)
              refine hK _ _ ⟨⟨(unhide HFk).ba, (unhide HFk).bb⟩, ?_⟩
              clear hK K hbk
              refine wpAnyH_one (i := 5) (by kernel_rfl) rfl (fun K hK => ?_)
              go_simp
              refine hK _ _ ⟨⟨(unhide HFk).ba, (unhide HFk).bb⟩, ?_⟩
              clear hK K
              refine wpAnyH_done (by kernel_rfl) ?_ _
              go_simp
              go_wp2
              go_roundw
              case rel => exact ⟨3, l, A, B, c, c', by omega, by first | rfl | go_num, HFk⟩
              case measure => simp [intOf] <;> omega
        · have i2 : ¬ (i : Int) = 2 := by omega
          have q2 : ((i : Int) == 2) = false := by rw [beq_eq_false_iff_ne]; exact i2
          go_upto_region 9 with fail
          obtain ⟨W3, hW3⟩ : ∃ W3 : World, (wy.alloc (cusO none 0 0)).alloc (cusO none 0 0) = W3 := ⟨_, rfl⟩
          have HQ := hide (show Sc2 w w.heap.size XA XB wy.heap.size (wy.heap.size + 1) l A c B c' [] none 0 [] none 0 W3 from by rw [← hW3]; exact Sc2.start (unhide HOy))
          go_upto_region 11 with fail
          obtain ⟨G1, hG1⟩ : ∃ G1, wy.heap.size = G1 := ⟨_, rfl⟩
          rw [hG1] at HQ ⊢
          obtain ⟨G2, hG2⟩ : ∃ G2, G1 + 1 = G2 := ⟨_, rfl⟩
          rw [hG2] at HQ ⊢
          clear hG1 hG2 hW3 HOy
          go_wp2_with fail
          refine (n_any _ _ 3 _ (unhide HQ).st.src (by omega) (by omega)).mono ?_
          rintro e wn ⟨u, rfl, u0, u1, hs, hg⟩
          have HQn := hide ((unhide HQ).reads hs hg)
          clear hs hg HQ
          by_cases hu : 0 < u
          · go_wp2_with (refine wpList_loadCu (unhide HQn).st.ba rfl _ rfl rfl ?_)
            refine ((unhide HP).clear 0 l x y A c _ (unhide HQn).st.val ((unhide HQn).st.ck 0 (Nat.zero_le _)) (unhide HQn).st.cap).mono ?_
            rintro e wp ⟨A1, c1, rfl, hC, hb, hcap⟩
            have HQp := hide ((unhide HQn).put1 hb hC hcap)
            have HZp := hide (heap_below (unhide HQn).b1 hb)
            have HV := hide (show clearE l x y = 0 → ValQ (clearL l x y) from fun h => (clear_val (unhide HQn).st.val h).1)
            have HLn := hide (clear_len (bag := x) (im := y) (unhide HQn).st.val)
            have HRc := hide (fun W (hq : SesO (XB + 1) W B c' l) => rqclear_any (XB + 1) l x y B c' W (unhide HQn).st.val hq)
            clear hC hb hcap HQn
            obtain ⟨o, ho⟩ : ∃ o, clearL l x y = o := ⟨_, rfl⟩
            obtain ⟨er, her⟩ : ∃ er, clearE l x y = er := ⟨_, rfl⟩
            rw [ho] at HQp HLn
            rw [ho, her] at HV HRc ⊢
            clear ho her
            go_upto_region 13 with (refine wpList_storeCu (A := A1) (n := o.length) (c := c1) (unhide HZp) rfl _ _ rfl rfl rfl ?_)
            generalize wp.setRow G1 #[.slice A1 o.length c1] = wp2 at HQp ⊢
            clear HZp
            go_wp2_with (refine wpList_loadCu (unhide HQp).st.bb rfl _ rfl rfl ?_)
            refine (unhide HRc _ (unhide HQp).st.own).mono ?_
            rintro e wr2 ⟨B2, c2, rfl, hO, hb⟩
            have HQr := hide ((unhide HQp).put2 hb hO)
            have HZr := hide (heap_below (unhide HQp).b2 hb)
            clear hO hb HQp HRc
            go_upto_region 16 with (refine wpList_storeCu (A := B2) (n := o.length) (c := c2) (unhide HZr) rfl _ _ rfl rfl rfl ?_)
            generalize wr2.setRow G2 #[.slice B2 o.length c2] = wq at HQr ⊢
            clear HZr
            have qe : (er != er) = false := by simp
            have HLo := hide (show er = 0 → o.length ≤ 40 from fun h => ((unhide HV) h).len)
            have HSm := hide (rqsame_any 0 o o A1 B2 c1 c2 wq (unhide HLn) ((unhide HQr).k1 0 (Nat.zero_le _)) (sesO_in (unhide HQr).own2 (.inl (Nat.succ_pos _))))
            rw [decide_eq_true rfl] at HSm
            have HSm := hide (unhide HSm)
            go_upto_region 18 with (first
              | (refine wpList_loadCu_w (unhide HQr).b1 _ rfl rfl rfl ?_)
              | (refine wpList_loadCu_w (unhide HQr).b2 _ rfl rfl rfl ?_)
              | (go_at_call 15; refine (unhide HSm).mono ?_; rintro e wg ⟨rfl, hbg⟩; have HQg := hide ((unhide HQr).below hbg); clear hbg))
            by_cases he : er = 0
            · have HV1 := hide ((unhide HV) he)
              subst he
              go_upto_region 19 with fail
              have HT := hide ((unhide HQg).below (Below.refl wg.heap.size wg).drew)
              refine wp_region_held (S := fun Z => Z.heap[G1]? = some (cusO A1 o.length c1) ∧ Z.heap[G2]? = some (cusO B2 o.length c2)) (by kernel_rfl) ?_
              have HSs := hide (show wg.drew.heap[G1]? = some (cusO A1 o.length c1) ∧ wg.drew.heap[G2]? = some (cusO B2 o.length c2) from ⟨(unhide HT).b1, (unhide HT).b2⟩)
              refine wpAnyH_take (i := 0) (v := cusV A1 o.length c1) rfl (by kernel_rfl) (by kernel_rfl) (by kernel_rfl) (fun _ _ _ h => h) (yields_loadCu _ rfl rfl rfl (fun _ h => h.1)) HSs.out ?_
              refine wpAnyH_take (i := 1) (v := cusV B2 o.length c2) rfl (by kernel_rfl) (by kernel_rfl) (by kernel_rfl) (fun _ _ _ h => h) (yields_loadCu _ rfl rfl rfl (fun _ h => h.2)) HSs.out ?_
              go_simp
              obtain ⟨ht1, ht2⟩ := (unhide HT).take (unhide HV1)
              have HT1 := hide ht1
              have HF := hide ht2
              have HTa := hide (unhide HT).st.ba
              have hla := (unhide HT).st.lb
              have hl1 := (unhide HT).l1
              have hl2 := (unhide HT).l2
              have HS2 := hide (show (wg.drew.setRow XA #[.slice A1 o.length c1]).heap[G1]? = some (cusO A1 o.length c1) ∧ (wg.drew.setRow XA #[.slice A1 o.length c1]).heap[G2]? = some (cusO B2 o.length c2) from
                ⟨by rw [setRow_other _ _ _ _ (by omega)]; exact (unhide HT).b1, by rw [setRow_other _ _ _ _ (by omega)]; exact (unhide HT).b2⟩)
              have HS3 := hide (show ((wg.drew.setRow XA #[.slice A1 o.length c1]).setRow XB #[.slice B2 o.length c2]).heap[G1]? = some (cusO A1 o.length c1) ∧ ((wg.drew.setRow XA #[.slice A1 o.length c1]).setRow XB #[.slice B2 o.length c2]).heap[G2]? = some (cusO B2 o.length c2) from
                ⟨by rw [setRow_other _ _ _ _ (by omega)]; exact (unhide HS2).1, by rw [setRow_other _ _ _ _ (by omega)]; exact (unhide HS2).2⟩)
              clear ht1 ht2 HQg HQr HT HSs hla hl1 hl2
              refine wpAnyH_one (i := 2) (by kernel_rfl) rfl (fun K hK => ?_)
              rw [if_pos (by rfl)]
              refine wp_store_row _ _ _ rfl XA #[.slice A1 o.length c1] rfl rfl 27 _ (unhide HTa) infoCu rfl (by simp [Value.oneCell']) ?_
              refine hK _ _ ⟨unhide HS2, ?_⟩
              clear hK K
              refine wpAnyH_one (i := 3) (by kernel_rfl) rfl (fun K hK => ?_)
              rw [if_pos (by rfl)]
              refine wp_store_row _ _ _ rfl XB #[.slice B2 o.length c2] rfl rfl 27 _ (unhide HT1) infoCu rfl (by simp [Value.oneCell']) ?_
              refine hK _ _ ⟨unhide HS3, ?_⟩
              clear hK K
              refine wpAnyH_done (by kernel_rfl) ?_ _
              go_simp
              have HF := hide (unhide HF)
              generalize ((wg.drew).setRow XA #[.slice A1 o.length c1]).setRow XB #[.slice B2 o.length c2] = wf at HF ⊢
              go_wp2_with fail
              refine wp_region_held (S := fun Z => Z.heap[XA]? = some (cusO A1 o.length c1) ∧ Z.heap[XB]? = some (cusO B2 o.length c2)) (by kernel_rfl) ?_
              have HFd := hide ((unhide HF).below (Below.refl wf.heap.size wf).drew)
              have HSf := hide (show wf.drew.heap[XA]? = some (cusO A1 o.length c1) ∧ wf.drew.heap[XB]? = some (cusO B2 o.length c2) from ⟨(unhide HFd).ba, (unhide HFd).bb⟩)
              clear HF
              refine wpAnyH_take (i := 0) (v := cusV A1 o.length c1) rfl (by kernel_rfl) (by kernel_rfl) (by kernel_rfl) (fun _ _ _ h => h) (yields_loadCu _ rfl rfl rfl (fun _ h => h.1)) HSf.out ?_
              refine wpAnyH_take (i := 2) (v := cusV B2 o.length c2) rfl (by kernel_rfl) (by kernel_rfl) (by kernel_rfl) (fun _ _ _ h => h) (yields_loadCu _ rfl rfl rfl (fun _ h => h.2)) HSf.out ?_
              go_simp
              refine wpAnyH_one (i := 1) (by kernel_rfl) rfl (fun K hK => ?_)
              go_simp
              go_at_call 17
              refine ((unhide HP).cleared 0 o A1 c1 _ (unhide HFd).val ((unhide HFd).ck 0 (Nat.zero_le _)) (unhide HFd).cap).mono ?_
              rintro e wh ⟨Ah, ch, rfl, hnh, hbh⟩
              try go_simp
              have HFh := hide ((unhide HFd).below hbh)
              have HNh := hide (hnh 0 (.inl (by have := (unhide HFd).sz; omega)))
              refine hK _ _ ⟨⟨(unhide HFh).ba, (unhide HFh).bb⟩, ?_⟩
              clear hK K hnh hbh
              refine wpAnyH_one (i := 3) (by kernel_rfl) rfl (fun K hK => ?_)
              go_simp
              go_at_call 18
              refine (rqcleared_any 0 o B2 c2 _ (unhide HFh).val (sesO_in (unhide HFh).own (.inl (Nat.succ_pos _)))).mono ?_
              rintro e wj ⟨Aj, cj, rfl, hnj, hbj⟩
              try go_simp
              have HFj := hide ((unhide HFh).below hbj)
              have HNj := hide (hnj 0 (.inl (by have := (unhide HFh).sz; omega)))
              have HNi := hide ((unhide HNh).keep hbj)
              refine hK _ _ ⟨⟨(unhide HFj).ba, (unhide HFj).bb⟩, ?_⟩
              clear hK K hnj hbj
              have HKi := hide (kints_any 0 (o.map Se.bag) (o.map Se.bag) Ah Aj ch cj wj (by have := (unhide HFj).val.len; rw [List.length_map]; omega) (unhide HNi) (unhide HNj))
              rw [List.length_map, decide_eq_true rfl] at HKi
              have HKi := hide (unhide HKi)
              refine wpAnyH_one (i := 4) (by kernel_rfl) rfl (fun K hK => ?_)
              go_simp
              go_at_call 16
              refine (unhide HKi).mono ?_
              rintro e wk ⟨rfl, hbk⟩
              try go_simp
              have HFk := hide ((unhide HFj).below hbk)
              refine hK _ _ ⟨⟨(unhide HFk).ba, (unhide HFk).bb⟩, ?_⟩
              clear hK K hbk
              refine wpAnyH_one (i := 5) (by kernel_rfl) rfl (fun K hK => ?_)
              go_simp
              refine hK _ _ ⟨⟨(unhide HFk).ba, (unhide HFk).bb⟩, ?_⟩
              clear hK K
              refine wpAnyH_done (by kernel_rfl) ?_ _
              go_simp
              go_wp2
              go_roundw
              case rel => exact ⟨i + 1, o, A1, B2, c1, c2, by omega, by first | rfl | go_num, HFk⟩
              case measure => simp [intOf] <;> omega
            · have q0 : (er == 0) = false := by rw [beq_eq_false_iff_ne]; exact he
              have HF := hide (unhide HQg).st
              clear he HQg HQr
              go_wp2_with fail
              refine wp_region_held (S := fun Z => Z.heap[XA]? = some (cusO A l.length c) ∧ Z.heap[XB]? = some (cusO B l.length c')) (by kernel_rfl) ?_
              have HFd := hide ((unhide HF).below (Below.refl wg.heap.size wg).drew)
              have HSf := hide (show wg.drew.heap[XA]? = some (cusO A l.length c) ∧ wg.drew.heap[XB]? = some (cusO B l.length c') from ⟨(unhide HFd).ba, (unhide HFd).bb⟩)
              clear HF
              refine wpAnyH_take (i := 0) (v := cusV A l.length c) rfl (by kernel_rfl) (by kernel_rfl) (by kernel_rfl) (fun _ _ _ h => h) (yields_loadCu _ rfl rfl rfl (fun _ h => h.1)) HSf.out ?_
              refine wpAnyH_take (i := 2) (v := cusV B l.length c') rfl (by kernel_rfl) (by kernel_rfl) (by kernel_rfl) (fun _ _ _ h => h) (yields_loadCu _ rfl rfl rfl (fun _ h => h.2)) HSf.out ?_
              go_simp
              refine wpAnyH_one (i := 1) (by kernel_rfl) rfl (fun K hK => ?_)
              go_simp
              go_at_call 17
              refine ((unhide HP).cleared 0 l A c _ (unhide HFd).val ((unhide HFd).ck 0 (Nat.zero_le _)) (unhide HFd).cap).mono ?_
              rintro e wh ⟨Ah, ch, rfl, hnh, hbh⟩
              try go_simp
              have HFh := hide ((unhide HFd).below hbh)
              have HNh := hide (hnh 0 (.inl (by have := (unhide HFd).sz; omega)))
              refine hK _ _ ⟨⟨(unhide HFh).ba, (unhide HFh).bb⟩, ?_⟩
              clear hK K hnh hbh
              refine wpAnyH_one (i := 3) (by kernel_rfl) rfl (fun K hK => ?_)
              go_simp
              go_at_call 18
              refine (rqcleared_any 0 l B c' _ (unhide HFh).val (sesO_in (unhide HFh).own (.inl (Nat.succ_pos _)))).mono ?_
              rintro e wj ⟨Aj, cj, rfl, hnj, hbj⟩
              try go_simp
              have HFj := hide ((unhide HFh).below hbj)
              have HNj := hide (hnj 0 (.inl (by have := (unhide HFh).sz; omega)))
              have HNi := hide ((unhide HNh).keep hbj)
              refine hK _ _ ⟨⟨(unhide HFj).ba, (unhide HFj).bb⟩, ?_⟩
              clear hK K hnj hbj
              have HKi := hide (kints_any 0 (l.map Se.bag) (l.map Se.bag) Ah Aj ch cj wj (by have := (unhide HFj).val.len; rw [List.length_map]; omega) (unhide HNi) (unhide HNj))
              rw [List.length_map, decide_eq_true rfl] at HKi
              have HKi := hide (unhide HKi)
              refine wpAnyH_one (i := 4) (by kernel_rfl) rfl (fun K hK => ?_)
              go_simp
              go_at_call 16
              refine (unhide HKi).mono ?_
              rintro e wk ⟨rfl, hbk⟩
              try go_simp
              have HFk := hide ((unhide HFj).below hbk)
              refine hK _ _ ⟨⟨(unhide HFk).ba, (unhide HFk).bb⟩, ?_⟩
              clear hK K hbk
              refine wpAnyH_one (i := 5) (by kernel_rfl) rfl (fun K hK => ?_)
              go_simp
              refine hK _ _ ⟨⟨(unhide HFk).ba, (unhide HFk).bb⟩, ?_⟩
              clear hK K
              refine wpAnyH_done (by kernel_rfl) ?_ _
              go_simp
              go_wp2
              go_roundw
              case rel => exact ⟨i + 1, l, A, B, c, c', by omega, by first | rfl | go_num, HFk⟩
              case measure => simp [intOf] <;> omega
          · go_wp2_with (refine wpList_loadCu (unhide HQn).st.ba rfl _ rfl rfl ?_)
            refine ((unhide HP).revoke 0 l x A c _ (unhide HQn).st.val ((unhide HQn).st.ck 0 (Nat.zero_le _)) (unhide HQn).st.cap).mono ?_
            rintro e wp ⟨A1, c1, rfl, hC, hb, hcap⟩
            have HQp := hide ((unhide HQn).put1 hb hC hcap)
            have HZp := hide (heap_below (unhide HQn).b1 hb)
            have HV := hide (show revE l x = 0 → ValQ (revL l x) from fun h => rev_val (unhide HQn).st.val h)
            have HLn := hide (rev_len (bag := x) (unhide HQn).st.val)
            have HRc := hide (fun W (hq : SesO (XB + 1) W B c' l) => rqrevoke_any (XB + 1) l x B c' W (unhide HQn).st.val hq)
            clear hC hb hcap HQn
            obtain ⟨o, ho⟩ : ∃ o, revL l x = o := ⟨_, rfl⟩
            obtain ⟨er, her⟩ : ∃ er, revE l x = er := ⟨_, rfl⟩
            rw [ho] at HQp HLn
            rw [ho, her] at HV HRc ⊢
            clear ho her
            go_upto_region 15 with (refine wpList_storeCu (A := A1) (n := o.length) (c := c1) (unhide HZp) rfl _ _ rfl rfl rfl ?_)
            generalize wp.setRow G1 #[.slice A1 o.length c1] = wp2 at HQp ⊢
            clear HZp
            go_wp2_with (refine wpList_loadCu (unhide HQp).st.bb rfl _ rfl rfl ?_)
            refine (unhide HRc _ (unhide HQp).st.own).mono ?_
            rintro e wr2 ⟨B2, c2, rfl, hO, hb⟩
            have HQr := hide ((unhide HQp).put2 hb hO)
            have HZr := hide (heap_below (unhide HQp).b2 hb)
            clear hO hb HQp HRc
            go_upto_region 16 with (refine wpList_storeCu (A := B2) (n := o.length) (c := c2) (unhide HZr) rfl _ _ rfl rfl rfl ?_)
            generalize wr2.setRow G2 #[.slice B2 o.length c2] = wq at HQr ⊢
            clear HZr
            have qe : (er != er) = false := by simp
            have HLo := hide (show er = 0 → o.length ≤ 40 from fun h => ((unhide HV) h).len)
            have HSm := hide (rqsame_any 0 o o A1 B2 c1 c2 wq (unhide HLn) ((unhide HQr).k1 0 (Nat.zero_le _)) (sesO_in (unhide HQr).own2 (.inl (Nat.succ_pos _))))
            rw [decide_eq_true rfl] at HSm
            have HSm := hide (unhide HSm)
            go_upto_region 18 with (first
              | (refine wpList_loadCu_w (unhide HQr).b1 _ rfl rfl rfl ?_)
              | (refine wpList_loadCu_w (unhide HQr).b2 _ rfl rfl rfl ?_)
              | (go_at_call 15; refine (unhide HSm).mono ?_; rintro e wg ⟨rfl, hbg⟩; have HQg := hide ((unhide HQr).below hbg); clear hbg))
            by_cases he : er = 0
            · have HV1 := hide ((unhide HV) he)
              subst he
              go_upto_region 19 with fail
              have HT := hide ((unhide HQg).below (Below.refl wg.heap.size wg).drew)
              refine wp_region_held (S := fun Z => Z.heap[G1]? = some (cusO A1 o.length c1) ∧ Z.heap[G2]? = some (cusO B2 o.length c2)) (by kernel_rfl) ?_
              have HSs := hide (show wg.drew.heap[G1]? = some (cusO A1 o.length c1) ∧ wg.drew.heap[G2]? = some (cusO B2 o.length c2) from ⟨(unhide HT).b1, (unhide HT).b2⟩)
              refine wpAnyH_take (i := 0) (v := cusV A1 o.length c1) rfl (by kernel_rfl) (by kernel_rfl) (by kernel_rfl) (fun _ _ _ h => h) (yields_loadCu _ rfl rfl rfl (fun _ h => h.1)) HSs.out ?_
              refine wpAnyH_take (i := 1) (v := cusV B2 o.length c2) rfl (by kernel_rfl) (by kernel_rfl) (by kernel_rfl) (fun _ _ _ h => h) (yields_loadCu _ rfl rfl rfl (fun _ h => h.2)) HSs.out ?_
              go_simp
              obtain ⟨ht1, ht2⟩ := (unhide HT).take (unhide HV1)
              have HT1 := hide ht1
              have HF := hide ht2
              have HTa := hide (unhide HT).st.ba
              have hla := (unhide HT).st.lb
              have hl1 := (unhide HT).l1
              have hl2 := (unhide HT).l2
              have HS2 := hide (show (wg.drew.setRow XA #[.slice A1 o.length c1]).heap[G1]? = some (cusO A1 o.length c1) ∧ (wg.drew.setRow XA #[.slice A1 o.length c1]).heap[G2]? = some (cusO B2 o.length c2) from
                ⟨by rw [setRow_other _ _ _ _ (by omega)]; exact (unhide HT).b1, by rw [setRow_other _ _ _ _ (by omega)]; exact (unhide HT).b2⟩)
              have HS3 := hide (show ((wg.drew.setRow XA #[.slice A1 o.length c1]).setRow XB #[.slice B2 o.length c2]).heap[G1]? = some (cusO A1 o.length c1) ∧ ((wg.drew.setRow XA #[.slice A1 o.length c1]).setRow XB #[.slice B2 o.length c2]).heap[G2]? = some (cusO B2 o.length c2) from
                ⟨by rw [setRow_other _ _ _ _ (by omega)]; exact (unhide HS2).1, by rw [setRow_other _ _ _ _ (by omega)]; exact (unhide HS2).2⟩)
              clear ht1 ht2 HQg HQr HT HSs hla hl1 hl2
              refine wpAnyH_one (i := 2) (by kernel_rfl) rfl (fun K hK => ?_)
              rw [if_pos (by rfl)]
              refine wp_store_row _ _ _ rfl XA #[.slice A1 o.length c1] rfl rfl 27 _ (unhide HTa) infoCu rfl (by simp [Value.oneCell']) ?_
              refine hK _ _ ⟨unhide HS2, ?_⟩
              clear hK K
              refine wpAnyH_one (i := 3) (by kernel_rfl) rfl (fun K hK => ?_)
              rw [if_pos (by rfl)]
              refine wp_store_row _ _ _ rfl XB #[.slice B2 o.length c2] rfl rfl 27 _ (unhide HT1) infoCu rfl (by simp [Value.oneCell']) ?_
              refine hK _ _ ⟨unhide HS3, ?_⟩
              clear hK K
              refine wpAnyH_done (by kernel_rfl) ?_ _
              go_simp
              have HF := hide (unhide HF)
              generalize ((wg.drew).setRow XA #[.slice A1 o.length c1]).setRow XB #[.slice B2 o.length c2] = wf at HF ⊢
              go_wp2_with fail
              refine wp_region_held (S := fun Z => Z.heap[XA]? = some (cusO A1 o.length c1) ∧ Z.heap[XB]? = some (cusO B2 o.length c2)) (by kernel_rfl) ?_
              have HFd := hide ((unhide HF).below (Below.refl wf.heap.size wf).drew)
              have HSf := hide (show wf.drew.heap[XA]? = some (cusO A1 o.length c1) ∧ wf.drew.heap[XB]? = some (cusO B2 o.length c2) from ⟨(unhide HFd).ba, (unhide HFd).bb⟩)
              clear HF
              refine wpAnyH_take (i := 0) (v := cusV A1 o.length c1) rfl (by kernel_rfl) (by kernel_rfl) (by kernel_rfl) (fun _ _ _ h => h) (yields_loadCu _ rfl rfl rfl (fun _ h => h.1)) HSf.out ?_
              refine wpAnyH_take (i := 2) (v := cusV B2 o.length c2) rfl (by kernel_rfl) (by kernel_rfl) (by kernel_rfl) (fun _ _ _ h => h) (yields_loadCu _ rfl rfl rfl (fun _ h => h.2)) HSf.out ?_
              go_simp
              refine wpAnyH_one (i := 1) (by kernel_rfl) rfl (fun K hK => ?_)
              go_simp
              go_at_call 17
              refine ((unhide HP).cleared 0 o A1 c1 _ (unhide HFd).val ((unhide HFd).ck 0 (Nat.zero_le _)) (unhide HFd).cap).mono ?_
              rintro e wh ⟨Ah, ch, rfl, hnh, hbh⟩
              try go_simp
              have HFh := hide ((unhide HFd).below hbh)
              have HNh := hide (hnh 0 (.inl (by have := (unhide HFd).sz; omega)))
              refine hK _ _ ⟨⟨(unhide HFh).ba, (unhide HFh).bb⟩, ?_⟩
              clear hK K hnh hbh
              refine wpAnyH_one (i := 3) (by kernel_rfl) rfl (fun K hK => ?_)
              go_simp
              go_at_call 18
              refine (rqcleared_any 0 o B2 c2 _ (unhide HFh).val (sesO_in (unhide HFh).own (.inl (Nat.succ_pos _)))).mono ?_
              rintro e wj ⟨Aj, cj, rfl, hnj, hbj⟩
              try go_simp
              have HFj := hide ((unhide HFh).below hbj)
              have HNj := hide (hnj 0 (.inl (by have := (unhide HFh).sz; omega)))
              have HNi := hide ((unhide HNh).keep hbj)
              refine hK _ _ ⟨⟨(unhide HFj).ba, (unhide HFj).bb⟩, ?_⟩
              clear hK K hnj hbj
              have HKi := hide (kints_any 0 (o.map Se.bag) (o.map Se.bag) Ah Aj ch cj wj (by have := (unhide HFj).val.len; rw [List.length_map]; omega) (unhide HNi) (unhide HNj))
              rw [List.length_map, decide_eq_true rfl] at HKi
              have HKi := hide (unhide HKi)
              refine wpAnyH_one (i := 4) (by kernel_rfl) rfl (fun K hK => ?_)
              go_simp
              go_at_call 16
              refine (unhide HKi).mono ?_
              rintro e wk ⟨rfl, hbk⟩
              try go_simp
              have HFk := hide ((unhide HFj).below hbk)
              refine hK _ _ ⟨⟨(unhide HFk).ba, (unhide HFk).bb⟩, ?_⟩
              clear hK K hbk
              refine wpAnyH_one (i := 5) (by kernel_rfl) rfl (fun K hK => ?_)
              go_simp
              refine hK _ _ ⟨⟨(unhide HFk).ba, (unhide HFk).bb⟩, ?_⟩
              clear hK K
              refine wpAnyH_done (by kernel_rfl) ?_ _
              go_simp
              go_wp2
              go_roundw
              case rel => exact ⟨i + 1, o, A1, B2, c1, c2, by omega, by first | rfl | go_num, HFk⟩
              case measure => simp [intOf] <;> omega
            · have q0 : (er == 0) = false := by rw [beq_eq_false_iff_ne]; exact he
              have HF := hide (unhide HQg).st
              clear he HQg HQr
              go_wp2_with fail
              refine wp_region_held (S := fun Z => Z.heap[XA]? = some (cusO A l.length c) ∧ Z.heap[XB]? = some (cusO B l.length c')) (by kernel_rfl) ?_
              have HFd := hide ((unhide HF).below (Below.refl wg.heap.size wg).drew)
              have HSf := hide (show wg.drew.heap[XA]? = some (cusO A l.length c) ∧ wg.drew.heap[XB]? = some (cusO B l.length c') from ⟨(unhide HFd).ba, (unhide HFd).bb⟩)
              clear HF
              refine wpAnyH_take (i := 0) (v := cusV A l.length c) rfl (by kernel_rfl) (by kernel_rfl) (by kernel_rfl) (fun _ _ _ h => h) (yields_loadCu _ rfl rfl rfl (fun _ h => h.1)) HSf.out ?_
              refine wpAnyH_take (i := 2) (v := cusV B l.length c') rfl (by kernel_rfl) (by kernel_rfl) (by kernel_rfl) (fun _ _ _ h => h) (yields_loadCu _ rfl rfl rfl (fun _ h => h.2)) HSf.out ?_
              go_simp
              refine wpAnyH_one (i := 1) (by kernel_rfl) rfl (fun K hK => ?_)
              go_simp
              go_at_call 17
              refine ((unhide HP).cleared 0 l A c _ (unhide HFd).val ((unhide HFd).ck 0 (Nat.zero_le _)) (unhide HFd).cap).mono ?_
              rintro e wh ⟨Ah, ch, rfl, hnh, hbh⟩
              try go_simp
              have HFh := hide ((unhide HFd).below hbh)
              have HNh := hide (hnh 0 (.inl (by have := (unhide HFd).sz; omega)))
              refine hK _ _ ⟨⟨(unhide HFh).ba, (unhide HFh).bb⟩, ?_⟩
              clear hK K hnh hbh
              refine wpAnyH_one (i := 3) (by kernel_rfl) rfl (fun K hK => ?_)
              go_simp
              go_at_call 18
              refine (rqcleared_any 0 l B c' _ (unhide HFh).val (sesO_in (unhide HFh).own (.inl (Nat.succ_pos _)))).mono ?_
              rintro e wj ⟨Aj, cj, rfl, hnj, hbj⟩
              try go_simp
              have HFj := hide ((unhide HFh).below hbj)
              have HNj := hide (hnj 0 (.inl (by have := (unhide HFh).sz; omega)))
              have HNi := hide ((unhide HNh).keep hbj)
              refine hK _ _ ⟨⟨(unhide HFj).ba, (unhide HFj).bb⟩, ?_⟩
              clear hK K hnj hbj
              have HKi := hide (kints_any 0 (l.map Se.bag) (l.map Se.bag) Ah Aj ch cj wj (by have := (unhide HFj).val.len; rw [List.length_map]; omega) (unhide HNi) (unhide HNj))
              rw [List.length_map, decide_eq_true rfl] at HKi
              have HKi := hide (unhide HKi)
              refine wpAnyH_one (i := 4) (by kernel_rfl) rfl (fun K hK => ?_)
              go_simp
              go_at_call 16
              refine (unhide HKi).mono ?_
              rintro e wk ⟨rfl, hbk⟩
              try go_simp
              have HFk := hide ((unhide HFj).below hbk)
              refine hK _ _ ⟨⟨(unhide HFk).ba, (unhide HFk).bb⟩, ?_⟩
              clear hK K hbk
              refine wpAnyH_one (i := 5) (by kernel_rfl) rfl (fun K hK => ?_)
              go_simp
              refine hK _ _ ⟨⟨(unhide HFk).ba, (unhide HFk).bb⟩, ?_⟩
              clear hK K
              refine wpAnyH_done (by kernel_rfl) ?_ _
              go_simp
              go_wp2
              go_roundw
              case rel => exact ⟨i + 1, l, A, B, c, c', by omega, by first | rfl | go_num, HFk⟩
              case measure => simp [intOf] <;> omega
      · have i3 : ¬ (i : Int) < 3 := by omega
        go_wp2_with fail
        refine (moreq_any _ _ _ (unhide HO).src).mono ?_
        rintro e wm ⟨v, rfl, hbm⟩
        have HOm := hide ((unhide HO).below hbm)
        clear hbm HO
        cases v
        case' false =>
          go_wp2_with (go_at_call 19; refine (awake_cus (unhide HP) _).mono ?_; rintro e wz ⟨rfl, hbz⟩; have HBZ := hide (onward (unhide HOm).bel hbz); clear hbz)
          go_ret
          exact ⟨rfl, unhide HBZ⟩
        go_wp2_with fail
        refine (range_any _ _ 0 6 _ (unhide HOm).src (by omega) (by omega) (by omega)).mono ?_
        rintro e wx ⟨x, rfl, x0, x1, hs, hg⟩
        have HOx := hide ((unhide HOm).reads hs hg)
        clear hs hg HOm x0 x1
        go_wp2_with fail
        refine (range_any _ _ 0 4 _ (unhide HOx).src (by omega) (by omega) (by omega)).mono ?_
        rintro e wy ⟨y, rfl, y0, y1, hs, hg⟩
        have HOy := hide ((unhide HOx).reads hs hg)
        clear hs hg HOx y0 y1
        have i2 : ¬ (i : Int) = 2 := by omega
        have q2 : ((i : Int) == 2) = false := by rw [beq_eq_false_iff_ne]; exact i2
        go_upto_region 9 with fail
        obtain ⟨W3, hW3⟩ : ∃ W3 : World, (wy.alloc (cusO none 0 0)).alloc (cusO none 0 0) = W3 := ⟨_, rfl⟩
        have HQ := hide (show Sc2 w w.heap.size XA XB wy.heap.size (wy.heap.size + 1) l A c B c' [] none 0 [] none 0 W3 from by rw [← hW3]; exact Sc2.start (unhide HOy))
        go_upto_region 11 with fail
        obtain ⟨G1, hG1⟩ : ∃ G1, wy.heap.size = G1 := ⟨_, rfl⟩
        rw [hG1] at HQ ⊢
        obtain ⟨G2, hG2⟩ : ∃ G2, G1 + 1 = G2 := ⟨_, rfl⟩
        rw [hG2] at HQ ⊢
        clear hG1 hG2 hW3 HOy
        go_wp2_with fail
        refine (n_any _ _ 3 _ (unhide HQ).st.src (by omega) (by omega)).mono ?_
        rintro e wn ⟨u, rfl, u0, u1, hs, hg⟩
        have HQn := hide ((unhide HQ).reads hs hg)
        clear hs hg HQ
        by_cases hu : 0 < u
        · go_wp2_with (refine wpList_loadCu (unhide HQn).st.ba rfl _ rfl rfl ?_)
          refine ((unhide HP).clear 0 l x y A c _ (unhide HQn).st.val ((unhide HQn).st.ck 0 (Nat.zero_le _)) (unhide HQn).st.cap).mono ?_
          rintro e wp ⟨A1, c1, rfl, hC, hb, hcap⟩
          have HQp := hide ((unhide HQn).put1 hb hC hcap)
          have HZp := hide (heap_below (unhide HQn).b1 hb)
          have HV := hide (show clearE l x y = 0 → ValQ (clearL l x y) from fun h => (clear_val (unhide HQn).st.val h).1)
          have HLn := hide (clear_len (bag := x) (im := y) (unhide HQn).st.val)
          have HRc := hide (fun W (hq : SesO (XB + 1) W B c' l) => rqclear_any (XB + 1) l x y B c' W (unhide HQn).st.val hq)
          clear hC hb hcap HQn
          obtain ⟨o, ho⟩ : ∃ o, clearL l x y = o := ⟨_, rfl⟩
          obtain ⟨er, her⟩ : ∃ er, clearE l x y = er := ⟨_, rfl⟩
          rw [ho] at HQp HLn
          rw [ho, her] at HV HRc ⊢
          clear ho her
          go_upto_region 13 with (refine wpList_storeCu (A := A1) (n := o.length) (c := c1) (unhide HZp) rfl _ _ rfl rfl rfl ?_)
          generalize wp.setRow G1 #[.slice A1 o.length c1] = wp2 at HQp ⊢
          clear HZp
          go_wp2_with (refine wpList_loadCu (unhide HQp).st.bb rfl _ rfl rfl ?_)
          refine (unhide HRc _ (unhide HQp).st.own).mono ?_
          rintro e wr2 ⟨B2, c2, rfl, hO, hb⟩
          have HQr := hide ((unhide HQp).put2 hb hO)
          have HZr := hide (heap_below (unhide HQp).b2 hb)
          clear hO hb HQp HRc
          go_upto_region 16 with (refine wpList_storeCu (A := B2) (n := o.length) (c := c2) (unhide HZr) rfl _ _ rfl rfl rfl ?_)
          generalize wr2.setRow G2 #[.slice B2 o.length c2] = wq at HQr ⊢
          clear HZr
          have qe : (er != er) = false := by simp
          have HLo := hide (show er = 0 → o.length ≤ 40 from fun h => ((unhide HV) h).len)
          have HSm := hide (rqsame_any 0 o o A1 B2 c1 c2 wq (unhide HLn) ((unhide HQr).k1 0 (Nat.zero_le _)) (sesO_in (unhide HQr).own2 (.inl (Nat.succ_pos _))))
          rw [decide_eq_true rfl] at HSm
          have HSm := hide (unhide HSm)
          go_upto_region 18 with (first
            | (refine wpList_loadCu_w (unhide HQr).b1 _ rfl rfl rfl ?_)
            | (refine wpList_loadCu_w (unhide HQr).b2 _ rfl rfl rfl ?_)
            | (go_at_call 15; refine (unhide HSm).mono ?_; rintro e wg ⟨rfl, hbg⟩; have HQg := hide ((unhide HQr).below hbg); clear hbg))
          by_cases he : er = 0
          · have HV1 := hide ((unhide HV) he)
            subst he
            go_upto_region 19 with fail
            have HT := hide ((unhide HQg).below (Below.refl wg.heap.size wg).drew)
            refine wp_region_held (S := fun Z => Z.heap[G1]? = some (cusO A1 o.length c1) ∧ Z.heap[G2]? = some (cusO B2 o.length c2)) (by kernel_rfl) ?_
            have HSs := hide (show wg.drew.heap[G1]? = some (cusO A1 o.length c1) ∧ wg.drew.heap[G2]? = some (cusO B2 o.length c2) from ⟨(unhide HT).b1, (unhide HT).b2⟩)
            refine wpAnyH_take (i := 0) (v := cusV A1 o.length c1) rfl (by kernel_rfl) (by kernel_rfl) (by kernel_rfl) (fun _ _ _ h => h) (yields_loadCu _ rfl rfl rfl (fun _ h => h.1)) HSs.out ?_
            refine wpAnyH_take (i := 1) (v := cusV B2 o.length c2) rfl (by kernel_rfl) (by kernel_rfl) (by kernel_rfl) (fun _ _ _ h => h) (yields_loadCu _ rfl rfl rfl (fun _ h => h.2)) HSs.out ?_
            go_simp
            obtain ⟨ht1, ht2⟩ := (unhide HT).take (unhide HV1)
            have HT1 := hide ht1
            have HF := hide ht2
            have HTa := hide (unhide HT).st.ba
            have hla := (unhide HT).st.lb
            have hl1 := (unhide HT).l1
            have hl2 := (unhide HT).l2
            have HS2 := hide (show (wg.drew.setRow XA #[.slice A1 o.length c1]).heap[G1]? = some (cusO A1 o.length c1) ∧ (wg.drew.setRow XA #[.slice A1 o.length c1]).heap[G2]? = some (cusO B2 o.length c2) from
              ⟨by rw [setRow_other _ _ _ _ (by omega)]; exact (unhide HT).b1, by rw [setRow_other _ _ _ _ (by omega)]; exact (unhide HT).b2⟩)
            have HS3 := hide (show ((wg.drew.setRow XA #[.slice A1 o.length c1]).setRow XB #[.slice B2 o.length c2]).heap[G1]? = some (cusO A1 o.length c1) ∧ ((wg.drew.setRow XA #[.slice A1 o.length c1]).setRow XB #[.slice B2 o.length c2]).heap[G2]? = some (cusO B2 o.length c2) from
              ⟨by rw [setRow_other _ _ _ _ (by omega)]; exact (unhide HS2).1, by rw [setRow_other _ _ _ _ (by omega)]; exact (unhide HS2).2⟩)
            clear ht1 ht2 HQg HQr HT HSs hla hl1 hl2
            refine wpAnyH_one (i := 2) (by kernel_rfl) rfl (fun K hK => ?_)
            rw [if_pos (by rfl)]
            refine wp_store_row _ _ _ rfl XA #[.slice A1 o.length c1] rfl rfl 27 _ (unhide HTa) infoCu rfl (by simp [Value.oneCell']) ?_
            refine hK _ _ ⟨unhide HS2, ?_⟩
            clear hK K
            refine wpAnyH_one (i := 3) (by kernel_rfl) rfl (fun K hK => ?_)
            rw [if_pos (by rfl)]
            refine wp_store_row _ _ _ rfl XB #[.slice B2 o.length c2] rfl rfl 27 _ (unhide HT1) infoCu rfl (by simp [Value.oneCell']) ?_
            refine hK _ _ ⟨unhide HS3, ?_⟩
            clear hK K
            refine wpAnyH_done (by kernel_rfl) ?_ _
            go_simp
            have HF := hide (unhide HF)
            generalize ((wg.drew).setRow XA #[.slice A1 o.length c1]).setRow XB #[.slice B2 o.length c2] = wf at HF ⊢
            go_wp2_with fail
            refine wp_region_held (S := fun Z => Z.heap[XA]? = some (cusO A1 o.length c1) ∧ Z.heap[XB]? = some (cusO B2 o.length c2)) (by kernel_rfl) ?_
            have HFd := hide ((unhide HF).below (Below.refl wf.heap.size wf).drew)
            have HSf := hide (show wf.drew.heap[XA]? = some (cusO A1 o.length c1) ∧ wf.drew.heap[XB]? = some (cusO B2 o.length c2) from ⟨(unhide HFd).ba, (unhide HFd).bb⟩)
            clear HF
            refine wpAnyH_take (i := 0) (v := cusV A1 o.length c1) rfl (by kernel_rfl) (by kernel_rfl) (by kernel_rfl) (fun _ _ _ h => h) (yields_loadCu _ rfl rfl rfl (fun _ h => h.1)) HSf.out ?_
            refine wpAnyH_take (i := 2) (v := cusV B2 o.length c2) rfl (by kernel_rfl) (by kernel_rfl) (by kernel_rfl) (fun _ _ _ h => h) (yields_loadCu _ rfl rfl rfl (fun _ h => h.2)) HSf.out ?_
            go_simp
            refine wpAnyH_one (i := 1) (by kernel_rfl) rfl (fun K hK => ?_)
            go_simp
            go_at_call 17
            refine ((unhide HP).cleared 0 o A1 c1 _ (unhide HFd).val ((unhide HFd).ck 0 (Nat.zero_le _)) (unhide HFd).cap).mono ?_
            rintro e wh ⟨Ah, ch, rfl, hnh, hbh⟩
            try go_simp
            have HFh := hide ((unhide HFd).below hbh)
            have HNh := hide (hnh 0 (.inl (by have := (unhide HFd).sz; omega)))
            refine hK _ _ ⟨⟨(unhide HFh).ba, (unhide HFh).bb⟩, ?_⟩
            clear hK K hnh hbh
            refine wpAnyH_one (i := 3) (by kernel_rfl) rfl (fun K hK => ?_)
            go_simp
            go_at_call 18
            refine (rqcleared_any 0 o B2 c2 _ (unhide HFh).val (sesO_in (unhide HFh).own (.inl (Nat.succ_pos _)))).mono ?_
            rintro e wj ⟨Aj, cj, rfl, hnj, hbj⟩
            try go_simp
            have HFj := hide ((unhide HFh).below hbj)
            have HNj := hide (hnj 0 (.inl (by have := (unhide HFh).sz; omega)))
            have HNi := hide ((unhide HNh).keep hbj)
            refine hK _ _ ⟨⟨(unhide HFj).ba, (unhide HFj).bb⟩, ?_⟩
            clear hK K hnj hbj
            have HKi := hide (kints_any 0 (o.map Se.bag) (o.map Se.bag) Ah Aj ch cj wj (by have := (unhide HFj).val.len; rw [List.length_map]; omega) (unhide HNi) (unhide HNj))
            rw [List.length_map, decide_eq_true rfl] at HKi
            have HKi := hide (unhide HKi)
            refine wpAnyH_one (i := 4) (by kernel_rfl) rfl (fun K hK => ?_)
            go_simp
            go_at_call 16
            refine (unhide HKi).mono ?_
            rintro e wk ⟨rfl, hbk⟩
            try go_simp
            have HFk := hide ((unhide HFj).below hbk)
            refine hK _ _ ⟨⟨(unhide HFk).ba, (unhide HFk).bb⟩, ?_⟩
            clear hK K hbk
            refine wpAnyH_one (i := 5) (by kernel_rfl) rfl (fun K hK => ?_)
            go_simp
            refine hK _ _ ⟨⟨(unhide HFk).ba, (unhide HFk).bb⟩, ?_⟩
            clear hK K
            refine wpAnyH_done (by kernel_rfl) ?_ _
            go_simp
            go_wp2
            go_roundw
            case rel => exact ⟨i + 1, o, A1, B2, c1, c2, by omega, by first | rfl | go_num, HFk⟩
            case measure => simp [intOf] <;> omega
          · have q0 : (er == 0) = false := by rw [beq_eq_false_iff_ne]; exact he
            have HF := hide (unhide HQg).st
            clear he HQg HQr
            go_wp2_with fail
            refine wp_region_held (S := fun Z => Z.heap[XA]? = some (cusO A l.length c) ∧ Z.heap[XB]? = some (cusO B l.length c')) (by kernel_rfl) ?_
            have HFd := hide ((unhide HF).below (Below.refl wg.heap.size wg).drew)
            have HSf := hide (show wg.drew.heap[XA]? = some (cusO A l.length c) ∧ wg.drew.heap[XB]? = some (cusO B l.length c') from ⟨(unhide HFd).ba, (unhide HFd).bb⟩)
            clear HF
            refine wpAnyH_take (i := 0) (v := cusV A l.length c) rfl (by kernel_rfl) (by kernel_rfl) (by kernel_rfl) (fun _ _ _ h => h) (yields_loadCu _ rfl rfl rfl (fun _ h => h.1)) HSf.out ?_
            refine wpAnyH_take (i := 2) (v := cusV B l.length c') rfl (by kernel_rfl) (by kernel_rfl) (by kernel_rfl) (fun _ _ _ h => h) (yields_loadCu _ rfl rfl rfl (fun _ h => h.2)) HSf.out ?_
            go_simp
            refine wpAnyH_one (i := 1) (by kernel_rfl) rfl (fun K hK => ?_)
            go_simp
            go_at_call 17
            refine ((unhide HP).cleared 0 l A c _ (unhide HFd).val ((unhide HFd).ck 0 (Nat.zero_le _)) (unhide HFd).cap).mono ?_
            rintro e wh ⟨Ah, ch, rfl, hnh, hbh⟩
            try go_simp
            have HFh := hide ((unhide HFd).below hbh)
            have HNh := hide (hnh 0 (.inl (by have := (unhide HFd).sz; omega)))
            refine hK _ _ ⟨⟨(unhide HFh).ba, (unhide HFh).bb⟩, ?_⟩
            clear hK K hnh hbh
            refine wpAnyH_one (i := 3) (by kernel_rfl) rfl (fun K hK => ?_)
            go_simp
            go_at_call 18
            refine (rqcleared_any 0 l B c' _ (unhide HFh).val (sesO_in (unhide HFh).own (.inl (Nat.succ_pos _)))).mono ?_
            rintro e wj ⟨Aj, cj, rfl, hnj, hbj⟩
            try go_simp
            have HFj := hide ((unhide HFh).below hbj)
            have HNj := hide (hnj 0 (.inl (by have := (unhide HFh).sz; omega)))
            have HNi := hide ((unhide HNh).keep hbj)
            refine hK _ _ ⟨⟨(unhide HFj).ba, (unhide HFj).bb⟩, ?_⟩
            clear hK K hnj hbj
            have HKi := hide (kints_any 0 (l.map Se.bag) (l.map Se.bag) Ah Aj ch cj wj (by have := (unhide HFj).val.len; rw [List.length_map]; omega) (unhide HNi) (unhide HNj))
            rw [List.length_map, decide_eq_true rfl] at HKi
            have HKi := hide (unhide HKi)
            refine wpAnyH_one (i := 4) (by kernel_rfl) rfl (fun K hK => ?_)
            go_simp
            go_at_call 16
            refine (unhide HKi).mono ?_
            rintro e wk ⟨rfl, hbk⟩
            try go_simp
            have HFk := hide ((unhide HFj).below hbk)
            refine hK _ _ ⟨⟨(unhide HFk).ba, (unhide HFk).bb⟩, ?_⟩
            clear hK K hbk
            refine wpAnyH_one (i := 5) (by kernel_rfl) rfl (fun K hK => ?_)
            go_simp
            refine hK _ _ ⟨⟨(unhide HFk).ba, (unhide HFk).bb⟩, ?_⟩
            clear hK K
            refine wpAnyH_done (by kernel_rfl) ?_ _
            go_simp
            go_wp2
            go_roundw
            case rel => exact ⟨i + 1, l, A, B, c, c', by omega, by first | rfl | go_num, HFk⟩
            case measure => simp [intOf] <;> omega
        · go_wp2_with (refine wpList_loadCu (unhide HQn).st.ba rfl _ rfl rfl ?_)
          refine ((unhide HP).revoke 0 l x A c _ (unhide HQn).st.val ((unhide HQn).st.ck 0 (Nat.zero_le _)) (unhide HQn).st.cap).mono ?_
          rintro e wp ⟨A1, c1, rfl, hC, hb, hcap⟩
          have HQp := hide ((unhide HQn).put1 hb hC hcap)
          have HZp := hide (heap_below (unhide HQn).b1 hb)
          have HV := hide (show revE l x = 0 → ValQ (revL l x) from fun h => rev_val (unhide HQn).st.val h)
          have HLn := hide (rev_len (bag := x) (unhide HQn).st.val)
          have HRc := hide (fun W (hq : SesO (XB + 1) W B c' l) => rqrevoke_any (XB + 1) l x B c' W (unhide HQn).st.val hq)
          clear hC hb hcap HQn
          obtain ⟨o, ho⟩ : ∃ o, revL l x = o := ⟨_, rfl⟩
          obtain ⟨er, her⟩ : ∃ er, revE l x = er := ⟨_, rfl⟩
          rw [ho] at HQp HLn
          rw [ho, her] at HV HRc ⊢
          clear ho her
          go_upto_region 15 with (refine wpList_storeCu (A := A1) (n := o.length) (c := c1) (unhide HZp) rfl _ _ rfl rfl rfl ?_)
          generalize wp.setRow G1 #[.slice A1 o.length c1] = wp2 at HQp ⊢
          clear HZp
          go_wp2_with (refine wpList_loadCu (unhide HQp).st.bb rfl _ rfl rfl ?_)
          refine (unhide HRc _ (unhide HQp).st.own).mono ?_
          rintro e wr2 ⟨B2, c2, rfl, hO, hb⟩
          have HQr := hide ((unhide HQp).put2 hb hO)
          have HZr := hide (heap_below (unhide HQp).b2 hb)
          clear hO hb HQp HRc
          go_upto_region 16 with (refine wpList_storeCu (A := B2) (n := o.length) (c := c2) (unhide HZr) rfl _ _ rfl rfl rfl ?_)
          generalize wr2.setRow G2 #[.slice B2 o.length c2] = wq at HQr ⊢
          clear HZr
          have qe : (er != er) = false := by simp
          have HLo := hide (show er = 0 → o.length ≤ 40 from fun h => ((unhide HV) h).len)
          have HSm := hide (rqsame_any 0 o o A1 B2 c1 c2 wq (unhide HLn) ((unhide HQr).k1 0 (Nat.zero_le _)) (sesO_in (unhide HQr).own2 (.inl (Nat.succ_pos _))))
          rw [decide_eq_true rfl] at HSm
          have HSm := hide (unhide HSm)
          go_upto_region 18 with (first
            | (refine wpList_loadCu_w (unhide HQr).b1 _ rfl rfl rfl ?_)
            | (refine wpList_loadCu_w (unhide HQr).b2 _ rfl rfl rfl ?_)
            | (go_at_call 15; refine (unhide HSm).mono ?_; rintro e wg ⟨rfl, hbg⟩; have HQg := hide ((unhide HQr).below hbg); clear hbg))
          by_cases he : er = 0
          · have HV1 := hide ((unhide HV) he)
            subst he
            go_upto_region 19 with fail
            have HT := hide ((unhide HQg).below (Below.refl wg.heap.size wg).drew)
            refine wp_region_held (S := fun Z => Z.heap[G1]? = some (cusO A1 o.length c1) ∧ Z.heap[G2]? = some (cusO B2 o.length c2)) (by kernel_rfl) ?_
            have HSs := hide (show wg.drew.heap[G1]? = some (cusO A1 o.length c1) ∧ wg.drew.heap[G2]? = some (cusO B2 o.length c2) from ⟨(unhide HT).b1, (unhide HT).b2⟩)
            refine wpAnyH_take (i := 0) (v := cusV A1 o.length c1) rfl (by kernel_rfl) (by kernel_rfl) (by kernel_rfl) (fun _ _ _ h => h) (yields_loadCu _ rfl rfl rfl (fun _ h => h.1)) HSs.out ?_
            refine wpAnyH_take (i := 1) (v := cusV B2 o.length c2) rfl (by kernel_rfl) (by kernel_rfl) (by kernel_rfl) (fun _ _ _ h => h) (yields_loadCu _ rfl rfl rfl (fun _ h => h.2)) HSs.out ?_
            go_simp
            obtain ⟨ht1, ht2⟩ := (unhide HT).take (unhide HV1)
            have HT1 := hide ht1
            have HF := hide ht2
            have HTa := hide (unhide HT).st.ba
            have hla := (unhide HT).st.lb
            have hl1 := (unhide HT).l1
            have hl2 := (unhide HT).l2
            have HS2 := hide (show (wg.drew.setRow XA #[.slice A1 o.length c1]).heap[G1]? = some (cusO A1 o.length c1) ∧ (wg.drew.setRow XA #[.slice A1 o.length c1]).heap[G2]? = some (cusO B2 o.length c2) from
              ⟨by rw [setRow_other _ _ _ _ (by omega)]; exact (unhide HT).b1, by rw [setRow_other _ _ _ _ (by omega)]; exact (unhide HT).b2⟩)
            have HS3 := hide (show ((wg.drew.setRow XA #[.slice A1 o.length c1]).setRow XB #[.slice B2 o.length c2]).heap[G1]? = some (cusO A1 o.length c1) ∧ ((wg.drew.setRow XA #[.slice A1 o.length c1]).setRow XB #[.slice B2 o.length c2]).heap[G2]? = some (cusO B2 o.length c2) from
              ⟨by rw [setRow_other _ _ _ _ (by omega)]; exact (unhide HS2).1, by rw [setRow_other _ _ _ _ (by omega)]; exact (unhide HS2).2⟩)
            clear ht1 ht2 HQg HQr HT HSs hla hl1 hl2
            refine wpAnyH_one (i := 2) (by kernel_rfl) rfl (fun K hK => ?_)
            rw [if_pos (by rfl)]
            refine wp_store_row _ _ _ rfl XA #[.slice A1 o.length c1] rfl rfl 27 _ (unhide HTa) infoCu rfl (by simp [Value.oneCell']) ?_
            refine hK _ _ ⟨unhide HS2, ?_⟩
            clear hK K
            refine wpAnyH_one (i := 3) (by kernel_rfl) rfl (fun K hK => ?_)
            rw [if_pos (by rfl)]
            refine wp_store_row _ _ _ rfl XB #[.slice B2 o.length c2] rfl rfl 27 _ (unhide HT1) infoCu rfl (by simp [Value.oneCell']) ?_
            refine hK _ _ ⟨unhide HS3, ?_⟩
            clear hK K
            refine wpAnyH_done (by kernel_rfl) ?_ _
            go_simp
            have HF := hide (unhide HF)
            generalize ((wg.drew).setRow XA #[.slice A1 o.length c1]).setRow XB #[.slice B2 o.length c2] = wf at HF ⊢
            go_wp2_with fail
            refine wp_region_held (S := fun Z => Z.heap[XA]? = some (cusO A1 o.length c1) ∧ Z.heap[XB]? = some (cusO B2 o.length c2)) (by kernel_rfl) ?_
            have HFd := hide ((unhide HF).below (Below.refl wf.heap.size wf).drew)
            have HSf := hide (show wf.drew.heap[XA]? = some (cusO A1 o.length c1) ∧ wf.drew.heap[XB]? = some (cusO B2 o.length c2) from ⟨(unhide HFd).ba, (unhide HFd).bb⟩)
            clear HF
            refine wpAnyH_take (i := 0) (v := cusV A1 o.length c1) rfl (by kernel_rfl) (by kernel_rfl) (by kernel_rfl) (fun _ _ _ h => h) (yields_loadCu _ rfl rfl rfl (fun _ h => h.1)) HSf.out ?_
            refine wpAnyH_take (i := 2) (v := cusV B2 o.length c2) rfl (by kernel_rfl) (by kernel_rfl) (by kernel_rfl) (fun _ _ _ h => h) (yields_loadCu _ rfl rfl rfl (fun _ h => h.2)) HSf.out ?_
            go_simp
            refine wpAnyH_one (i := 1) (by kernel_rfl) rfl (fun K hK => ?_)
            go_simp
            go_at_call 17
            refine ((unhide HP).cleared 0 o A1 c1 _ (unhide HFd).val ((unhide HFd).ck 0 (Nat.zero_le _)) (unhide HFd).cap).mono ?_
            rintro e wh ⟨Ah, ch, rfl, hnh, hbh⟩
            try go_simp
            have HFh := hide ((unhide HFd).below hbh)
            have HNh := hide (hnh 0 (.inl (by have := (unhide HFd).sz; omega)))
            refine hK _ _ ⟨⟨(unhide HFh).ba, (unhide HFh).bb⟩, ?_⟩
            clear hK K hnh hbh
            refine wpAnyH_one (i := 3) (by kernel_rfl) rfl (fun K hK => ?_)
            go_simp
            go_at_call 18
            refine (rqcleared_any 0 o B2 c2 _ (unhide HFh).val (sesO_in (unhide HFh).own (.inl (Nat.succ_pos _)))).mono ?_
            rintro e wj ⟨Aj, cj, rfl, hnj, hbj⟩
            try go_simp
            have HFj := hide ((unhide HFh).below hbj)
            have HNj := hide (hnj 0 (.inl (by have := (unhide HFh).sz; omega)))
            have HNi := hide ((unhide HNh).keep hbj)
            refine hK _ _ ⟨⟨(unhide HFj).ba, (unhide HFj).bb⟩, ?_⟩
            clear hK K hnj hbj
            have HKi := hide (kints_any 0 (o.map Se.bag) (o.map Se.bag) Ah Aj ch cj wj (by have := (unhide HFj).val.len; rw [List.length_map]; omega) (unhide HNi) (unhide HNj))
            rw [List.length_map, decide_eq_true rfl] at HKi
            have HKi := hide (unhide HKi)
            refine wpAnyH_one (i := 4) (by kernel_rfl) rfl (fun K hK => ?_)
            go_simp
            go_at_call 16
            refine (unhide HKi).mono ?_
            rintro e wk ⟨rfl, hbk⟩
            try go_simp
            have HFk := hide ((unhide HFj).below hbk)
            refine hK _ _ ⟨⟨(unhide HFk).ba, (unhide HFk).bb⟩, ?_⟩
            clear hK K hbk
            refine wpAnyH_one (i := 5) (by kernel_rfl) rfl (fun K hK => ?_)
            go_simp
            refine hK _ _ ⟨⟨(unhide HFk).ba, (unhide HFk).bb⟩, ?_⟩
            clear hK K
            refine wpAnyH_done (by kernel_rfl) ?_ _
            go_simp
            go_wp2
            go_roundw
            case rel => exact ⟨i + 1, o, A1, B2, c1, c2, by omega, by first | rfl | go_num, HFk⟩
            case measure => simp [intOf] <;> omega
          · have q0 : (er == 0) = false := by rw [beq_eq_false_iff_ne]; exact he
            have HF := hide (unhide HQg).st
            clear he HQg HQr
            go_wp2_with fail
            refine wp_region_held (S := fun Z => Z.heap[XA]? = some (cusO A l.length c) ∧ Z.heap[XB]? = some (cusO B l.length c')) (by kernel_rfl) ?_
            have HFd := hide ((unhide HF).below (Below.refl wg.heap.size wg).drew)
            have HSf := hide (show wg.drew.heap[XA]? = some (cusO A l.length c) ∧ wg.drew.heap[XB]? = some (cusO B l.length c') from ⟨(unhide HFd).ba, (unhide HFd).bb⟩)
            clear HF
            refine wpAnyH_take (i := 0) (v := cusV A l.length c) rfl (by kernel_rfl) (by kernel_rfl) (by kernel_rfl) (fun _ _ _ h => h) (yields_loadCu _ rfl rfl rfl (fun _ h => h.1)) HSf.out ?_
            refine wpAnyH_take (i := 2) (v := cusV B l.length c') rfl (by kernel_rfl) (by kernel_rfl) (by kernel_rfl) (fun _ _ _ h => h) (yields_loadCu _ rfl rfl rfl (fun _ h => h.2)) HSf.out ?_
            go_simp
            refine wpAnyH_one (i := 1) (by kernel_rfl) rfl (fun K hK => ?_)
            go_simp
            go_at_call 17
            refine ((unhide HP).cleared 0 l A c _ (unhide HFd).val ((unhide HFd).ck 0 (Nat.zero_le _)) (unhide HFd).cap).mono ?_
            rintro e wh ⟨Ah, ch, rfl, hnh, hbh⟩
            try go_simp
            have HFh := hide ((unhide HFd).below hbh)
            have HNh := hide (hnh 0 (.inl (by have := (unhide HFd).sz; omega)))
            refine hK _ _ ⟨⟨(unhide HFh).ba, (unhide HFh).bb⟩, ?_⟩
            clear hK K hnh hbh
            refine wpAnyH_one (i := 3) (by kernel_rfl) rfl (fun K hK => ?_)
            go_simp
            go_at_call 18
            refine (rqcleared_any 0 l B c' _ (unhide HFh).val (sesO_in (unhide HFh).own (.inl (Nat.succ_pos _)))).mono ?_
            rintro e wj ⟨Aj, cj, rfl, hnj, hbj⟩
            try go_simp
            have HFj := hide ((unhide HFh).below hbj)
            have HNj := hide (hnj 0 (.inl (by have := (unhide HFh).sz; omega)))
            have HNi := hide ((unhide HNh).keep hbj)
            refine hK _ _ ⟨⟨(unhide HFj).ba, (unhide HFj).bb⟩, ?_⟩
            clear hK K hnj hbj
            have HKi := hide (kints_any 0 (l.map Se.bag) (l.map Se.bag) Ah Aj ch cj wj (by have := (unhide HFj).val.len; rw [List.length_map]; omega) (unhide HNi) (unhide HNj))
            rw [List.length_map, decide_eq_true rfl] at HKi
            have HKi := hide (unhide HKi)
            refine wpAnyH_one (i := 4) (by kernel_rfl) rfl (fun K hK => ?_)
            go_simp
            go_at_call 16
            refine (unhide HKi).mono ?_
            rintro e wk ⟨rfl, hbk⟩
            try go_simp
            have HFk := hide ((unhide HFj).below hbk)
            refine hK _ _ ⟨⟨(unhide HFk).ba, (unhide HFk).bb⟩, ?_⟩
            clear hK K hbk
            refine wpAnyH_one (i := 5) (by kernel_rfl) rfl (fun K hK => ?_)
            go_simp
            refine hK _ _ ⟨⟨(unhide HFk).ba, (unhide HFk).bb⟩, ?_⟩
            clear hK K
            refine wpAnyH_done (by kernel_rfl) ?_ _
            go_simp
            go_wp2
            go_roundw
            case rel => exact ⟨i + 1, l, A, B, c, c', by omega, by first | rfl | go_num, HFk⟩
            case measure => simp [intOf] <;> omega
    · have il : ¬ (i : Int) < 20 := by omega
      go_wp2_with (go_at_call 19; refine (awake_cus (unhide HP) _).mono ?_; rintro e wz ⟨rfl, hbz⟩; have HBZ := hide (onward (unhide HO).bel hbz); clear hbz)
      go_ret
      exact ⟨rfl, unhide HBZ⟩
end Go.Proofs.Ytbjpcajhceapkaa
