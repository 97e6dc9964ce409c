/-
  Screening (layer 15): ScreenImages: its walk.
-/
import Derived.Test.YtdhkhkcijffbiaaScrF
import Derived.Deep.CutRange
import Derived.Deep.CutBlock
import Derived.Deep.WholeRow
import Derived.Laws.StructEq
namespace Go.Proofs.Ytdhkhkcijffbiaa
open Go.RowKit

theorem RowIn.cellset {α : Type} {f : α → List Value} {b O i : Nat} {v : Value} {w : World} {A : Option Addr} {xs : List α} (h : RowIn f b w A xs) (h' : RowIn f O w A xs) : RowIn f b (w.setCell ⟨O, i, none⟩ v) A xs := fun hn => by
  obtain ⟨g, off, hA, hgb, hc⟩ := h hn
  have hq := h'.ne hn hA
  exact ⟨g, off, hA, hgb, fun j u hu => (Lib.grownBy_setB (World.grownBy.refl w (some O)) i v).cell (hc j u hu) (by simp; omega)⟩
/-- The reader R, the screening's box X, the owners' block O. -/
structure OvI (w0 : World) (R X O : Nat) (s : Scr) (A : Option Addr) (c : Nat) (W : World) : Prop extends OvS w0 R X s A c W where
  ckO : CksIn O W A s.l
/-- Behind a call: what it gave lies in box Gn; block O is as it was. -/
structure OvM (w0 : World) (R X O : Nat) (ob : Obj) (Gn : Nat) (s : Scr) (A : Option Addr) (c : Nat) (o : Scr) (A' : Option Addr) (c' : Nat) (W : World) : Prop where
  st : OvI w0 R X O s A c W
  old : W.heap[O]? = some ob
  box : W.heap[Gn]? = some (scrO o A' c')
  nR : CksIn R W A' o.l
  nX : CksIn X W A' o.l
  nO : CksIn O W A' o.l
  cap : o.l.length ≤ c'
section
variable {w0 W W' : World} {R X O : Nat} {ob : Obj} {s o s' : Scr} {A A' : Option Addr} {c c' : Nat}
theorem heap_reads {k : Nat} {ob : Obj} (h : W.heap[k]? = some ob) (hg : W.grownBy W' (some R)) (hk : k ≠ R) : W'.heap[k]? = some ob :=
  (hg.block _ (Array.getElem?_eq_some_iff.1 h).1 (fun e => hk (by injection e))).trans h
theorem OvI.reads (h : OvI w0 R X O s A c W) (hs : Src R R W') (hg : W.grownBy W' (some R)) : OvI w0 R X O s A c W' := ⟨h.toOvS.reads hs hg, h.ckO.grown2 h.ckR hg⟩
theorem OvI.below (h : OvI w0 R X O s A c W) (hb : Below W.heap.size W W') : OvI w0 R X O s A c W' := ⟨h.toOvS.below hb, h.ckO.keep hb⟩
theorem OvI.put (h : OvI w0 R X O s A c W) (h1 : CksIn R W A' s'.l) (h2 : CksIn X W A' s'.l) (h3 : CksIn O W A' s'.l) (hc : s'.l.length ≤ c') (hv : ValS s') : OvI w0 R X O s' A' c' (W.setRow X (scrA s' A' c')) := ⟨h.toOvS.put h1 h2 hc hv, h3.row2 h2 _⟩
/-- A cell of the owners' block is written. -/
theorem OvI.own (h : OvI w0 R X O s A c W) (hX : X < O) (i : Nat) (v : Value) : OvI w0 R X O s A c (W.setCell ⟨O, i, none⟩ v) := by
  have hl := h.lt
  have ho := h.lo
  exact ⟨⟨h.src.grown (row := some O) (grown_set W O i v) (fun k hk => by injection hk with hk; omega), heap_setOther h.box (by omega) v, h.ckR.cellset h.ckO, h.ckX.cellset h.ckO, h.cap, h.bel.setCell (p := ⟨O, i, none⟩) (by simp only []; omega) v, ho, hl, h.val⟩, h.ckO.cellset h.ckO⟩
/-- The result's box comes behind the call. -/
theorem OvM.late (h : OvI w0 R X O s A c W) (hG : W.heap[O]? = some ob) (hb : Below W.heap.size W W') (hC : ∀ b, b < W.heap.size → CksIn b W' A' o.l) (hc : o.l.length ≤ c') : OvM w0 R X O ob W'.heap.size s A c o A' c' (W'.alloc (scrO o A' c')) :=
  have b1 := (Below.refl W'.heap.size W').alloc (Nat.le_refl _) (scrO o A' c')
  ⟨(h.below hb).below b1, heap_below (heap_below hG hb) b1, heap_alloc_new W' _, (hC R h.toOvS.szR).keep b1, (hC X h.toOvS.szX).keep b1, (hC O (Array.getElem?_eq_some_iff.1 hG).1).keep b1, hc⟩
/-- The result's box came before the call. -/
theorem OvM.early {Gn : Nat} {old : Array Value} (h : OvI w0 R X O s A c W) (hG : W.heap[O]? = some ob) (hN : W.heap[Gn]? = some (.cells old 28 (0, 0))) (hX : X < Gn) (hGn : O < Gn) (hA : CksIn Gn W A s.l) (hb : Below W.heap.size W W') (hC : ∀ b, b < W.heap.size → CksIn b W' A' o.l) (hc : o.l.length ≤ c') : OvM w0 R X O ob Gn s A c o A' c' (W'.setRow Gn (scrA o A' c')) :=
  have hn := (Array.getElem?_eq_some_iff.1 hN).1
  have h1 := h.below hb
  have hr := h.lt
  have key : ∀ {b : Nat} {A2 : Option Addr} {l : List Ck}, CksIn b W' A2 l → CksIn Gn W' A2 l → CksIn b (W'.setRow Gn (scrA o A' c')) A2 l := fun k1 k2 => RowIn.row2 k1 k2 _
  ⟨⟨⟨h1.src.grown (row := some Gn) (grown_row W' Gn _) (fun k hk => by injection hk with hk; omega), by rw [setRow_other _ _ _ _ (by omega)]; exact h1.box, key h1.ckR (hA.keep hb), key h1.ckX (hA.keep hb), h1.cap, below_row h1.bel (by have := h.lo; omega) _, h1.lo, h1.lt, h1.val⟩, key h1.ckO (hA.keep hb)⟩,
    by rw [setRow_other _ _ _ _ (by omega)]; exact heap_below hG hb, setRow_heap W' Gn _ _ _ _ (heap_below hN hb), key (hC R h.toOvS.szR) (hC Gn hn), key (hC X h.toOvS.szX) (hC Gn hn), key (hC O (Array.getElem?_eq_some_iff.1 hG).1) (hC Gn hn), hc⟩
end
/-- The owners that were written down. -/
def CsO (cs : Array Value) (own : Nat → Int × Int) : Prop := cs.size = 160 ∧ ∀ i, i < 80 → cs[i * 2]? = some (.int .i64 (own i).1) ∧ cs[i * 2 + 1]? = some (.int .i64 (own i).2)
abbrev ownO (cs : Array Value) : Obj := .cells cs 55
theorem cso_zero : CsO Try.zeroCells55 (fun _ => (0, 0)) := by
  have e : Try.zeroCells55 = (Array.range 160).map fun _ => Value.int .i64 0 := by kernel_rfl
  rw [e]
  refine ⟨by simp, fun i hi => ⟨?_, ?_⟩⟩
  · rw [Array.getElem?_map, Array.getElem?_range, if_pos (by omega)]; rfl
  · rw [Array.getElem?_map, Array.getElem?_range, if_pos (by omega)]; rfl
theorem CsO.put {cs : Array Value} {own : Nat → Int × Int} (h : CsO cs own) {k : Nat} (hk : k < 80) (p : Int × Int) : CsO ((cs.setIfInBounds (k * 2) (.int .i64 p.1)).setIfInBounds (k * 2 + 1) (.int .i64 p.2)) (fun i => if i = k then p else own i) := by
  obtain ⟨h1, h2⟩ := h
  refine ⟨by simp [h1], fun i hi => ?_⟩
  obtain ⟨a, b⟩ := h2 i hi
  by_cases e : i = k
  · subst e
    refine ⟨?_, ?_⟩
    · rw [Array.getElem?_setIfInBounds_ne (by omega), Array.getElem?_setIfInBounds_self_of_lt (by omega)]; simp
    · rw [Array.getElem?_setIfInBounds_self_of_lt (by simp; omega)]; simp
  · rw [Array.getElem?_setIfInBounds_ne (by omega), Array.getElem?_setIfInBounds_ne (by omega), Array.getElem?_setIfInBounds_ne (by omega), Array.getElem?_setIfInBounds_ne (by omega)]
    simp only [if_neg e]
    exact ⟨a, b⟩

theorem eq2 (a b c d : Int) (w : World) : (Op.equalIn 10000 54 (.agg #[.int .i64 a, .int .i64 b]) (.agg #[.int .i64 c, .int .i64 d])).run Try.prog w = .ok (a == c && b == d) w := by
  have u3 := Try.underlying3
  have a3 := Try.isAgg3
  have z3 := Try.sizeOf3
  rw [show (10000 : Nat) = 9999 + 1 from rfl, Op.equalIn]
  simp only [Sem.run_bind, run_underlying Try.underlying54, Result.andThen_ok]
  simp only [Std.Legacy.Range.forIn_eq_forIn_range', Std.Legacy.Range.size, Nat.sub_zero, Nat.add_sub_cancel, Nat.div_one, List.range'_succ, List.range'_zero, List.forIn_cons, List.forIn_nil]
  go_simp
  by_cases h1 : a = c <;> by_cases h2 : b = d <;> simp [h1, h2]
theorem neq2 (a b c d : Int) (w : World) : (binOp .neq 54 (.agg #[.int .i64 a, .int .i64 b]) (.agg #[.int .i64 c, .int .i64 d])).run Try.prog w = .ok (.bool (!(a == c && b == d))) w := by
  rw [run_neq_struct, eq2]; rfl
section
variable {ops : Array Oper} {rest : List Oper} {o : Oper} {a : Act} {W : World} {Q : Exit → Act → World → Prop}
set_option maxRecDepth 100000 in
theorem wpList_storeCn {t : TypeId} {old : Array Value} {g : Nat} (hz : W.heap.size = g) (s : Ck) (hgd : o.guard = none) (x y : Operand) (ho : o.op = .store 42 x y)
    (hx : a.eval x = .pointer (some ⟨g, 0, none⟩)) (hy : a.eval y = s.v) (hold : old.size = 5)
    (h : wpList Try.prog ops Q rest (a.put o.dst undef) (W.alloc (.cells s.arr t))) : wpList Try.prog ops Q (o :: rest) a (W.alloc (.cells old t)) := by
  subst hz
  exact wpList_store_row hgd _ x y ho W.heap.size s.arr hx hy t old (heap_alloc_new W _) infoC hold (ck_all s) (by rw [World.setRow_alloc_new]; exact h)
end

set_option maxHeartbeats 8000000 in
set_option maxRecDepth 100000 in
theorem images_any (P : ScrOk) (A0 : Option Addr) (n0 c0 : Nat) (w : World) (hc : n0 ≤ c0) (hA : IntsIn w.heap.size w A0 n0) :
    Calls Try.prog 6 #[.slice A0 n0 c0] w fun e w' => e = .returned (.bool true) ∧ Below w.heap.size w w' := by
  have HP := hide P
  have HNew := hide (new_any A0 n0 c0 w hc hA)
  clear P hA
  go_enter Try.func6, Try.ntmps6
  go_wp2_with fail
  refine (unhide HNew).mono ?_
  rintro e w1 ⟨rfl, hs1, hb1⟩
  have HS1 := hide hs1
  have HB1 := hide hb1
  clear hs1 hb1 HNew
  go_wp2_with fail
  refine ((unhide HP).new 1 1 1 1 _).mono ?_
  rintro e w6 ⟨A1, k1, rfl, hb6⟩
  rw [show newE 1 1 1 1 = 0 from rfl]
  obtain ⟨s1, hs1⟩ : ∃ s1 : Scr, newS 1 1 1 1 = s1 := ⟨_, rfl⟩
  have hv1 : ValS s1 := by rw [← hs1]; exact newS_valid rfl
  have hl1 : s1.l = [] := by rw [← hs1]; rfl
  have hn1 : s1.next = 1 := by rw [← hs1]; rfl
  rw [hs1]
  have b7 := (Below.refl w6.heap.size w6).alloc (Nat.le_refl _) (scrO s1 A1 k1)
  have HO0 := hide (show OvS w w.heap.size w6.heap.size s1 A1 k1 (w6.alloc (scrO s1 A1 k1)) from
    ⟨((unhide HS1).keep hb6).keep b7, heap_alloc_new w6 _, by rw [hl1]; exact RowIn.nil, by rw [hl1]; exact RowIn.nil, by rw [hl1]; exact Nat.zero_le _, onward (onward (unhide HB1) hb6) b7, Nat.le_refl _, by have := ((unhide HS1).keep hb6).lt; omega, hv1⟩)
  have HL0 := hide (show ∀ (q : Nat) (W : World), CksIn q W A1 s1.l from fun q W => by rw [hl1]; exact RowIn.nil)
  have HI0 := hide (show ImI s1 (fun _ => (0, 0)) from ⟨hv1, by rw [hl1]; exact List.nodup_nil, by rw [hl1, hn1]; rfl, by rw [hl1]; intro x hx; (cases hx), fun i hi => absurd rfl hi⟩)
  clear hb6 b7 HS1 HB1 hs1 hv1 hl1 hn1
  go_upto_region 6 with fail
  have hzs : w6.heap.size + 1 = (w6.alloc (scrO s1 A1 k1)).heap.size := (World.size_alloc _ _).symm
  have HO1 := hide (show OvI w w.heap.size w6.heap.size (w6.heap.size + 1) s1 A1 k1 _ from ⟨(unhide HO0).below ((Below.refl _ _).alloc (Nat.le_refl _) (ownO Try.zeroCells55)), unhide HL0 _ _⟩)
  have HW1 := hide (show ((w6.alloc (scrO s1 A1 k1)).alloc (ownO Try.zeroCells55)).heap[w6.heap.size + 1]? = some (ownO Try.zeroCells55) by rw [hzs]; exact heap_alloc_new _ _)
  have HC1 := hide cso_zero
  have HXO := hide (show w6.heap.size < w6.heap.size + 1 by omega)
  clear HO0 hzs HL0
  generalize hz : Try.zeroCells55 = cs0 at *
  clear hz
  generalize hO : w6.heap.size + 1 = O at *
  clear hO
  go_wp2_with fail
  go_loopw [7, 8] (fun nw iv wr => ∃ (i : Nat) (now : Int) (s : Scr) (A : Option Addr) (c : Nat) (cs : Array Value) (own : Nat → Int × Int), i ≤ 30 ∧ 0 ≤ now ∧ now ≤ 2 * (i : Int) ∧ nw = .int .i64 now ∧ iv = .int .i64 i ∧ Hid (OvI w w.heap.size w6.heap.size O s A c wr) ∧ Hid (wr.heap[O]? = some (ownO cs)) ∧ Hid (CsO cs own) ∧ Hid (ImI s own)) (fun _ iv _ => 30 - (intOf iv).toNat)
  case atStart => exact ⟨0, 0, s1, A1, k1, cs0, _, Nat.zero_le _, Int.le_refl _, by omega, rfl, rfl, HO1, HW1, HC1, HI0⟩
  case round =>
    obtain ⟨i, now, s, A, c, cs, own, hi, t0, t1, rfl, rfl, HO, HW, HCs, HI⟩ := hrel
    obtain ⟨wo, rfl⟩ : ∃ wo : World, wo = wr := ⟨_, rfl⟩
    clear HO1 HW1 HC1 HI0
    by_cases hlt : i < 30
    · have il : (i : Int) < 30 := by omega
      by_cases h4 : (i : Int) < 4
      case' pos =>
        go_upto_region 10 with fail
        obtain ⟨wm, hwm⟩ : ∃ wm : World, wm = wo := ⟨_, rfl⟩
        rw [← hwm] at HO HW ⊢
        have HOm := hide (unhide HO)
        have HWm := hide (unhide HW)
        clear hwm HO HW
      case' neg =>
        go_wp2_with fail
        refine (moreq_any _ _ _ (unhide HO).src).mono ?_
        rintro e wm ⟨v, rfl, hbm⟩
        have HOm := hide ((unhide HO).below hbm)
        have HWm := hide (heap_below (unhide HW) hbm)
        clear hbm HO HW
        cases v
        case' false =>
          go_wp2_with (go_at_call 29; refine (awake_scr (unhide HP) _).mono ?_; rintro e wz ⟨rfl, hbz⟩; have HBZ := hide (onward (unhide HOm).bel hbz); clear hbz)
          go_ret
          exact ⟨rfl, unhide HBZ⟩
        go_upto_region 10 with fail
      · go_wp2_with fail
        refine (n_any _ _ 3 _ (unhide HOm).src (by omega) (by omega)).mono ?_
        rintro e wn ⟨v, rfl, v0, v1, hs, hg⟩
        have HOn := hide ((unhide HOm).reads hs hg)
        have HWn := hide (heap_reads (unhide HWm) hg (by have := unhide HXO; have := (unhide HOm).lt; omega))
        clear hs hg HOm HWm
        go_wp2_with fail
        refine (n_any _ _ 3 _ (unhide HOn).src (by omega) (by omega)).mono ?_
        rintro e wq ⟨u, rfl, u0, u1, hs, hg⟩
        have HOq := hide ((unhide HOn).reads hs hg)
        have HGq := hide (heap_reads (unhide HWn) hg (by have := unhide HXO; have := (unhide HOn).lt; omega))
        clear hs hg HOn HWn
        obtain ⟨t, ht⟩ : ∃ t, now + v = t := ⟨_, rfl⟩
        rw [ht]
        have ht0 : 0 ≤ t := by omega
        have ht1 : t ≤ 2 * (i : Int) + 2 := by omega
        clear ht
        obtain ⟨ob, hob⟩ : ∃ ob, ownO cs = ob := ⟨_, rfl⟩
        rw [hob] at HGq
        have HGq := hide (unhide HGq)
        have HOB := hide hob
        clear hob
        go_upto_block 2 with fail
        go_cut [9, 10, 11, 12, 13, 14, 15] from 46 to 84 (fun s9 s10 s11 s12 s13 s14 s15 wx => ∃ (s' : Scr) (A' : Option Addr) (c' : Nat), Hid (OvI w w.heap.size w6.heap.size O s' A' c' wx) ∧ Hid (wx.heap[O]? = some ob) ∧ Hid (ImI s' own))
        case first =>
          by_cases hu0 : u = 0
          · subst hu0
            go_wp2_with fail
            refine wp_region_held (S := fun Z => Z.heap[w6.heap.size]? = some (scrO s A c)) (by kernel_rfl) ?_
            have HOd := hide ((unhide HOq).below (Below.refl wq.heap.size wq).drew)
            have HGd := hide (show wq.drew.heap[O]? = some ob from unhide HGq)
            refine wpAnyH_take (i := 0) (v := scrV s A c) rfl (by kernel_rfl) (by kernel_rfl) (by kernel_rfl) (fun _ _ _ h => h) (yields_loadS _ rfl rfl rfl (fun _ h => h)) (unhide HOd).box ?_
            refine wpAnyH_take (i := 1) (v := .pointer (some ⟨w.heap.size, 0, none⟩)) rfl (by kernel_rfl) (by kernel_rfl) (by kernel_rfl) (fun _ _ _ h => h) (Or.inl ⟨by rfl, by intro w _; go_simp⟩) ((unhide HOd).box) ?_
            refine wpAnyH_take (i := 3) (v := .int .i64 t) rfl (by kernel_rfl) (by kernel_rfl) (by kernel_rfl) (fun _ _ _ h => h) (Or.inl ⟨by rfl, by intro w _; go_simp⟩) ((unhide HOd).box) ?_
            refine (fun (Y : Int → Nat → Option Addr → Nat → World → Prop) (f : (∀ bag Gn A' c' W, ((1 ≤ bag ∧ bag ≤ 6) ∧ OvM w w.heap.size w6.heap.size O ob Gn s A c (startS s bag t) A' c' W) → Y bag Gn A' c' W) → _) (g : ∀ bag Gn A' c' W, ((1 ≤ bag ∧ bag ≤ 6) ∧ OvM w w.heap.size w6.heap.size O ob Gn s A c (startS s bag t) A' c' W) → Y bag Gn A' c' W) => f g) ?Ya1 ?ma1 ?ra1
            case ma1 =>
              intro hM
              go_simp
              refine wpAnyH_two (i := 2) (j := 8) (by kernel_rfl) rfl rfl (fun K hK => ?_) (fun K hK => ?_)
              case' refine_2 =>
                go_simp
                refine hK _ _ ⟨heap_later (unhide HOd).box _, ?_⟩
                clear hK K
                have bxa11 := (Below.refl wq.drew.heap.size wq.drew).alloc (Nat.le_refl _) (scrO scr0 none 0)
                have HOa11 := hide ((unhide HOd).below bxa11)
                have HGa11 := hide (heap_below (unhide HGd) bxa11)
                have HNa11 := hide (show (wq.drew.alloc (scrO scr0 none 0)).heap[wq.heap.size]? = some (scrO scr0 none 0) from heap_alloc_new wq.drew (scrO scr0 none 0))
                have HAa11 := hide (show CksIn wq.heap.size (wq.drew.alloc (scrO scr0 none 0)) A s.l from ((unhide HOd).ckR.other (n := 5) Ck.cs_len (by omega) (Nat.le_refl wq.drew.heap.size)).keep bxa11)
                clear bxa11
                refine wpAnyH_one (i := 2) (by kernel_rfl) rfl (fun K hK => ?_)
                go_simp
                go_at_call 14
                refine (range_any _ _ 1 6 _ (unhide HOa11).src (by omega) (by omega) (by omega)).mono ?_
                rintro e waa12 ⟨bag, rfl, bag0, bag1, hsa, hga⟩
                try go_simp
                have HOa12 := hide ((unhide HOa11).reads hsa hga)
                have HGa12 := hide (heap_reads (unhide HGa11) hga (by have := unhide HXO; have := (unhide HOq).lt; omega))
                have HNa12 := hide (heap_reads (unhide HNa11) hga (by have h : w.heap.size < wq.heap.size := (unhide HOq).toOvS.szR; omega))
                have HAa12 := hide ((unhide HAa11).grown2 (unhide HOa11).ckR hga)
                refine hK _ _ ⟨(unhide HOa12).box, ?_⟩
                clear hK K hsa hga
                refine wpAnyH_one (i := 4) (by kernel_rfl) rfl (fun K hK => ?_)
                go_simp
                go_at_call 15
                refine ((unhide HP).start w.heap.size s bag t A c _ (unhide HOa12).val (unhide HOa12).ckR (unhide HOa12).cap).mono ?_
                rintro e wba13 ⟨A', c', rfl, hC, hb, hcap⟩
                try go_simp
                have HOba13 := hide ((unhide HOa12).below hb)
                have HNba13 := hide (heap_below (unhide HNa12) hb)
                refine hK _ _ ⟨(unhide HOba13).box, ?_⟩
                clear hK K
                refine wpAnyH_take (i := 5) (v := .tuple #[scrV (startS s bag t) A' c', .int .i64 (startE s bag t)]) rfl (by kernel_rfl) (by kernel_rfl) (by kernel_rfl) (fun _ _ _ h => h) (Or.inl ⟨by rfl, by intro w _; go_simp⟩) ((unhide HOba13).box) ?_
                refine wpAnyH_take (i := 6) (v := scrV (startS s bag t) A' c') rfl (by kernel_rfl) (by kernel_rfl) (by kernel_rfl) (fun _ _ _ h => h) (Or.inl ⟨by rfl, by intro w _; go_simp⟩) ((unhide HOba13).box) ?_
                refine wpAnyH_take (i := 7) (v := .int .i64 (startE s bag t)) rfl (by kernel_rfl) (by kernel_rfl) (by kernel_rfl) (fun _ _ _ h => h) (Or.inl ⟨by rfl, by intro w _; go_simp⟩) ((unhide HOba13).box) ?_
                go_simp
                have HM0 := hide (OvM.early (Gn := wq.heap.size) (unhide HOa12) (unhide HGa12) (unhide HNa12) (by exact (unhide HOq).toOvS.szX) (by exact (Array.getElem?_eq_some_iff.1 (unhide HGq)).1) (unhide HAa12) hb hC hcap)
                refine wpAnyH_one (i := 9) (by kernel_rfl) rfl (fun K hK => ?_)
                rw [if_pos (by rfl)]
                refine wp_store_row _ _ _ rfl (wq.heap.size) (scrA (startS s bag t) A' c') rfl rfl 28 _ (unhide HNba13) infoS rfl (scr_all _ _ _) ?_
                refine hK _ _ ⟨(unhide HM0).st.box, ?_⟩
                clear hK K
                refine wpAnyH_take (i := 10) (v := .int .i64 (startE s bag t)) rfl (by kernel_rfl) (by kernel_rfl) (by kernel_rfl) (fun _ _ _ h => h) (Or.inl ⟨by rfl, by intro w _; go_simp⟩) ((unhide HM0).st.box) ?_
                refine wpAnyH_done (by kernel_rfl) ?_ _
                go_simp
                have HM1 := hide (show (1 ≤ bag ∧ bag ≤ 6) ∧ OvM w w.heap.size w6.heap.size O ob (wq.heap.size) s A c (startS s bag t) A' c' (wba13.setRow (wq.heap.size) (scrA (startS s bag t) A' c')) from ⟨⟨bag0, bag1⟩, unhide HM0⟩)
                clear HM0 HOba13 hb hC HNba13 HNa12 HAa12
                generalize wba13.setRow (wq.heap.size) (scrA (startS s bag t) A' c') = Wf at *
                generalize wq.heap.size = Gn at *
                exact hM bag Gn A' c' Wf (unhide HM1)
              case' refine_1 =>
                go_simp
                go_at_call 14
                refine (range_any _ _ 1 6 _ (unhide HOd).src (by omega) (by omega) (by omega)).mono ?_
                rintro e waa14 ⟨bag, rfl, bag0, bag1, hsa, hga⟩
                try go_simp
                have HOa14 := hide ((unhide HOd).reads hsa hga)
                have HGa14 := hide (heap_reads (unhide HGd) hga (by have := unhide HXO; have := (unhide HOq).lt; omega))
                refine hK _ _ ⟨(unhide HOa14).box, ?_⟩
                clear hK K hsa hga
                refine wpAnyH_two (i := 4) (j := 8) (by kernel_rfl) rfl rfl (fun K hK => ?_) (fun K hK => ?_)
                case' refine_2 =>
                  go_simp
                  refine hK _ _ ⟨heap_later (unhide HOa14).box _, ?_⟩
                  clear hK K
                  have bxa15 := (Below.refl waa14.heap.size waa14).alloc (Nat.le_refl _) (scrO scr0 none 0)
                  have HOa15 := hide ((unhide HOa14).below bxa15)
                  have HGa15 := hide (heap_below (unhide HGa14) bxa15)
                  have HNa15 := hide (show (waa14.alloc (scrO scr0 none 0)).heap[waa14.heap.size]? = some (scrO scr0 none 0) from heap_alloc_new waa14 (scrO scr0 none 0))
                  have HAa15 := hide (show CksIn waa14.heap.size (waa14.alloc (scrO scr0 none 0)) A s.l from ((unhide HOa14).ckR.other (n := 5) Ck.cs_len (by omega) (Nat.le_refl waa14.heap.size)).keep bxa15)
                  clear bxa15
                  refine wpAnyH_one (i := 4) (by kernel_rfl) rfl (fun K hK => ?_)
                  go_simp
                  go_at_call 15
                  refine ((unhide HP).start w.heap.size s bag t A c _ (unhide HOa15).val (unhide HOa15).ckR (unhide HOa15).cap).mono ?_
                  rintro e wba16 ⟨A', c', rfl, hC, hb, hcap⟩
                  try go_simp
                  have HOba16 := hide ((unhide HOa15).below hb)
                  have HNba16 := hide (heap_below (unhide HNa15) hb)
                  refine hK _ _ ⟨(unhide HOba16).box, ?_⟩
                  clear hK K
                  refine wpAnyH_take (i := 5) (v := .tuple #[scrV (startS s bag t) A' c', .int .i64 (startE s bag t)]) rfl (by kernel_rfl) (by kernel_rfl) (by kernel_rfl) (fun _ _ _ h => h) (Or.inl ⟨by rfl, by intro w _; go_simp⟩) ((unhide HOba16).box) ?_
                  refine wpAnyH_take (i := 6) (v := scrV (startS s bag t) A' c') rfl (by kernel_rfl) (by kernel_rfl) (by kernel_rfl) (fun _ _ _ h => h) (Or.inl ⟨by rfl, by intro w _; go_simp⟩) ((unhide HOba16).box) ?_
                  refine wpAnyH_take (i := 7) (v := .int .i64 (startE s bag t)) rfl (by kernel_rfl) (by kernel_rfl) (by kernel_rfl) (fun _ _ _ h => h) (Or.inl ⟨by rfl, by intro w _; go_simp⟩) ((unhide HOba16).box) ?_
                  go_simp
                  have HM0 := hide (OvM.early (Gn := waa14.heap.size) (unhide HOa15) (unhide HGa15) (unhide HNa15) (by exact (unhide HOa14).toOvS.szX) (by exact (Array.getElem?_eq_some_iff.1 (unhide HGa14)).1) (unhide HAa15) hb hC hcap)
                  refine wpAnyH_one (i := 9) (by kernel_rfl) rfl (fun K hK => ?_)
                  rw [if_pos (by rfl)]
                  refine wp_store_row _ _ _ rfl (waa14.heap.size) (scrA (startS s bag t) A' c') rfl rfl 28 _ (unhide HNba16) infoS rfl (scr_all _ _ _) ?_
                  refine hK _ _ ⟨(unhide HM0).st.box, ?_⟩
                  clear hK K
                  refine wpAnyH_take (i := 10) (v := .int .i64 (startE s bag t)) rfl (by kernel_rfl) (by kernel_rfl) (by kernel_rfl) (fun _ _ _ h => h) (Or.inl ⟨by rfl, by intro w _; go_simp⟩) ((unhide HM0).st.box) ?_
                  refine wpAnyH_done (by kernel_rfl) ?_ _
                  go_simp
                  have HM1 := hide (show (1 ≤ bag ∧ bag ≤ 6) ∧ OvM w w.heap.size w6.heap.size O ob (waa14.heap.size) s A c (startS s bag t) A' c' (wba16.setRow (waa14.heap.size) (scrA (startS s bag t) A' c')) from ⟨⟨bag0, bag1⟩, unhide HM0⟩)
                  clear HM0 HOba16 hb hC HNba16 HNa15 HAa15
                  generalize wba16.setRow (waa14.heap.size) (scrA (startS s bag t) A' c') = Wf at *
                  generalize waa14.heap.size = Gn at *
                  exact hM bag Gn A' c' Wf (unhide HM1)
                case' refine_1 =>
                  go_simp
                  go_at_call 15
                  refine ((unhide HP).start w.heap.size s bag t A c _ (unhide HOa14).val (unhide HOa14).ckR (unhide HOa14).cap).mono ?_
                  rintro e wba17 ⟨A', c', rfl, hC, hb, hcap⟩
                  try go_simp
                  have HOba17 := hide ((unhide HOa14).below hb)
                  refine hK _ _ ⟨(unhide HOba17).box, ?_⟩
                  clear hK K
                  refine wpAnyH_take (i := 5) (v := .tuple #[scrV (startS s bag t) A' c', .int .i64 (startE s bag t)]) rfl (by kernel_rfl) (by kernel_rfl) (by kernel_rfl) (fun _ _ _ h => h) (Or.inl ⟨by rfl, by intro w _; go_simp⟩) ((unhide HOba17).box) ?_
                  refine wpAnyH_take (i := 6) (v := scrV (startS s bag t) A' c') rfl (by kernel_rfl) (by kernel_rfl) (by kernel_rfl) (fun _ _ _ h => h) (Or.inl ⟨by rfl, by intro w _; go_simp⟩) ((unhide HOba17).box) ?_
                  refine wpAnyH_take (i := 7) (v := .int .i64 (startE s bag t)) rfl (by kernel_rfl) (by kernel_rfl) (by kernel_rfl) (fun _ _ _ h => h) (Or.inl ⟨by rfl, by intro w _; go_simp⟩) ((unhide HOba17).box) ?_
                  go_simp
                  refine wpAnyH_one (i := 8) (by kernel_rfl) rfl (fun K hK => ?_)
                  go_simp
                  refine hK _ _ ⟨heap_later (unhide HOba17).box _, ?_⟩
                  clear hK K
                  refine wpAnyH_one (i := 9) (by kernel_rfl) rfl (fun K hK => ?_)
                  go_simp
                  have HM0 := hide (OvM.late (unhide HOa14) (unhide HGa14) hb hC hcap)
                  refine hK _ _ ⟨(unhide HM0).st.box, ?_⟩
                  clear hK K
                  refine wpAnyH_take (i := 10) (v := .int .i64 (startE s bag t)) rfl (by kernel_rfl) (by kernel_rfl) (by kernel_rfl) (fun _ _ _ h => h) (Or.inl ⟨by rfl, by intro w _; go_simp⟩) ((unhide HM0).st.box) ?_
                  refine wpAnyH_done (by kernel_rfl) ?_ _
                  go_simp
                  have HM1 := hide (show (1 ≤ bag ∧ bag ≤ 6) ∧ OvM w w.heap.size w6.heap.size O ob wba17.heap.size s A c (startS s bag t) A' c' (wba17.alloc (scrO (startS s bag t) A' c')) from ⟨⟨bag0, bag1⟩, unhide HM0⟩)
                  clear HM0 HOba17 hb hC
                  generalize wba17.alloc (scrO (startS s bag t) A' c') = Wf at *
                  generalize wba17.heap.size = Gn at *
                  exact hM bag Gn A' c' Wf (unhide HM1)
            intro bag Gn A' c' W ⟨⟨g1, g6⟩, hN⟩
            have HM := hide hN
            have HGn := hide hN.box
            have HBX := hide hN.st.box
            clear hN
            by_cases he : startE s bag t = 0
            · have HE := hide he
              have HS := hide (startS_valid (unhide HOq).val he)
              rw [he]
              clear he
              go_wp2_with (first
                | (refine wpList_loadS (unhide HGn) rfl _ rfl rfl ?_)
                | (refine wpList_storeS (unhide HBX) rfl _ _ rfl rfl rfl ?_))
              go_meet
              case rel => exact ⟨_, _, _, hide (OvI.put (unhide HM).st (unhide HM).nR (unhide HM).nX (unhide HM).nO (unhide HM).cap (unhide HS)), hide (by rw [setRow_other _ _ _ _ (by have := unhide HXO; omega)]; exact (unhide HM).old), hide ((unhide HI).start (unhide HE) g6)⟩
            · have hne : (startE s bag t == 0) = false := by rw [beq_eq_false_iff_ne]; exact he
              clear he
              generalize startE s bag t = ev at *
              go_wp2
              go_meet
              case rel => exact ⟨s, A, c, hide (unhide HM).st, hide (unhide HM).old, HI⟩
          · have u0n : (u == 0) = false := by rw [beq_eq_false_iff_ne]; exact hu0
            by_cases hu1 : u = 1
            · subst hu1
              have HBX := hide (unhide HOq).box
              go_wp2_with (refine wpList_loadS (unhide HBX) rfl _ rfl rfl ?_)
              refine ((unhide HP).expire w.heap.size s t A c _ (unhide HOq).val (unhide HOq).ckR (unhide HOq).cap).mono ?_
              rintro e w5 ⟨A', c', rfl, hC, hb, hcap⟩
              have hN := OvM.late (unhide HOq) (unhide HGq) hb hC hcap
              have HM := hide hN
              have HGn := hide hN.box
              have HB2 := hide hN.st.box
              clear hC hb hcap hN
              by_cases he : expE s t = 0
              · have HE := hide he
                have HS := hide (expS_valid (unhide HOq).val he)
                rw [he]
                clear he
                go_wp2_with (first
                  | (refine wpList_loadS (unhide HGn) rfl _ rfl rfl ?_)
                  | (refine wpList_storeS (unhide HB2) rfl _ _ rfl rfl rfl ?_))
                go_meet
                case rel => exact ⟨_, _, _, hide (OvI.put (unhide HM).st (unhide HM).nR (unhide HM).nX (unhide HM).nO (unhide HM).cap (unhide HS)), hide (by rw [setRow_other _ _ _ _ (by have := unhide HXO; omega)]; exact (unhide HM).old), hide ((unhide HI).exp (unhide HE))⟩
              · have hne : (expE s t == 0) = false := by rw [beq_eq_false_iff_ne]; exact he
                clear he
                generalize expE s t = ev at *
                go_wp2
                go_meet
                case rel => exact ⟨s, A, c, hide (unhide HM).st, hide (unhide HM).old, HI⟩
            · have u1n : (u == 1) = false := by rw [beq_eq_false_iff_ne]; exact hu1
              go_wp2_with fail
              refine wp_region_held (S := fun Z => Z.heap[w6.heap.size]? = some (scrO s A c)) (by kernel_rfl) ?_
              have HOd := hide ((unhide HOq).below (Below.refl wq.heap.size wq).drew)
              have HGd := hide (show wq.drew.heap[O]? = some ob from unhide HGq)
              refine wpAnyH_take (i := 0) (v := scrV s A c) rfl (by kernel_rfl) (by kernel_rfl) (by kernel_rfl) (fun _ _ _ h => h) (yields_loadS _ rfl rfl rfl (fun _ h => h)) (unhide HOd).box ?_
              refine wpAnyH_take (i := 1) (v := .pointer (some ⟨w.heap.size, 0, none⟩)) rfl (by kernel_rfl) (by kernel_rfl) (by kernel_rfl) (fun _ _ _ h => h) (Or.inl ⟨by rfl, by intro w _; go_simp⟩) ((unhide HOd).box) ?_
              refine wpAnyH_take (i := 3) (v := .pointer (some ⟨w.heap.size, 0, none⟩)) rfl (by kernel_rfl) (by kernel_rfl) (by kernel_rfl) (fun _ _ _ h => h) (Or.inl ⟨by rfl, by intro w _; go_simp⟩) ((unhide HOd).box) ?_
              refine wpAnyH_take (i := 6) (v := .int .i64 t) rfl (by kernel_rfl) (by kernel_rfl) (by kernel_rfl) (fun _ _ _ h => h) (Or.inl ⟨by rfl, by intro w _; go_simp⟩) ((unhide HOd).box) ?_
              refine (fun (Y : Int → Int → Nat → Option Addr → Nat → World → Prop) (f : (∀ im q Gn A' c' W, (True ∧ OvM w w.heap.size w6.heap.size O ob Gn s A c (verS s im (q == 0) t) A' c' W) → Y im q Gn A' c' W) → _) (g : ∀ im q Gn A' c' W, (True ∧ OvM w w.heap.size w6.heap.size O ob Gn s A c (verS s im (q == 0) t) A' c' W) → Y im q Gn A' c' W) => f g) ?Yv1 ?mv1 ?rv1
              case mv1 =>
                intro hM
                go_simp
                refine wpAnyH_two (i := 2) (j := 12) (by kernel_rfl) rfl rfl (fun K hK => ?_) (fun K hK => ?_)
                case' refine_2 =>
                  go_simp
                  refine hK _ _ ⟨heap_later (unhide HOd).box _, ?_⟩
                  clear hK K
                  have bxv11 := (Below.refl wq.drew.heap.size wq.drew).alloc (Nat.le_refl _) (scrO scr0 none 0)
                  have HOv11 := hide ((unhide HOd).below bxv11)
                  have HGv11 := hide (heap_below (unhide HGd) bxv11)
                  have HNv11 := hide (show (wq.drew.alloc (scrO scr0 none 0)).heap[wq.heap.size]? = some (scrO scr0 none 0) from heap_alloc_new wq.drew (scrO scr0 none 0))
                  have HAv11 := hide (show CksIn wq.heap.size (wq.drew.alloc (scrO scr0 none 0)) A s.l from ((unhide HOd).ckR.other (n := 5) Ck.cs_len (by omega) (Nat.le_refl wq.drew.heap.size)).keep bxv11)
                  clear bxv11
                  refine wpAnyH_one (i := 2) (by kernel_rfl) rfl (fun K hK => ?_)
                  go_simp
                  go_at_call 14
                  refine (range_any _ _ 1 20 _ (unhide HOv11).src (by omega) (by omega) (by omega)).mono ?_
                  rintro e wav12 ⟨im, rfl, im0, im1, hsa, hga⟩
                  try go_simp
                  have HOv12 := hide ((unhide HOv11).reads hsa hga)
                  have HGv12 := hide (heap_reads (unhide HGv11) hga (by have := unhide HXO; have := (unhide HOq).lt; omega))
                  have HNv12 := hide (heap_reads (unhide HNv11) hga (by have h : w.heap.size < wq.heap.size := (unhide HOq).toOvS.szR; omega))
                  have HAv12 := hide ((unhide HAv11).grown2 (unhide HOv11).ckR hga)
                  refine hK _ _ ⟨(unhide HOv12).box, ?_⟩
                  clear hK K hsa hga
                  refine wpAnyH_one (i := 4) (by kernel_rfl) rfl (fun K hK => ?_)
                  go_simp
                  go_at_call 11
                  refine (n_any _ _ 3 _ (unhide HOv12).src (by omega) (by omega)).mono ?_
                  rintro e wav13 ⟨q, rfl, q0, q1, hsa, hga⟩
                  try go_simp
                  have HOv13 := hide ((unhide HOv12).reads hsa hga)
                  have HGv13 := hide (heap_reads (unhide HGv12) hga (by have := unhide HXO; have := (unhide HOq).lt; omega))
                  have HNv13 := hide (heap_reads (unhide HNv12) hga (by have h : w.heap.size < wq.heap.size := (unhide HOq).toOvS.szR; omega))
                  have HAv13 := hide ((unhide HAv12).grown2 (unhide HOv12).ckR hga)
                  refine hK _ _ ⟨(unhide HOv13).box, ?_⟩
                  clear hK K hsa hga
                  refine wpAnyH_take (i := 5) (v := .bool (q == 0)) rfl (by kernel_rfl) (by kernel_rfl) (by kernel_rfl) (fun _ _ _ h => h) (Or.inl ⟨by rfl, by intro w _; go_simp⟩) ((unhide HOv13).box) ?_
                  go_simp
                  refine wpAnyH_one (i := 7) (by kernel_rfl) rfl (fun K hK => ?_)
                  go_simp
                  go_at_call 19
                  refine ((unhide HP).verdict w.heap.size s im (q == 0) t A c _ (unhide HOv13).val (unhide HOv13).ckR (unhide HOv13).cap).mono ?_
                  rintro e wbv14 ⟨A', c', rfl, hC, hb, hcap⟩
                  try go_simp
                  have HObv14 := hide ((unhide HOv13).below hb)
                  have HNbv14 := hide (heap_below (unhide HNv13) hb)
                  refine hK _ _ ⟨(unhide HObv14).box, ?_⟩
                  clear hK K
                  refine wpAnyH_take (i := 8) (v := .tuple #[scrV (verS s im (q == 0) t) A' c', .int .i64 (verBag s im (q == 0) t), .int .i64 (verE s im (q == 0) t)]) rfl (by kernel_rfl) (by kernel_rfl) (by kernel_rfl) (fun _ _ _ h => h) (Or.inl ⟨by rfl, by intro w _; go_simp⟩) ((unhide HObv14).box) ?_
                  refine wpAnyH_take (i := 9) (v := scrV (verS s im (q == 0) t) A' c') rfl (by kernel_rfl) (by kernel_rfl) (by kernel_rfl) (fun _ _ _ h => h) (Or.inl ⟨by rfl, by intro w _; go_simp⟩) ((unhide HObv14).box) ?_
                  refine wpAnyH_take (i := 10) (v := .int .i64 (verBag s im (q == 0) t)) rfl (by kernel_rfl) (by kernel_rfl) (by kernel_rfl) (fun _ _ _ h => h) (Or.inl ⟨by rfl, by intro w _; go_simp⟩) ((unhide HObv14).box) ?_
                  refine wpAnyH_take (i := 11) (v := .int .i64 (verE s im (q == 0) t)) rfl (by kernel_rfl) (by kernel_rfl) (by kernel_rfl) (fun _ _ _ h => h) (Or.inl ⟨by rfl, by intro w _; go_simp⟩) ((unhide HObv14).box) ?_
                  go_simp
                  have HM0 := hide (OvM.early (Gn := wq.heap.size) (unhide HOv13) (unhide HGv13) (unhide HNv13) (by exact (unhide HOq).toOvS.szX) (by exact (Array.getElem?_eq_some_iff.1 (unhide HGq)).1) (unhide HAv13) hb hC hcap)
                  refine wpAnyH_one (i := 13) (by kernel_rfl) rfl (fun K hK => ?_)
                  rw [if_pos (by rfl)]
                  refine wp_store_row _ _ _ rfl (wq.heap.size) (scrA (verS s im (q == 0) t) A' c') rfl rfl 28 _ (unhide HNbv14) infoS rfl (scr_all _ _ _) ?_
                  refine hK _ _ ⟨(unhide HM0).st.box, ?_⟩
                  clear hK K
                  refine wpAnyH_take (i := 14) (v := .int .i64 (verBag s im (q == 0) t)) rfl (by kernel_rfl) (by kernel_rfl) (by kernel_rfl) (fun _ _ _ h => h) (Or.inl ⟨by rfl, by intro w _; go_simp⟩) ((unhide HM0).st.box) ?_
                  refine wpAnyH_take (i := 15) (v := .int .i64 (verE s im (q == 0) t)) rfl (by kernel_rfl) (by kernel_rfl) (by kernel_rfl) (fun _ _ _ h => h) (Or.inl ⟨by rfl, by intro w _; go_simp⟩) ((unhide HM0).st.box) ?_
                  refine wpAnyH_done (by kernel_rfl) ?_ _
                  go_simp
                  have HM1 := hide (show True ∧ OvM w w.heap.size w6.heap.size O ob (wq.heap.size) s A c (verS s im (q == 0) t) A' c' (wbv14.setRow (wq.heap.size) (scrA (verS s im (q == 0) t) A' c')) from ⟨trivial, unhide HM0⟩)
                  clear HM0 HObv14 hb hC HNbv14 HNv13 HAv13
                  generalize wbv14.setRow (wq.heap.size) (scrA (verS s im (q == 0) t) A' c') = Wf at *
                  generalize wq.heap.size = Gn at *
                  exact hM im q Gn A' c' Wf (unhide HM1)
                case' refine_1 =>
                  go_simp
                  go_at_call 14
                  refine (range_any _ _ 1 20 _ (unhide HOd).src (by omega) (by omega) (by omega)).mono ?_
                  rintro e wav15 ⟨im, rfl, im0, im1, hsa, hga⟩
                  try go_simp
                  have HOv15 := hide ((unhide HOd).reads hsa hga)
                  have HGv15 := hide (heap_reads (unhide HGd) hga (by have := unhide HXO; have := (unhide HOq).lt; omega))
                  refine hK _ _ ⟨(unhide HOv15).box, ?_⟩
                  clear hK K hsa hga
                  refine wpAnyH_two (i := 4) (j := 12) (by kernel_rfl) rfl rfl (fun K hK => ?_) (fun K hK => ?_)
                  case' refine_2 =>
                    go_simp
                    refine hK _ _ ⟨heap_later (unhide HOv15).box _, ?_⟩
                    clear hK K
                    have bxv16 := (Below.refl wav15.heap.size wav15).alloc (Nat.le_refl _) (scrO scr0 none 0)
                    have HOv16 := hide ((unhide HOv15).below bxv16)
                    have HGv16 := hide (heap_below (unhide HGv15) bxv16)
                    have HNv16 := hide (show (wav15.alloc (scrO scr0 none 0)).heap[wav15.heap.size]? = some (scrO scr0 none 0) from heap_alloc_new wav15 (scrO scr0 none 0))
                    have HAv16 := hide (show CksIn wav15.heap.size (wav15.alloc (scrO scr0 none 0)) A s.l from ((unhide HOv15).ckR.other (n := 5) Ck.cs_len (by omega) (Nat.le_refl wav15.heap.size)).keep bxv16)
                    clear bxv16
                    refine wpAnyH_one (i := 4) (by kernel_rfl) rfl (fun K hK => ?_)
                    go_simp
                    go_at_call 11
                    refine (n_any _ _ 3 _ (unhide HOv16).src (by omega) (by omega)).mono ?_
                    rintro e wav17 ⟨q, rfl, q0, q1, hsa, hga⟩
                    try go_simp
                    have HOv17 := hide ((unhide HOv16).reads hsa hga)
                    have HGv17 := hide (heap_reads (unhide HGv16) hga (by have := unhide HXO; have := (unhide HOq).lt; omega))
                    have HNv17 := hide (heap_reads (unhide HNv16) hga (by have h : w.heap.size < wq.heap.size := (unhide HOq).toOvS.szR; have h9 := (unhide HOv15).toOvS.szR; omega))
                    have HAv17 := hide ((unhide HAv16).grown2 (unhide HOv16).ckR hga)
                    refine hK _ _ ⟨(unhide HOv17).box, ?_⟩
                    clear hK K hsa hga
                    refine wpAnyH_take (i := 5) (v := .bool (q == 0)) rfl (by kernel_rfl) (by kernel_rfl) (by kernel_rfl) (fun _ _ _ h => h) (Or.inl ⟨by rfl, by intro w _; go_simp⟩) ((unhide HOv17).box) ?_
                    go_simp
                    refine wpAnyH_one (i := 7) (by kernel_rfl) rfl (fun K hK => ?_)
                    go_simp
                    go_at_call 19
                    refine ((unhide HP).verdict w.heap.size s im (q == 0) t A c _ (unhide HOv17).val (unhide HOv17).ckR (unhide HOv17).cap).mono ?_
                    rintro e wbv18 ⟨A', c', rfl, hC, hb, hcap⟩
                    try go_simp
                    have HObv18 := hide ((unhide HOv17).below hb)
                    have HNbv18 := hide (heap_below (unhide HNv17) hb)
                    refine hK _ _ ⟨(unhide HObv18).box, ?_⟩
                    clear hK K
                    refine wpAnyH_take (i := 8) (v := .tuple #[scrV (verS s im (q == 0) t) A' c', .int .i64 (verBag s im (q == 0) t), .int .i64 (verE s im (q == 0) t)]) rfl (by kernel_rfl) (by kernel_rfl) (by kernel_rfl) (fun _ _ _ h => h) (Or.inl ⟨by rfl, by intro w _; go_simp⟩) ((unhide HObv18).box) ?_
                    refine wpAnyH_take (i := 9) (v := scrV (verS s im (q == 0) t) A' c') rfl (by kernel_rfl) (by kernel_rfl) (by kernel_rfl) (fun _ _ _ h => h) (Or.inl ⟨by rfl, by intro w _; go_simp⟩) ((unhide HObv18).box) ?_
                    refine wpAnyH_take (i := 10) (v := .int .i64 (verBag s im (q == 0) t)) rfl (by kernel_rfl) (by kernel_rfl) (by kernel_rfl) (fun _ _ _ h => h) (Or.inl ⟨by rfl, by intro w _; go_simp⟩) ((unhide HObv18).box) ?_
                    refine wpAnyH_take (i := 11) (v := .int .i64 (verE s im (q == 0) t)) rfl (by kernel_rfl) (by kernel_rfl) (by kernel_rfl) (fun _ _ _ h => h) (Or.inl ⟨by rfl, by intro w _; go_simp⟩) ((unhide HObv18).box) ?_
                    go_simp
                    have HM0 := hide (OvM.early (Gn := wav15.heap.size) (unhide HOv17) (unhide HGv17) (unhide HNv17) (by exact (unhide HOv15).toOvS.szX) (by exact (Array.getElem?_eq_some_iff.1 (unhide HGv15)).1) (unhide HAv17) hb hC hcap)
                    refine wpAnyH_one (i := 13) (by kernel_rfl) rfl (fun K hK => ?_)
                    rw [if_pos (by rfl)]
                    refine wp_store_row _ _ _ rfl (wav15.heap.size) (scrA (verS s im (q == 0) t) A' c') rfl rfl 28 _ (unhide HNbv18) infoS rfl (scr_all _ _ _) ?_
                    refine hK _ _ ⟨(unhide HM0).st.box, ?_⟩
                    clear hK K
                    refine wpAnyH_take (i := 14) (v := .int .i64 (verBag s im (q == 0) t)) rfl (by kernel_rfl) (by kernel_rfl) (by kernel_rfl) (fun _ _ _ h => h) (Or.inl ⟨by rfl, by intro w _; go_simp⟩) ((unhide HM0).st.box) ?_
                    refine wpAnyH_take (i := 15) (v := .int .i64 (verE s im (q == 0) t)) rfl (by kernel_rfl) (by kernel_rfl) (by kernel_rfl) (fun _ _ _ h => h) (Or.inl ⟨by rfl, by intro w _; go_simp⟩) ((unhide HM0).st.box) ?_
                    refine wpAnyH_done (by kernel_rfl) ?_ _
                    go_simp
                    have HM1 := hide (show True ∧ OvM w w.heap.size w6.heap.size O ob (wav15.heap.size) s A c (verS s im (q == 0) t) A' c' (wbv18.setRow (wav15.heap.size) (scrA (verS s im (q == 0) t) A' c')) from ⟨trivial, unhide HM0⟩)
                    clear HM0 HObv18 hb hC HNbv18 HNv17 HAv17
                    generalize wbv18.setRow (wav15.heap.size) (scrA (verS s im (q == 0) t) A' c') = Wf at *
                    generalize wav15.heap.size = Gn at *
                    exact hM im q Gn A' c' Wf (unhide HM1)
                  case' refine_1 =>
                    go_simp
                    go_at_call 11
                    refine (n_any _ _ 3 _ (unhide HOv15).src (by omega) (by omega)).mono ?_
                    rintro e wav19 ⟨q, rfl, q0, q1, hsa, hga⟩
                    try go_simp
                    have HOv19 := hide ((unhide HOv15).reads hsa hga)
                    have HGv19 := hide (heap_reads (unhide HGv15) hga (by have := unhide HXO; have := (unhide HOq).lt; omega))
                    refine hK _ _ ⟨(unhide HOv19).box, ?_⟩
                    clear hK K hsa hga
                    refine wpAnyH_take (i := 5) (v := .bool (q == 0)) rfl (by kernel_rfl) (by kernel_rfl) (by kernel_rfl) (fun _ _ _ h => h) (Or.inl ⟨by rfl, by intro w _; go_simp⟩) ((unhide HOv19).box) ?_
                    go_simp
                    refine wpAnyH_two (i := 7) (j := 12) (by kernel_rfl) rfl rfl (fun K hK => ?_) (fun K hK => ?_)
                    case' refine_2 =>
                      go_simp
                      refine hK _ _ ⟨heap_later (unhide HOv19).box _, ?_⟩
                      clear hK K
                      have bxv110 := (Below.refl wav19.heap.size wav19).alloc (Nat.le_refl _) (scrO scr0 none 0)
                      have HOv110 := hide ((unhide HOv19).below bxv110)
                      have HGv110 := hide (heap_below (unhide HGv19) bxv110)
                      have HNv110 := hide (show (wav19.alloc (scrO scr0 none 0)).heap[wav19.heap.size]? = some (scrO scr0 none 0) from heap_alloc_new wav19 (scrO scr0 none 0))
                      have HAv110 := hide (show CksIn wav19.heap.size (wav19.alloc (scrO scr0 none 0)) A s.l from ((unhide HOv19).ckR.other (n := 5) Ck.cs_len (by omega) (Nat.le_refl wav19.heap.size)).keep bxv110)
                      clear bxv110
                      refine wpAnyH_one (i := 7) (by kernel_rfl) rfl (fun K hK => ?_)
                      go_simp
                      go_at_call 19
                      refine ((unhide HP).verdict w.heap.size s im (q == 0) t A c _ (unhide HOv110).val (unhide HOv110).ckR (unhide HOv110).cap).mono ?_
                      rintro e wbv111 ⟨A', c', rfl, hC, hb, hcap⟩
                      try go_simp
                      have HObv111 := hide ((unhide HOv110).below hb)
                      have HNbv111 := hide (heap_below (unhide HNv110) hb)
                      refine hK _ _ ⟨(unhide HObv111).box, ?_⟩
                      clear hK K
                      refine wpAnyH_take (i := 8) (v := .tuple #[scrV (verS s im (q == 0) t) A' c', .int .i64 (verBag s im (q == 0) t), .int .i64 (verE s im (q == 0) t)]) rfl (by kernel_rfl) (by kernel_rfl) (by kernel_rfl) (fun _ _ _ h => h) (Or.inl ⟨by rfl, by intro w _; go_simp⟩) ((unhide HObv111).box) ?_
                      refine wpAnyH_take (i := 9) (v := scrV (verS s im (q == 0) t) A' c') rfl (by kernel_rfl) (by kernel_rfl) (by kernel_rfl) (fun _ _ _ h => h) (Or.inl ⟨by rfl, by intro w _; go_simp⟩) ((unhide HObv111).box) ?_
                      refine wpAnyH_take (i := 10) (v := .int .i64 (verBag s im (q == 0) t)) rfl (by kernel_rfl) (by kernel_rfl) (by kernel_rfl) (fun _ _ _ h => h) (Or.inl ⟨by rfl, by intro w _; go_simp⟩) ((unhide HObv111).box) ?_
                      refine wpAnyH_take (i := 11) (v := .int .i64 (verE s im (q == 0) t)) rfl (by kernel_rfl) (by kernel_rfl) (by kernel_rfl) (fun _ _ _ h => h) (Or.inl ⟨by rfl, by intro w _; go_simp⟩) ((unhide HObv111).box) ?_
                      go_simp
                      have HM0 := hide (OvM.early (Gn := wav19.heap.size) (unhide HOv110) (unhide HGv110) (unhide HNv110) (by exact (unhide HOv19).toOvS.szX) (by exact (Array.getElem?_eq_some_iff.1 (unhide HGv19)).1) (unhide HAv110) hb hC hcap)
                      refine wpAnyH_one (i := 13) (by kernel_rfl) rfl (fun K hK => ?_)
                      rw [if_pos (by rfl)]
                      refine wp_store_row _ _ _ rfl (wav19.heap.size) (scrA (verS s im (q == 0) t) A' c') rfl rfl 28 _ (unhide HNbv111) infoS rfl (scr_all _ _ _) ?_
                      refine hK _ _ ⟨(unhide HM0).st.box, ?_⟩
                      clear hK K
                      refine wpAnyH_take (i := 14) (v := .int .i64 (verBag s im (q == 0) t)) rfl (by kernel_rfl) (by kernel_rfl) (by kernel_rfl) (fun _ _ _ h => h) (Or.inl ⟨by rfl, by intro w _; go_simp⟩) ((unhide HM0).st.box) ?_
                      refine wpAnyH_take (i := 15) (v := .int .i64 (verE s im (q == 0) t)) rfl (by kernel_rfl) (by kernel_rfl) (by kernel_rfl) (fun _ _ _ h => h) (Or.inl ⟨by rfl, by intro w _; go_simp⟩) ((unhide HM0).st.box) ?_
                      refine wpAnyH_done (by kernel_rfl) ?_ _
                      go_simp
                      have HM1 := hide (show True ∧ OvM w w.heap.size w6.heap.size O ob (wav19.heap.size) s A c (verS s im (q == 0) t) A' c' (wbv111.setRow (wav19.heap.size) (scrA (verS s im (q == 0) t) A' c')) from ⟨trivial, unhide HM0⟩)
                      clear HM0 HObv111 hb hC HNbv111 HNv110 HAv110
                      generalize wbv111.setRow (wav19.heap.size) (scrA (verS s im (q == 0) t) A' c') = Wf at *
                      generalize wav19.heap.size = Gn at *
                      exact hM im q Gn A' c' Wf (unhide HM1)
                    case' refine_1 =>
                      go_simp
                      go_at_call 19
                      refine ((unhide HP).verdict w.heap.size s im (q == 0) t A c _ (unhide HOv19).val (unhide HOv19).ckR (unhide HOv19).cap).mono ?_
                      rintro e wbv112 ⟨A', c', rfl, hC, hb, hcap⟩
                      try go_simp
                      have HObv112 := hide ((unhide HOv19).below hb)
                      refine hK _ _ ⟨(unhide HObv112).box, ?_⟩
                      clear hK K
                      refine wpAnyH_take (i := 8) (v := .tuple #[scrV (verS s im (q == 0) t) A' c', .int .i64 (verBag s im (q == 0) t), .int .i64 (verE s im (q == 0) t)]) rfl (by kernel_rfl) (by kernel_rfl) (by kernel_rfl) (fun _ _ _ h => h) (Or.inl ⟨by rfl, by intro w _; go_simp⟩) ((unhide HObv112).box) ?_
                      refine wpAnyH_take (i := 9) (v := scrV (verS s im (q == 0) t) A' c') rfl (by kernel_rfl) (by kernel_rfl) (by kernel_rfl) (fun _ _ _ h => h) (Or.inl ⟨by rfl, by intro w _; go_simp⟩) ((unhide HObv112).box) ?_
                      refine wpAnyH_take (i := 10) (v := .int .i64 (verBag s im (q == 0) t)) rfl (by kernel_rfl) (by kernel_rfl) (by kernel_rfl) (fun _ _ _ h => h) (Or.inl ⟨by rfl, by intro w _; go_simp⟩) ((unhide HObv112).box) ?_
                      refine wpAnyH_take (i := 11) (v := .int .i64 (verE s im (q == 0) t)) rfl (by kernel_rfl) (by kernel_rfl) (by kernel_rfl) (fun _ _ _ h => h) (Or.inl ⟨by rfl, by intro w _; go_simp⟩) ((unhide HObv112).box) ?_
                      go_simp
                      refine wpAnyH_one (i := 12) (by kernel_rfl) rfl (fun K hK => ?_)
                      go_simp
                      refine hK _ _ ⟨heap_later (unhide HObv112).box _, ?_⟩
                      clear hK K
                      refine wpAnyH_one (i := 13) (by kernel_rfl) rfl (fun K hK => ?_)
                      go_simp
                      have HM0 := hide (OvM.late (unhide HOv19) (unhide HGv19) hb hC hcap)
                      refine hK _ _ ⟨(unhide HM0).st.box, ?_⟩
                      clear hK K
                      refine wpAnyH_take (i := 14) (v := .int .i64 (verBag s im (q == 0) t)) rfl (by kernel_rfl) (by kernel_rfl) (by kernel_rfl) (fun _ _ _ h => h) (Or.inl ⟨by rfl, by intro w _; go_simp⟩) ((unhide HM0).st.box) ?_
                      refine wpAnyH_take (i := 15) (v := .int .i64 (verE s im (q == 0) t)) rfl (by kernel_rfl) (by kernel_rfl) (by kernel_rfl) (fun _ _ _ h => h) (Or.inl ⟨by rfl, by intro w _; go_simp⟩) ((unhide HM0).st.box) ?_
                      refine wpAnyH_done (by kernel_rfl) ?_ _
                      go_simp
                      have HM1 := hide (show True ∧ OvM w w.heap.size w6.heap.size O ob wbv112.heap.size s A c (verS s im (q == 0) t) A' c' (wbv112.alloc (scrO (verS s im (q == 0) t) A' c')) from ⟨trivial, unhide HM0⟩)
                      clear HM0 HObv112 hb hC
                      generalize wbv112.alloc (scrO (verS s im (q == 0) t) A' c') = Wf at *
                      generalize wbv112.heap.size = Gn at *
                      exact hM im q Gn A' c' Wf (unhide HM1)
              intro im q Gn A' c' W ⟨_, hN⟩
              have HM := hide hN
              have HGn := hide hN.box
              have HBX := hide hN.st.box
              clear hN
              by_cases he : verE s im (q == 0) t = 0
              · have HE := hide he
                have HS := hide (verS_valid (unhide HOq).val he)
                rw [he]
                clear he
                go_wp2_with (first
                  | (refine wpList_loadS (unhide HGn) rfl _ rfl rfl ?_)
                  | (refine wpList_storeS (unhide HBX) rfl _ _ rfl rfl rfl ?_))
                go_meet
                case rel => exact ⟨_, _, _, hide (OvI.put (unhide HM).st (unhide HM).nR (unhide HM).nX (unhide HM).nO (unhide HM).cap (unhide HS)), hide (by rw [setRow_other _ _ _ _ (by have := unhide HXO; omega)]; exact (unhide HM).old), hide ((unhide HI).ver (unhide HE))⟩
              · have hne : (verE s im (q == 0) t == 0) = false := by rw [beq_eq_false_iff_ne]; exact he
                clear he
                generalize verE s im (q == 0) t = ev at *
                go_wp2
                go_meet
                case rel => exact ⟨s, A, c, hide (unhide HM).st, hide (unhide HM).old, HI⟩
        case rest =>
          as_aux_lemma =>
            obtain ⟨s', A', c', HO2, HW2, HI2⟩ := hcut
            clear HOq HGq
            rw [← unhide HOB] at HW2
            have HW2 := hide (unhide HW2)
            clear HI
            go_wp2_with fail
            go_loopw [16] (fun kv wr => ∃ (k : Nat) (cs : Array Value) (own : Nat → Int × Int), k ≤ s'.l.length ∧ kv = .int .i64 k ∧ Hid (OvI w w.heap.size w6.heap.size O s' A' c' wr) ∧ Hid (wr.heap[O]? = some (ownO cs)) ∧ Hid (CsO cs own) ∧ Hid (ImI s' own)) (fun kv _ => s'.l.length - (intOf kv).toNat)
            case atStart => exact ⟨0, cs, own, Nat.zero_le _, rfl, HO2, HW2, HCs, HI2⟩
            case round =>
              obtain ⟨k, cs2, own2, hk, rfl, HOj, HWj, HCj, HIj⟩ := hrel
              obtain ⟨wj, rfl⟩ : ∃ wj : World, wj = wr := ⟨_, rfl⟩
              clear HO2 HW2 HCs HI2 HOB
              have hz40 := (unhide HOj).val.len
              have z5 : wj.cell? ⟨w6.heap.size, 5, none⟩ = some (.slice A' s'.l.length c') := by rw [Lib.cell_of_heap (unhide HOj).box]; rfl
              by_cases hlk : k < s'.l.length
              · have kl : (k : Int) < (s'.l.length : Int) := by omega
                have k0 : (0 : Int) ≤ (k : Int) := by omega
                obtain ⟨g, off, rfl, _, hcc⟩ := ck_at (unhide HOj).ckR hlk
                obtain ⟨x, hx⟩ : ∃ x, s'.l.getD k ck0 = x := ⟨_, rfl⟩
                rw [hx] at hcc
                have hxm : x ∈ s'.l := by rw [← hx]; exact getD_mem hlk
                obtain ⟨⟨i1, i2, i3⟩, i4⟩ := (unhide HIj).look hxm
                obtain ⟨m, hm⟩ : ∃ m : Nat, x.im = (m : Int) := ⟨x.im.toNat, by omega⟩
                have hmn : x.im.toNat = m := by omega
                rw [hmn] at i4
                rw [hm] at i1 i2 i3
                have hbg := ((unhide HOj).val.ok x hxm).1
                have HIp := hide ((unhide HIj).put hxm)
                rw [hmn] at HIp
                have HIp := hide (unhide HIp)
                have m80 : m < 80 := by omega
                have HCp := hide ((unhide HCj).put m80 (x.bag, x.lv))
                obtain ⟨o0, o1⟩ := (unhide HCj).2 m m80
                have HCC := hide hcc
                have HLK := hide hlk
                have HOK := hide i4
                obtain ⟨w1, hw1⟩ : ∃ w1 : World, wj.alloc (.cells x.arr 42) = w1 := ⟨_, rfl⟩
                have b1 : Below wj.heap.size wj w1 := by rw [← hw1]; exact (Below.refl _ _).alloc (Nat.le_refl _) _
                have hxb1 : w1.heap[wj.heap.size]? = some (.cells x.arr 42) := by rw [← hw1]; exact heap_alloc_new wj _
                obtain ⟨w2, hw2⟩ : ∃ w2 : World, w1.alloc (.cells #[.int .i64 x.bag, .int .i64 x.lv] 54) = w2 := ⟨_, rfl⟩
                have b2 : Below w1.heap.size w1 w2 := by rw [← hw2]; exact (Below.refl _ _).alloc (Nat.le_refl _) _
                have hxb2 := heap_below hxb1 b2
                have hib2 : w2.heap[w1.heap.size]? = some (.cells #[.int .i64 x.bag, .int .i64 x.lv] 54) := by rw [← hw2]; exact heap_alloc_new w1 _
                have hob2 := heap_below (heap_below (unhide HWj) b1) b2
                have z4 : w1.cell? ⟨w6.heap.size, 4, none⟩ = some (.int .i64 s'.next) := by rw [Lib.cell_of_heap (heap_below (unhide HOj).box b1)]; rfl
                have p0 : w1.cell? ⟨wj.heap.size, 0, none⟩ = some (.int .i64 x.bag) := by rw [Lib.cell_of_heap hxb1]; rfl
                have p1 : w1.cell? ⟨wj.heap.size, 1, none⟩ = some (.int .i64 x.lv) := by rw [Lib.cell_of_heap hxb1]; rfl
                have p3 : w1.cell? ⟨wj.heap.size, 3, none⟩ = some (.int .i64 (m : Int)) := by rw [Lib.cell_of_heap hxb1, ← hm]; rfl
                have r3 : w2.cell? ⟨wj.heap.size, 3, none⟩ = some (.int .i64 (m : Int)) := kept b2 p3
                have r0 : w2.cell? ⟨w1.heap.size, 0, none⟩ = some (.int .i64 x.bag) := by rw [Lib.cell_of_heap hib2]; rfl
                have r1 : w2.cell? ⟨w1.heap.size, 1, none⟩ = some (.int .i64 x.lv) := by rw [Lib.cell_of_heap hib2]; rfl
                have q0 : w2.cell? ⟨O, m * 2, none⟩ = some (.int .i64 (own2 m).1) := by rw [Lib.cell_of_heap hob2]; exact o0
                have q1 : w2.cell? ⟨O, m * 2 + 1, none⟩ = some (.int .i64 (own2 m).2) := by rw [Lib.cell_of_heap hob2]; exact o1
                have f0 := Lib.frozen_of_heap hob2 (m * 2)
                have f1 := Lib.frozen_of_heap hob2 (m * 2 + 1)
                have m0 : (0 : Int) ≤ (m : Int) := by omega
                have HO2 := hide ((unhide HOj).below (onward b1 b2))
                have HW2 := hide hob2
                have HXI := hide (show w1.heap.size ≠ O ∧ wj.heap.size ≠ O from by
                  have h1 := (Array.getElem?_eq_some_iff.1 (unhide HWj)).1
                  have h2 := b1.size
                  omega)
                clear hcc hx hxm hlk hm hmn o0 o1 b1 hxb1 b2 hxb2 hib2 hob2 i4 HCj HIj HWj
                go_upto_region 27 with (first
                  | ((with_reducible show wpList _ _ _ _ _ wj); refine wpList_load_at rfl _ _ rfl g (off + k * 5) rfl x.arr _ (unhide HCC) Try.underlying42 rfl infoC ?_)
                  | ((with_reducible show wpList _ _ _ _ _ (wj.alloc _)); refine wpList_storeCn rfl x rfl _ _ rfl rfl rfl rfl ?_))
                clear HCC z5
                go_upto_region 30 with fail
                have hneq := neq2
                rcases unhide HOK with e4 | e4
                · have e5 : (own2 m).1 = 0 := by rw [e4]
                  have e6 : (own2 m).2 = 0 := by rw [e4]
                  rw [e5] at q0
                  rw [e6] at q1
                  clear e4 e5 e6 HOK
                  go_quiet (fail)
                  clear hneq
                  have HO4 := hide ((((unhide HO2).below (show Below w2.heap.size w2 (w2.drewN nq) from ⟨rfl, rfl, rfl, Nat.le_refl _, fun _ _ => rfl⟩)).own (unhide HXO) (m * 2) (.int .i64 x.bag)).own (unhide HXO) (m * 2 + 1) (.int .i64 x.lv))
                  have HW4 := hide (heap_set (heap_set (show (w2.drewN nq).heap[O]? = some (ownO cs2) from unhide HW2) (i := m * 2) (.int .i64 x.bag)) (i := m * 2 + 1) (.int .i64 x.lv))
                  go_wp2
                  go_roundw
                  case rel => exact ⟨k + 1, _, _, by have := unhide HLK; omega, by go_num, HO4, HW4, HCp, HIp⟩
                  case measure => simp [intOf]; have := unhide HLK; omega
                · have e5 : (own2 m).1 = x.bag := by rw [e4]
                  have e6 : (own2 m).2 = x.lv := by rw [e4]
                  rw [e5] at q0
                  rw [e6] at q1
                  have hb0 : (x.bag == 0) = false := by rw [beq_eq_false_iff_ne]; omega
                  clear e4 e5 e6 HOK
                  go_quiet (fail)
                  clear hneq
                  have HO4 := hide ((((unhide HO2).below (show Below w2.heap.size w2 (w2.drewN nq) from ⟨rfl, rfl, rfl, Nat.le_refl _, fun _ _ => rfl⟩)).own (unhide HXO) (m * 2) (.int .i64 x.bag)).own (unhide HXO) (m * 2 + 1) (.int .i64 x.lv))
                  have HW4 := hide (heap_set (heap_set (show (w2.drewN nq).heap[O]? = some (ownO cs2) from unhide HW2) (i := m * 2) (.int .i64 x.bag)) (i := m * 2 + 1) (.int .i64 x.lv))
                  go_wp2
                  go_roundw
                  case rel => exact ⟨k + 1, _, _, by have := unhide HLK; omega, by go_num, HO4, HW4, HCp, HIp⟩
                  case measure => simp [intOf]; have := unhide HLK; omega
              · have kl : ¬ (k : Int) < (s'.l.length : Int) := by omega
                go_wp2
                go_roundw
                case rel => exact ⟨i + 1, t, s', A', c', cs2, own2, by omega, ht0, by omega, rfl, by go_num, HOj, HWj, HCj, HIj⟩
                case measure => simp [intOf]; omega
      · go_wp2_with fail
        refine (n_any _ _ 3 _ (unhide HOm).src (by omega) (by omega)).mono ?_
        rintro e wn ⟨v, rfl, v0, v1, hs, hg⟩
        have HOn := hide ((unhide HOm).reads hs hg)
        have HWn := hide (heap_reads (unhide HWm) hg (by have := unhide HXO; have := (unhide HOm).lt; omega))
        clear hs hg HOm HWm
        go_wp2_with fail
        refine (n_any _ _ 3 _ (unhide HOn).src (by omega) (by omega)).mono ?_
        rintro e wq ⟨u, rfl, u0, u1, hs, hg⟩
        have HOq := hide ((unhide HOn).reads hs hg)
        have HGq := hide (heap_reads (unhide HWn) hg (by have := unhide HXO; have := (unhide HOn).lt; omega))
        clear hs hg HOn HWn
        obtain ⟨t, ht⟩ : ∃ t, now + v = t := ⟨_, rfl⟩
        rw [ht]
        have ht0 : 0 ≤ t := by omega
        have ht1 : t ≤ 2 * (i : Int) + 2 := by omega
        clear ht
        obtain ⟨ob, hob⟩ : ∃ ob, ownO cs = ob := ⟨_, rfl⟩
        rw [hob] at HGq
        have HGq := hide (unhide HGq)
        have HOB := hide hob
        clear hob
        go_upto_block 2 with fail
        go_cut [9, 10, 11, 12, 13, 14, 15] from 46 to 84 (fun s9 s10 s11 s12 s13 s14 s15 wx => ∃ (s' : Scr) (A' : Option Addr) (c' : Nat), Hid (OvI w w.heap.size w6.heap.size O s' A' c' wx) ∧ Hid (wx.heap[O]? = some ob) ∧ Hid (ImI s' own))
        case first =>
          by_cases hu0 : u = 0
          · subst hu0
            go_wp2_with fail
            refine wp_region_held (S := fun Z => Z.heap[w6.heap.size]? = some (scrO s A c)) (by kernel_rfl) ?_
            have HOd := hide ((unhide HOq).below (Below.refl wq.heap.size wq).drew)
            have HGd := hide (show wq.drew.heap[O]? = some ob from unhide HGq)
            refine wpAnyH_take (i := 0) (v := scrV s A c) rfl (by kernel_rfl) (by kernel_rfl) (by kernel_rfl) (fun _ _ _ h => h) (yields_loadS _ rfl rfl rfl (fun _ h => h)) (unhide HOd).box ?_
            refine wpAnyH_take (i := 1) (v := .pointer (some ⟨w.heap.size, 0, none⟩)) rfl (by kernel_rfl) (by kernel_rfl) (by kernel_rfl) (fun _ _ _ h => h) (Or.inl ⟨by rfl, by intro w _; go_simp⟩) ((unhide HOd).box) ?_
            refine wpAnyH_take (i := 3) (v := .int .i64 t) rfl (by kernel_rfl) (by kernel_rfl) (by kernel_rfl) (fun _ _ _ h => h) (Or.inl ⟨by rfl, by intro w _; go_simp⟩) ((unhide HOd).box) ?_
            refine (fun (Y : Int → Nat → Option Addr → Nat → World → Prop) (f : (∀ bag Gn A' c' W, ((1 ≤ bag ∧ bag ≤ 6) ∧ OvM w w.heap.size w6.heap.size O ob Gn s A c (startS s bag t) A' c' W) → Y bag Gn A' c' W) → _) (g : ∀ bag Gn A' c' W, ((1 ≤ bag ∧ bag ≤ 6) ∧ OvM w w.heap.size w6.heap.size O ob Gn s A c (startS s bag t) A' c' W) → Y bag Gn A' c' W) => f g) ?Ya2 ?ma2 ?ra2
            case ma2 =>
              intro hM
              go_simp
              refine wpAnyH_two (i := 2) (j := 8) (by kernel_rfl) rfl rfl (fun K hK => ?_) (fun K hK => ?_)
              case' refine_2 =>
                go_simp
                refine hK _ _ ⟨heap_later (unhide HOd).box _, ?_⟩
                clear hK K
                have bxa21 := (Below.refl wq.drew.heap.size wq.drew).alloc (Nat.le_refl _) (scrO scr0 none 0)
                have HOa21 := hide ((unhide HOd).below bxa21)
                have HGa21 := hide (heap_below (unhide HGd) bxa21)
                have HNa21 := hide (show (wq.drew.alloc (scrO scr0 none 0)).heap[wq.heap.size]? = some (scrO scr0 none 0) from heap_alloc_new wq.drew (scrO scr0 none 0))
                have HAa21 := hide (show CksIn wq.heap.size (wq.drew.alloc (scrO scr0 none 0)) A s.l from ((unhide HOd).ckR.other (n := 5) Ck.cs_len (by omega) (Nat.le_refl wq.drew.heap.size)).keep bxa21)
                clear bxa21
                refine wpAnyH_one (i := 2) (by kernel_rfl) rfl (fun K hK => ?_)
                go_simp
                go_at_call 14
                refine (range_any _ _ 1 6 _ (unhide HOa21).src (by omega) (by omega) (by omega)).mono ?_
                rintro e waa22 ⟨bag, rfl, bag0, bag1, hsa, hga⟩
                try go_simp
                have HOa22 := hide ((unhide HOa21).reads hsa hga)
                have HGa22 := hide (heap_reads (unhide HGa21) hga (by have := unhide HXO; have := (unhide HOq).lt; omega))
                have HNa22 := hide (heap_reads (unhide HNa21) hga (by have h : w.heap.size < wq.heap.size := (unhide HOq).toOvS.szR; omega))
                have HAa22 := hide ((unhide HAa21).grown2 (unhide HOa21).ckR hga)
                refine hK _ _ ⟨(unhide HOa22).box, ?_⟩
                clear hK K hsa hga
                refine wpAnyH_one (i := 4) (by kernel_rfl) rfl (fun K hK => ?_)
                go_simp
                go_at_call 15
                refine ((unhide HP).start w.heap.size s bag t A c _ (unhide HOa22).val (unhide HOa22).ckR (unhide HOa22).cap).mono ?_
                rintro e wba23 ⟨A', c', rfl, hC, hb, hcap⟩
                try go_simp
                have HOba23 := hide ((unhide HOa22).below hb)
                have HNba23 := hide (heap_below (unhide HNa22) hb)
                refine hK _ _ ⟨(unhide HOba23).box, ?_⟩
                clear hK K
                refine wpAnyH_take (i := 5) (v := .tuple #[scrV (startS s bag t) A' c', .int .i64 (startE s bag t)]) rfl (by kernel_rfl) (by kernel_rfl) (by kernel_rfl) (fun _ _ _ h => h) (Or.inl ⟨by rfl, by intro w _; go_simp⟩) ((unhide HOba23).box) ?_
                refine wpAnyH_take (i := 6) (v := scrV (startS s bag t) A' c') rfl (by kernel_rfl) (by kernel_rfl) (by kernel_rfl) (fun _ _ _ h => h) (Or.inl ⟨by rfl, by intro w _; go_simp⟩) ((unhide HOba23).box) ?_
                refine wpAnyH_take (i := 7) (v := .int .i64 (startE s bag t)) rfl (by kernel_rfl) (by kernel_rfl) (by kernel_rfl) (fun _ _ _ h => h) (Or.inl ⟨by rfl, by intro w _; go_simp⟩) ((unhide HOba23).box) ?_
                go_simp
                have HM0 := hide (OvM.early (Gn := wq.heap.size) (unhide HOa22) (unhide HGa22) (unhide HNa22) (by exact (unhide HOq).toOvS.szX) (by exact (Array.getElem?_eq_some_iff.1 (unhide HGq)).1) (unhide HAa22) hb hC hcap)
                refine wpAnyH_one (i := 9) (by kernel_rfl) rfl (fun K hK => ?_)
                rw [if_pos (by rfl)]
                refine wp_store_row _ _ _ rfl (wq.heap.size) (scrA (startS s bag t) A' c') rfl rfl 28 _ (unhide HNba23) infoS rfl (scr_all _ _ _) ?_
                refine hK _ _ ⟨(unhide HM0).st.box, ?_⟩
                clear hK K
                refine wpAnyH_take (i := 10) (v := .int .i64 (startE s bag t)) rfl (by kernel_rfl) (by kernel_rfl) (by kernel_rfl) (fun _ _ _ h => h) (Or.inl ⟨by rfl, by intro w _; go_simp⟩) ((unhide HM0).st.box) ?_
                refine wpAnyH_done (by kernel_rfl) ?_ _
                go_simp
                have HM1 := hide (show (1 ≤ bag ∧ bag ≤ 6) ∧ OvM w w.heap.size w6.heap.size O ob (wq.heap.size) s A c (startS s bag t) A' c' (wba23.setRow (wq.heap.size) (scrA (startS s bag t) A' c')) from ⟨⟨bag0, bag1⟩, unhide HM0⟩)
                clear HM0 HOba23 hb hC HNba23 HNa22 HAa22
                generalize wba23.setRow (wq.heap.size) (scrA (startS s bag t) A' c') = Wf at *
                generalize wq.heap.size = Gn at *
                exact hM bag Gn A' c' Wf (unhide HM1)
              case' refine_1 =>
                go_simp
                go_at_call 14
                refine (range_any _ _ 1 6 _ (unhide HOd).src (by omega) (by omega) (by omega)).mono ?_
                rintro e waa24 ⟨bag, rfl, bag0, bag1, hsa, hga⟩
                try go_simp
                have HOa24 := hide ((unhide HOd).reads hsa hga)
                have HGa24 := hide (heap_reads (unhide HGd) hga (by have := unhide HXO; have := (unhide HOq).lt; omega))
                refine hK _ _ ⟨(unhide HOa24).box, ?_⟩
                clear hK K hsa hga
                refine wpAnyH_two (i := 4) (j := 8) (by kernel_rfl) rfl rfl (fun K hK => ?_) (fun K hK => ?_)
                case' refine_2 =>
                  go_simp
                  refine hK _ _ ⟨heap_later (unhide HOa24).box _, ?_⟩
                  clear hK K
                  have bxa25 := (Below.refl waa24.heap.size waa24).alloc (Nat.le_refl _) (scrO scr0 none 0)
                  have HOa25 := hide ((unhide HOa24).below bxa25)
                  have HGa25 := hide (heap_below (unhide HGa24) bxa25)
                  have HNa25 := hide (show (waa24.alloc (scrO scr0 none 0)).heap[waa24.heap.size]? = some (scrO scr0 none 0) from heap_alloc_new waa24 (scrO scr0 none 0))
                  have HAa25 := hide (show CksIn waa24.heap.size (waa24.alloc (scrO scr0 none 0)) A s.l from ((unhide HOa24).ckR.other (n := 5) Ck.cs_len (by omega) (Nat.le_refl waa24.heap.size)).keep bxa25)
                  clear bxa25
                  refine wpAnyH_one (i := 4) (by kernel_rfl) rfl (fun K hK => ?_)
                  go_simp
                  go_at_call 15
                  refine ((unhide HP).start w.heap.size s bag t A c _ (unhide HOa25).val (unhide HOa25).ckR (unhide HOa25).cap).mono ?_
                  rintro e wba26 ⟨A', c', rfl, hC, hb, hcap⟩
                  try go_simp
                  have HOba26 := hide ((unhide HOa25).below hb)
                  have HNba26 := hide (heap_below (unhide HNa25) hb)
                  refine hK _ _ ⟨(unhide HOba26).box, ?_⟩
                  clear hK K
                  refine wpAnyH_take (i := 5) (v := .tuple #[scrV (startS s bag t) A' c', .int .i64 (startE s bag t)]) rfl (by kernel_rfl) (by kernel_rfl) (by kernel_rfl) (fun _ _ _ h => h) (Or.inl ⟨by rfl, by intro w _; go_simp⟩) ((unhide HOba26).box) ?_
                  refine wpAnyH_take (i := 6) (v := scrV (startS s bag t) A' c') rfl (by kernel_rfl) (by kernel_rfl) (by kernel_rfl) (fun _ _ _ h => h) (Or.inl ⟨by rfl, by intro w _; go_simp⟩) ((unhide HOba26).box) ?_
                  refine wpAnyH_take (i := 7) (v := .int .i64 (startE s bag t)) rfl (by kernel_rfl) (by kernel_rfl) (by kernel_rfl) (fun _ _ _ h => h) (Or.inl ⟨by rfl, by intro w _; go_simp⟩) ((unhide HOba26).box) ?_
                  go_simp
                  have HM0 := hide (OvM.early (Gn := waa24.heap.size) (unhide HOa25) (unhide HGa25) (unhide HNa25) (by exact (unhide HOa24).toOvS.szX) (by exact (Array.getElem?_eq_some_iff.1 (unhide HGa24)).1) (unhide HAa25) hb hC hcap)
                  refine wpAnyH_one (i := 9) (by kernel_rfl) rfl (fun K hK => ?_)
                  rw [if_pos (by rfl)]
                  refine wp_store_row _ _ _ rfl (waa24.heap.size) (scrA (startS s bag t) A' c') rfl rfl 28 _ (unhide HNba26) infoS rfl (scr_all _ _ _) ?_
                  refine hK _ _ ⟨(unhide HM0).st.box, ?_⟩
                  clear hK K
                  refine wpAnyH_take (i := 10) (v := .int .i64 (startE s bag t)) rfl (by kernel_rfl) (by kernel_rfl) (by kernel_rfl) (fun _ _ _ h => h) (Or.inl ⟨by rfl, by intro w _; go_simp⟩) ((unhide HM0).st.box) ?_
                  refine wpAnyH_done (by kernel_rfl) ?_ _
                  go_simp
                  have HM1 := hide (show (1 ≤ bag ∧ bag ≤ 6) ∧ OvM w w.heap.size w6.heap.size O ob (waa24.heap.size) s A c (startS s bag t) A' c' (wba26.setRow (waa24.heap.size) (scrA (startS s bag t) A' c')) from ⟨⟨bag0, bag1⟩, unhide HM0⟩)
                  clear HM0 HOba26 hb hC HNba26 HNa25 HAa25
                  generalize wba26.setRow (waa24.heap.size) (scrA (startS s bag t) A' c') = Wf at *
                  generalize waa24.heap.size = Gn at *
                  exact hM bag Gn A' c' Wf (unhide HM1)
                case' refine_1 =>
                  go_simp
                  go_at_call 15
                  refine ((unhide HP).start w.heap.size s bag t A c _ (unhide HOa24).val (unhide HOa24).ckR (unhide HOa24).cap).mono ?_
                  rintro e wba27 ⟨A', c', rfl, hC, hb, hcap⟩
                  try go_simp
                  have HOba27 := hide ((unhide HOa24).below hb)
                  refine hK _ _ ⟨(unhide HOba27).box, ?_⟩
                  clear hK K
                  refine wpAnyH_take (i := 5) (v := .tuple #[scrV (startS s bag t) A' c', .int .i64 (startE s bag t)]) rfl (by kernel_rfl) (by kernel_rfl) (by kernel_rfl) (fun _ _ _ h => h) (Or.inl ⟨by rfl, by intro w _; go_simp⟩) ((unhide HOba27).box) ?_
                  refine wpAnyH_take (i := 6) (v := scrV (startS s bag t) A' c') rfl (by kernel_rfl) (by kernel_rfl) (by kernel_rfl) (fun _ _ _ h => h) (Or.inl ⟨by rfl, by intro w _; go_simp⟩) ((unhide HOba27).box) ?_
                  refine wpAnyH_take (i := 7) (v := .int .i64 (startE s bag t)) rfl (by kernel_rfl) (by kernel_rfl) (by kernel_rfl) (fun _ _ _ h => h) (Or.inl ⟨by rfl, by intro w _; go_simp⟩) ((unhide HOba27).box) ?_
                  go_simp
                  refine wpAnyH_one (i := 8) (by kernel_rfl) rfl (fun K hK => ?_)
                  go_simp
                  refine hK _ _ ⟨heap_later (unhide HOba27).box _, ?_⟩
                  clear hK K
                  refine wpAnyH_one (i := 9) (by kernel_rfl) rfl (fun K hK => ?_)
                  go_simp
                  have HM0 := hide (OvM.late (unhide HOa24) (unhide HGa24) hb hC hcap)
                  refine hK _ _ ⟨(unhide HM0).st.box, ?_⟩
                  clear hK K
                  refine wpAnyH_take (i := 10) (v := .int .i64 (startE s bag t)) rfl (by kernel_rfl) (by kernel_rfl) (by kernel_rfl) (fun _ _ _ h => h) (Or.inl ⟨by rfl, by intro w _; go_simp⟩) ((unhide HM0).st.box) ?_
                  refine wpAnyH_done (by kernel_rfl) ?_ _
                  go_simp
                  have HM1 := hide (show (1 ≤ bag ∧ bag ≤ 6) ∧ OvM w w.heap.size w6.heap.size O ob wba27.heap.size s A c (startS s bag t) A' c' (wba27.alloc (scrO (startS s bag t) A' c')) from ⟨⟨bag0, bag1⟩, unhide HM0⟩)
                  clear HM0 HOba27 hb hC
                  generalize wba27.alloc (scrO (startS s bag t) A' c') = Wf at *
                  generalize wba27.heap.size = Gn at *
                  exact hM bag Gn A' c' Wf (unhide HM1)
            intro bag Gn A' c' W ⟨⟨g1, g6⟩, hN⟩
            have HM := hide hN
            have HGn := hide hN.box
            have HBX := hide hN.st.box
            clear hN
            by_cases he : startE s bag t = 0
            · have HE := hide he
              have HS := hide (startS_valid (unhide HOq).val he)
              rw [he]
              clear he
              go_wp2_with (first
                | (refine wpList_loadS (unhide HGn) rfl _ rfl rfl ?_)
                | (refine wpList_storeS (unhide HBX) rfl _ _ rfl rfl rfl ?_))
              go_meet
              case rel => exact ⟨_, _, _, hide (OvI.put (unhide HM).st (unhide HM).nR (unhide HM).nX (unhide HM).nO (unhide HM).cap (unhide HS)), hide (by rw [setRow_other _ _ _ _ (by have := unhide HXO; omega)]; exact (unhide HM).old), hide ((unhide HI).start (unhide HE) g6)⟩
            · have hne : (startE s bag t == 0) = false := by rw [beq_eq_false_iff_ne]; exact he
              clear he
              generalize startE s bag t = ev at *
              go_wp2
              go_meet
              case rel => exact ⟨s, A, c, hide (unhide HM).st, hide (unhide HM).old, HI⟩
          · have u0n : (u == 0) = false := by rw [beq_eq_false_iff_ne]; exact hu0
            by_cases hu1 : u = 1
            · subst hu1
              have HBX := hide (unhide HOq).box
              go_wp2_with (refine wpList_loadS (unhide HBX) rfl _ rfl rfl ?_)
              refine ((unhide HP).expire w.heap.size s t A c _ (unhide HOq).val (unhide HOq).ckR (unhide HOq).cap).mono ?_
              rintro e w5 ⟨A', c', rfl, hC, hb, hcap⟩
              have hN := OvM.late (unhide HOq) (unhide HGq) hb hC hcap
              have HM := hide hN
              have HGn := hide hN.box
              have HB2 := hide hN.st.box
              clear hC hb hcap hN
              by_cases he : expE s t = 0
              · have HE := hide he
                have HS := hide (expS_valid (unhide HOq).val he)
                rw [he]
                clear he
                go_wp2_with (first
                  | (refine wpList_loadS (unhide HGn) rfl _ rfl rfl ?_)
                  | (refine wpList_storeS (unhide HB2) rfl _ _ rfl rfl rfl ?_))
                go_meet
                case rel => exact ⟨_, _, _, hide (OvI.put (unhide HM).st (unhide HM).nR (unhide HM).nX (unhide HM).nO (unhide HM).cap (unhide HS)), hide (by rw [setRow_other _ _ _ _ (by have := unhide HXO; omega)]; exact (unhide HM).old), hide ((unhide HI).exp (unhide HE))⟩
              · have hne : (expE s t == 0) = false := by rw [beq_eq_false_iff_ne]; exact he
                clear he
                generalize expE s t = ev at *
                go_wp2
                go_meet
                case rel => exact ⟨s, A, c, hide (unhide HM).st, hide (unhide HM).old, HI⟩
            · have u1n : (u == 1) = false := by rw [beq_eq_false_iff_ne]; exact hu1
              go_wp2_with fail
              refine wp_region_held (S := fun Z => Z.heap[w6.heap.size]? = some (scrO s A c)) (by kernel_rfl) ?_
              have HOd := hide ((unhide HOq).below (Below.refl wq.heap.size wq).drew)
              have HGd := hide (show wq.drew.heap[O]? = some ob from unhide HGq)
              refine wpAnyH_take (i := 0) (v := scrV s A c) rfl (by kernel_rfl) (by kernel_rfl) (by kernel_rfl) (fun _ _ _ h => h) (yields_loadS _ rfl rfl rfl (fun _ h => h)) (unhide HOd).box ?_
              refine wpAnyH_take (i := 1) (v := .pointer (some ⟨w.heap.size, 0, none⟩)) rfl (by kernel_rfl) (by kernel_rfl) (by kernel_rfl) (fun _ _ _ h => h) (Or.inl ⟨by rfl, by intro w _; go_simp⟩) ((unhide HOd).box) ?_
              refine wpAnyH_take (i := 3) (v := .pointer (some ⟨w.heap.size, 0, none⟩)) rfl (by kernel_rfl) (by kernel_rfl) (by kernel_rfl) (fun _ _ _ h => h) (Or.inl ⟨by rfl, by intro w _; go_simp⟩) ((unhide HOd).box) ?_
              refine wpAnyH_take (i := 6) (v := .int .i64 t) rfl (by kernel_rfl) (by kernel_rfl) (by kernel_rfl) (fun _ _ _ h => h) (Or.inl ⟨by rfl, by intro w _; go_simp⟩) ((unhide HOd).box) ?_
              refine (fun (Y : Int → Int → Nat → Option Addr → Nat → World → Prop) (f : (∀ im q Gn A' c' W, (True ∧ OvM w w.heap.size w6.heap.size O ob Gn s A c (verS s im (q == 0) t) A' c' W) → Y im q Gn A' c' W) → _) (g : ∀ im q Gn A' c' W, (True ∧ OvM w w.heap.size w6.heap.size O ob Gn s A c (verS s im (q == 0) t) A' c' W) → Y im q Gn A' c' W) => f g) ?Yv2 ?mv2 ?rv2
              case mv2 =>
                intro hM
                go_simp
                refine wpAnyH_two (i := 2) (j := 12) (by kernel_rfl) rfl rfl (fun K hK => ?_) (fun K hK => ?_)
                case' refine_2 =>
                  go_simp
                  refine hK _ _ ⟨heap_later (unhide HOd).box _, ?_⟩
                  clear hK K
                  have bxv21 := (Below.refl wq.drew.heap.size wq.drew).alloc (Nat.le_refl _) (scrO scr0 none 0)
                  have HOv21 := hide ((unhide HOd).below bxv21)
                  have HGv21 := hide (heap_below (unhide HGd) bxv21)
                  have HNv21 := hide (show (wq.drew.alloc (scrO scr0 none 0)).heap[wq.heap.size]? = some (scrO scr0 none 0) from heap_alloc_new wq.drew (scrO scr0 none 0))
                  have HAv21 := hide (show CksIn wq.heap.size (wq.drew.alloc (scrO scr0 none 0)) A s.l from ((unhide HOd).ckR.other (n := 5) Ck.cs_len (by omega) (Nat.le_refl wq.drew.heap.size)).keep bxv21)
                  clear bxv21
                  refine wpAnyH_one (i := 2) (by kernel_rfl) rfl (fun K hK => ?_)
                  go_simp
                  go_at_call 14
                  refine (range_any _ _ 1 20 _ (unhide HOv21).src (by omega) (by omega) (by omega)).mono ?_
                  rintro e wav22 ⟨im, rfl, im0, im1, hsa, hga⟩
                  try go_simp
                  have HOv22 := hide ((unhide HOv21).reads hsa hga)
                  have HGv22 := hide (heap_reads (unhide HGv21) hga (by have := unhide HXO; have := (unhide HOq).lt; omega))
                  have HNv22 := hide (heap_reads (unhide HNv21) hga (by have h : w.heap.size < wq.heap.size := (unhide HOq).toOvS.szR; omega))
                  have HAv22 := hide ((unhide HAv21).grown2 (unhide HOv21).ckR hga)
                  refine hK _ _ ⟨(unhide HOv22).box, ?_⟩
                  clear hK K hsa hga
                  refine wpAnyH_one (i := 4) (by kernel_rfl) rfl (fun K hK => ?_)
                  go_simp
                  go_at_call 11
                  refine (n_any _ _ 3 _ (unhide HOv22).src (by omega) (by omega)).mono ?_
                  rintro e wav23 ⟨q, rfl, q0, q1, hsa, hga⟩
                  try go_simp
                  have HOv23 := hide ((unhide HOv22).reads hsa hga)
                  have HGv23 := hide (heap_reads (unhide HGv22) hga (by have := unhide HXO; have := (unhide HOq).lt; omega))
                  have HNv23 := hide (heap_reads (unhide HNv22) hga (by have h : w.heap.size < wq.heap.size := (unhide HOq).toOvS.szR; omega))
                  have HAv23 := hide ((unhide HAv22).grown2 (unhide HOv22).ckR hga)
                  refine hK _ _ ⟨(unhide HOv23).box, ?_⟩
                  clear hK K hsa hga
                  refine wpAnyH_take (i := 5) (v := .bool (q == 0)) rfl (by kernel_rfl) (by kernel_rfl) (by kernel_rfl) (fun _ _ _ h => h) (Or.inl ⟨by rfl, by intro w _; go_simp⟩) ((unhide HOv23).box) ?_
                  go_simp
                  refine wpAnyH_one (i := 7) (by kernel_rfl) rfl (fun K hK => ?_)
                  go_simp
                  go_at_call 19
                  refine ((unhide HP).verdict w.heap.size s im (q == 0) t A c _ (unhide HOv23).val (unhide HOv23).ckR (unhide HOv23).cap).mono ?_
                  rintro e wbv24 ⟨A', c', rfl, hC, hb, hcap⟩
                  try go_simp
                  have HObv24 := hide ((unhide HOv23).below hb)
                  have HNbv24 := hide (heap_below (unhide HNv23) hb)
                  refine hK _ _ ⟨(unhide HObv24).box, ?_⟩
                  clear hK K
                  refine wpAnyH_take (i := 8) (v := .tuple #[scrV (verS s im (q == 0) t) A' c', .int .i64 (verBag s im (q == 0) t), .int .i64 (verE s im (q == 0) t)]) rfl (by kernel_rfl) (by kernel_rfl) (by kernel_rfl) (fun _ _ _ h => h) (Or.inl ⟨by rfl, by intro w _; go_simp⟩) ((unhide HObv24).box) ?_
                  refine wpAnyH_take (i := 9) (v := scrV (verS s im (q == 0) t) A' c') rfl (by kernel_rfl) (by kernel_rfl) (by kernel_rfl) (fun _ _ _ h => h) (Or.inl ⟨by rfl, by intro w _; go_simp⟩) ((unhide HObv24).box) ?_
                  refine wpAnyH_take (i := 10) (v := .int .i64 (verBag s im (q == 0) t)) rfl (by kernel_rfl) (by kernel_rfl) (by kernel_rfl) (fun _ _ _ h => h) (Or.inl ⟨by rfl, by intro w _; go_simp⟩) ((unhide HObv24).box) ?_
                  refine wpAnyH_take (i := 11) (v := .int .i64 (verE s im (q == 0) t)) rfl (by kernel_rfl) (by kernel_rfl) (by kernel_rfl) (fun _ _ _ h => h) (Or.inl ⟨by rfl, by intro w _; go_simp⟩) ((unhide HObv24).box) ?_
                  go_simp
                  have HM0 := hide (OvM.early (Gn := wq.heap.size) (unhide HOv23) (unhide HGv23) (unhide HNv23) (by exact (unhide HOq).toOvS.szX) (by exact (Array.getElem?_eq_some_iff.1 (unhide HGq)).1) (unhide HAv23) hb hC hcap)
                  refine wpAnyH_one (i := 13) (by kernel_rfl) rfl (fun K hK => ?_)
                  rw [if_pos (by rfl)]
                  refine wp_store_row _ _ _ rfl (wq.heap.size) (scrA (verS s im (q == 0) t) A' c') rfl rfl 28 _ (unhide HNbv24) infoS rfl (scr_all _ _ _) ?_
                  refine hK _ _ ⟨(unhide HM0).st.box, ?_⟩
                  clear hK K
                  refine wpAnyH_take (i := 14) (v := .int .i64 (verBag s im (q == 0) t)) rfl (by kernel_rfl) (by kernel_rfl) (by kernel_rfl) (fun _ _ _ h => h) (Or.inl ⟨by rfl, by intro w _; go_simp⟩) ((unhide HM0).st.box) ?_
                  refine wpAnyH_take (i := 15) (v := .int .i64 (verE s im (q == 0) t)) rfl (by kernel_rfl) (by kernel_rfl) (by kernel_rfl) (fun _ _ _ h => h) (Or.inl ⟨by rfl, by intro w _; go_simp⟩) ((unhide HM0).st.box) ?_
                  refine wpAnyH_done (by kernel_rfl) ?_ _
                  go_simp
                  have HM1 := hide (show True ∧ OvM w w.heap.size w6.heap.size O ob (wq.heap.size) s A c (verS s im (q == 0) t) A' c' (wbv24.setRow (wq.heap.size) (scrA (verS s im (q == 0) t) A' c')) from ⟨trivial, unhide HM0⟩)
                  clear HM0 HObv24 hb hC HNbv24 HNv23 HAv23
                  generalize wbv24.setRow (wq.heap.size) (scrA (verS s im (q == 0) t) A' c') = Wf at *
                  generalize wq.heap.size = Gn at *
                  exact hM im q Gn A' c' Wf (unhide HM1)
                case' refine_1 =>
                  go_simp
                  go_at_call 14
                  refine (range_any _ _ 1 20 _ (unhide HOd).src (by omega) (by omega) (by omega)).mono ?_
                  rintro e wav25 ⟨im, rfl, im0, im1, hsa, hga⟩
                  try go_simp
                  have HOv25 := hide ((unhide HOd).reads hsa hga)
                  have HGv25 := hide (heap_reads (unhide HGd) hga (by have := unhide HXO; have := (unhide HOq).lt; omega))
                  refine hK _ _ ⟨(unhide HOv25).box, ?_⟩
                  clear hK K hsa hga
                  refine wpAnyH_two (i := 4) (j := 12) (by kernel_rfl) rfl rfl (fun K hK => ?_) (fun K hK => ?_)
                  case' refine_2 =>
                    go_simp
                    refine hK _ _ ⟨heap_later (unhide HOv25).box _, ?_⟩
                    clear hK K
                    have bxv26 := (Below.refl wav25.heap.size wav25).alloc (Nat.le_refl _) (scrO scr0 none 0)
                    have HOv26 := hide ((unhide HOv25).below bxv26)
                    have HGv26 := hide (heap_below (unhide HGv25) bxv26)
                    have HNv26 := hide (show (wav25.alloc (scrO scr0 none 0)).heap[wav25.heap.size]? = some (scrO scr0 none 0) from heap_alloc_new wav25 (scrO scr0 none 0))
                    have HAv26 := hide (show CksIn wav25.heap.size (wav25.alloc (scrO scr0 none 0)) A s.l from ((unhide HOv25).ckR.other (n := 5) Ck.cs_len (by omega) (Nat.le_refl wav25.heap.size)).keep bxv26)
                    clear bxv26
                    refine wpAnyH_one (i := 4) (by kernel_rfl) rfl (fun K hK => ?_)
                    go_simp
                    go_at_call 11
                    refine (n_any _ _ 3 _ (unhide HOv26).src (by omega) (by omega)).mono ?_
                    rintro e wav27 ⟨q, rfl, q0, q1, hsa, hga⟩
                    try go_simp
                    have HOv27 := hide ((unhide HOv26).reads hsa hga)
                    have HGv27 := hide (heap_reads (unhide HGv26) hga (by have := unhide HXO; have := (unhide HOq).lt; omega))
                    have HNv27 := hide (heap_reads (unhide HNv26) hga (by have h : w.heap.size < wq.heap.size := (unhide HOq).toOvS.szR; have h9 := (unhide HOv25).toOvS.szR; omega))
                    have HAv27 := hide ((unhide HAv26).grown2 (unhide HOv26).ckR hga)
                    refine hK _ _ ⟨(unhide HOv27).box, ?_⟩
                    clear hK K hsa hga
                    refine wpAnyH_take (i := 5) (v := .bool (q == 0)) rfl (by kernel_rfl) (by kernel_rfl) (by kernel_rfl) (fun _ _ _ h => h) (Or.inl ⟨by rfl, by intro w _; go_simp⟩) ((unhide HOv27).box) ?_
                    go_simp
                    refine wpAnyH_one (i := 7) (by kernel_rfl) rfl (fun K hK => ?_)
                    go_simp
                    go_at_call 19
                    refine ((unhide HP).verdict w.heap.size s im (q == 0) t A c _ (unhide HOv27).val (unhide HOv27).ckR (unhide HOv27).cap).mono ?_
                    rintro e wbv28 ⟨A', c', rfl, hC, hb, hcap⟩
                    try go_simp
                    have HObv28 := hide ((unhide HOv27).below hb)
                    have HNbv28 := hide (heap_below (unhide HNv27) hb)
                    refine hK _ _ ⟨(unhide HObv28).box, ?_⟩
                    clear hK K
                    refine wpAnyH_take (i := 8) (v := .tuple #[scrV (verS s im (q == 0) t) A' c', .int .i64 (verBag s im (q == 0) t), .int .i64 (verE s im (q == 0) t)]) rfl (by kernel_rfl) (by kernel_rfl) (by kernel_rfl) (fun _ _ _ h => h) (Or.inl ⟨by rfl, by intro w _; go_simp⟩) ((unhide HObv28).box) ?_
                    refine wpAnyH_take (i := 9) (v := scrV (verS s im (q == 0) t) A' c') rfl (by kernel_rfl) (by kernel_rfl) (by kernel_rfl) (fun _ _ _ h => h) (Or.inl ⟨by rfl, by intro w _; go_simp⟩) ((unhide HObv28).box) ?_
                    refine wpAnyH_take (i := 10) (v := .int .i64 (verBag s im (q == 0) t)) rfl (by kernel_rfl) (by kernel_rfl) (by kernel_rfl) (fun _ _ _ h => h) (Or.inl ⟨by rfl, by intro w _; go_simp⟩) ((unhide HObv28).box) ?_
                    refine wpAnyH_take (i := 11) (v := .int .i64 (verE s im (q == 0) t)) rfl (by kernel_rfl) (by kernel_rfl) (by kernel_rfl) (fun _ _ _ h => h) (Or.inl ⟨by rfl, by intro w _; go_simp⟩) ((unhide HObv28).box) ?_
                    go_simp
                    have HM0 := hide (OvM.early (Gn := wav25.heap.size) (unhide HOv27) (unhide HGv27) (unhide HNv27) (by exact (unhide HOv25).toOvS.szX) (by exact (Array.getElem?_eq_some_iff.1 (unhide HGv25)).1) (unhide HAv27) hb hC hcap)
                    refine wpAnyH_one (i := 13) (by kernel_rfl) rfl (fun K hK => ?_)
                    rw [if_pos (by rfl)]
                    refine wp_store_row _ _ _ rfl (wav25.heap.size) (scrA (verS s im (q == 0) t) A' c') rfl rfl 28 _ (unhide HNbv28) infoS rfl (scr_all _ _ _) ?_
                    refine hK _ _ ⟨(unhide HM0).st.box, ?_⟩
                    clear hK K
                    refine wpAnyH_take (i := 14) (v := .int .i64 (verBag s im (q == 0) t)) rfl (by kernel_rfl) (by kernel_rfl) (by kernel_rfl) (fun _ _ _ h => h) (Or.inl ⟨by rfl, by intro w _; go_simp⟩) ((unhide HM0).st.box) ?_
                    refine wpAnyH_take (i := 15) (v := .int .i64 (verE s im (q == 0) t)) rfl (by kernel_rfl) (by kernel_rfl) (by kernel_rfl) (fun _ _ _ h => h) (Or.inl ⟨by rfl, by intro w _; go_simp⟩) ((unhide HM0).st.box) ?_
                    refine wpAnyH_done (by kernel_rfl) ?_ _
                    go_simp
                    have HM1 := hide (show True ∧ OvM w w.heap.size w6.heap.size O ob (wav25.heap.size) s A c (verS s im (q == 0) t) A' c' (wbv28.setRow (wav25.heap.size) (scrA (verS s im (q == 0) t) A' c')) from ⟨trivial, unhide HM0⟩)
                    clear HM0 HObv28 hb hC HNbv28 HNv27 HAv27
                    generalize wbv28.setRow (wav25.heap.size) (scrA (verS s im (q == 0) t) A' c') = Wf at *
                    generalize wav25.heap.size = Gn at *
                    exact hM im q Gn A' c' Wf (unhide HM1)
                  case' refine_1 =>
                    go_simp
                    go_at_call 11
                    refine (n_any _ _ 3 _ (unhide HOv25).src (by omega) (by omega)).mono ?_
                    rintro e wav29 ⟨q, rfl, q0, q1, hsa, hga⟩
                    try go_simp
                    have HOv29 := hide ((unhide HOv25).reads hsa hga)
                    have HGv29 := hide (heap_reads (unhide HGv25) hga (by have := unhide HXO; have := (unhide HOq).lt; omega))
                    refine hK _ _ ⟨(unhide HOv29).box, ?_⟩
                    clear hK K hsa hga
                    refine wpAnyH_take (i := 5) (v := .bool (q == 0)) rfl (by kernel_rfl) (by kernel_rfl) (by kernel_rfl) (fun _ _ _ h => h) (Or.inl ⟨by rfl, by intro w _; go_simp⟩) ((unhide HOv29).box) ?_
                    go_simp
                    refine wpAnyH_two (i := 7) (j := 12) (by kernel_rfl) rfl rfl (fun K hK => ?_) (fun K hK => ?_)
                    case' refine_2 =>
                      go_simp
                      refine hK _ _ ⟨heap_later (unhide HOv29).box _, ?_⟩
                      clear hK K
                      have bxv210 := (Below.refl wav29.heap.size wav29).alloc (Nat.le_refl _) (scrO scr0 none 0)
                      have HOv210 := hide ((unhide HOv29).below bxv210)
                      have HGv210 := hide (heap_below (unhide HGv29) bxv210)
                      have HNv210 := hide (show (wav29.alloc (scrO scr0 none 0)).heap[wav29.heap.size]? = some (scrO scr0 none 0) from heap_alloc_new wav29 (scrO scr0 none 0))
                      have HAv210 := hide (show CksIn wav29.heap.size (wav29.alloc (scrO scr0 none 0)) A s.l from ((unhide HOv29).ckR.other (n := 5) Ck.cs_len (by omega) (Nat.le_refl wav29.heap.size)).keep bxv210)
                      clear bxv210
                      refine wpAnyH_one (i := 7) (by kernel_rfl) rfl (fun K hK => ?_)
                      go_simp
                      go_at_call 19
                      refine ((unhide HP).verdict w.heap.size s im (q == 0) t A c _ (unhide HOv210).val (unhide HOv210).ckR (unhide HOv210).cap).mono ?_
                      rintro e wbv211 ⟨A', c', rfl, hC, hb, hcap⟩
                      try go_simp
                      have HObv211 := hide ((unhide HOv210).below hb)
                      have HNbv211 := hide (heap_below (unhide HNv210) hb)
                      refine hK _ _ ⟨(unhide HObv211).box, ?_⟩
                      clear hK K
                      refine wpAnyH_take (i := 8) (v := .tuple #[scrV (verS s im (q == 0) t) A' c', .int .i64 (verBag s im (q == 0) t), .int .i64 (verE s im (q == 0) t)]) rfl (by kernel_rfl) (by kernel_rfl) (by kernel_rfl) (fun _ _ _ h => h) (Or.inl ⟨by rfl, by intro w _; go_simp⟩) ((unhide HObv211).box) ?_
                      refine wpAnyH_take (i := 9) (v := scrV (verS s im (q == 0) t) A' c') rfl (by kernel_rfl) (by kernel_rfl) (by kernel_rfl) (fun _ _ _ h => h) (Or.inl ⟨by rfl, by intro w _; go_simp⟩) ((unhide HObv211).box) ?_
                      refine wpAnyH_take (i := 10) (v := .int .i64 (verBag s im (q == 0) t)) rfl (by kernel_rfl) (by kernel_rfl) (by kernel_rfl) (fun _ _ _ h => h) (Or.inl ⟨by rfl, by intro w _; go_simp⟩) ((unhide HObv211).box) ?_
                      refine wpAnyH_take (i := 11) (v := .int .i64 (verE s im (q == 0) t)) rfl (by kernel_rfl) (by kernel_rfl) (by kernel_rfl) (fun _ _ _ h => h) (Or.inl ⟨by rfl, by intro w _; go_simp⟩) ((unhide HObv211).box) ?_
                      go_simp
                      have HM0 := hide (OvM.early (Gn := wav29.heap.size) (unhide HOv210) (unhide HGv210) (unhide HNv210) (by exact (unhide HOv29).toOvS.szX) (by exact (Array.getElem?_eq_some_iff.1 (unhide HGv29)).1) (unhide HAv210) hb hC hcap)
                      refine wpAnyH_one (i := 13) (by kernel_rfl) rfl (fun K hK => ?_)
                      rw [if_pos (by rfl)]
                      refine wp_store_row _ _ _ rfl (wav29.heap.size) (scrA (verS s im (q == 0) t) A' c') rfl rfl 28 _ (unhide HNbv211) infoS rfl (scr_all _ _ _) ?_
                      refine hK _ _ ⟨(unhide HM0).st.box, ?_⟩
                      clear hK K
                      refine wpAnyH_take (i := 14) (v := .int .i64 (verBag s im (q == 0) t)) rfl (by kernel_rfl) (by kernel_rfl) (by kernel_rfl) (fun _ _ _ h => h) (Or.inl ⟨by rfl, by intro w _; go_simp⟩) ((unhide HM0).st.box) ?_
                      refine wpAnyH_take (i := 15) (v := .int .i64 (verE s im (q == 0) t)) rfl (by kernel_rfl) (by kernel_rfl) (by kernel_rfl) (fun _ _ _ h => h) (Or.inl ⟨by rfl, by intro w _; go_simp⟩) ((unhide HM0).st.box) ?_
                      refine wpAnyH_done (by kernel_rfl) ?_ _
                      go_simp
                      have HM1 := hide (show True ∧ OvM w w.heap.size w6.heap.size O ob (wav29.heap.size) s A c (verS s im (q == 0) t) A' c' (wbv211.setRow (wav29.heap.size) (scrA (verS s im (q == 0) t) A' c')) from ⟨trivial, unhide HM0⟩)
                      clear HM0 HObv211 hb hC HNbv211 HNv210 HAv210
                      generalize wbv211.setRow (wav29.heap.size) (scrA (verS s im (q == 0) t) A' c') = Wf at *
                      generalize wav29.heap.size = Gn at *
                      exact hM im q Gn A' c' Wf (unhide HM1)
                    case' refine_1 =>
                      go_simp
                      go_at_call 19
                      refine ((unhide HP).verdict w.heap.size s im (q == 0) t A c _ (unhide HOv29).val (unhide HOv29).ckR (unhide HOv29).cap).mono ?_
                      rintro e wbv212 ⟨A', c', rfl, hC, hb, hcap⟩
                      try go_simp
                      have HObv212 := hide ((unhide HOv29).below hb)
                      refine hK _ _ ⟨(unhide HObv212).box, ?_⟩
                      clear hK K
                      refine wpAnyH_take (i := 8) (v := .tuple #[scrV (verS s im (q == 0) t) A' c', .int .i64 (verBag s im (q == 0) t), .int .i64 (verE s im (q == 0) t)]) rfl (by kernel_rfl) (by kernel_rfl) (by kernel_rfl) (fun _ _ _ h => h) (Or.inl ⟨by rfl, by intro w _; go_simp⟩) ((unhide HObv212).box) ?_
                      refine wpAnyH_take (i := 9) (v := scrV (verS s im (q == 0) t) A' c') rfl (by kernel_rfl) (by kernel_rfl) (by kernel_rfl) (fun _ _ _ h => h) (Or.inl ⟨by rfl, by intro w _; go_simp⟩) ((unhide HObv212).box) ?_
                      refine wpAnyH_take (i := 10) (v := .int .i64 (verBag s im (q == 0) t)) rfl (by kernel_rfl) (by kernel_rfl) (by kernel_rfl) (fun _ _ _ h => h) (Or.inl ⟨by rfl, by intro w _; go_simp⟩) ((unhide HObv212).box) ?_
                      refine wpAnyH_take (i := 11) (v := .int .i64 (verE s im (q == 0) t)) rfl (by kernel_rfl) (by kernel_rfl) (by kernel_rfl) (fun _ _ _ h => h) (Or.inl ⟨by rfl, by intro w _; go_simp⟩) ((unhide HObv212).box) ?_
                      go_simp
                      refine wpAnyH_one (i := 12) (by kernel_rfl) rfl (fun K hK => ?_)
                      go_simp
                      refine hK _ _ ⟨heap_later (unhide HObv212).box _, ?_⟩
                      clear hK K
                      refine wpAnyH_one (i := 13) (by kernel_rfl) rfl (fun K hK => ?_)
                      go_simp
                      have HM0 := hide (OvM.late (unhide HOv29) (unhide HGv29) hb hC hcap)
                      refine hK _ _ ⟨(unhide HM0).st.box, ?_⟩
                      clear hK K
                      refine wpAnyH_take (i := 14) (v := .int .i64 (verBag s im (q == 0) t)) rfl (by kernel_rfl) (by kernel_rfl) (by kernel_rfl) (fun _ _ _ h => h) (Or.inl ⟨by rfl, by intro w _; go_simp⟩) ((unhide HM0).st.box) ?_
                      refine wpAnyH_take (i := 15) (v := .int .i64 (verE s im (q == 0) t)) rfl (by kernel_rfl) (by kernel_rfl) (by kernel_rfl) (fun _ _ _ h => h) (Or.inl ⟨by rfl, by intro w _; go_simp⟩) ((unhide HM0).st.box) ?_
                      refine wpAnyH_done (by kernel_rfl) ?_ _
                      go_simp
                      have HM1 := hide (show True ∧ OvM w w.heap.size w6.heap.size O ob wbv212.heap.size s A c (verS s im (q == 0) t) A' c' (wbv212.alloc (scrO (verS s im (q == 0) t) A' c')) from ⟨trivial, unhide HM0⟩)
                      clear HM0 HObv212 hb hC
                      generalize wbv212.alloc (scrO (verS s im (q == 0) t) A' c') = Wf at *
                      generalize wbv212.heap.size = Gn at *
                      exact hM im q Gn A' c' Wf (unhide HM1)
              intro im q Gn A' c' W ⟨_, hN⟩
              have HM := hide hN
              have HGn := hide hN.box
              have HBX := hide hN.st.box
              clear hN
              by_cases he : verE s im (q == 0) t = 0
              · have HE := hide he
                have HS := hide (verS_valid (unhide HOq).val he)
                rw [he]
                clear he
                go_wp2_with (first
                  | (refine wpList_loadS (unhide HGn) rfl _ rfl rfl ?_)
                  | (refine wpList_storeS (unhide HBX) rfl _ _ rfl rfl rfl ?_))
                go_meet
                case rel => exact ⟨_, _, _, hide (OvI.put (unhide HM).st (unhide HM).nR (unhide HM).nX (unhide HM).nO (unhide HM).cap (unhide HS)), hide (by rw [setRow_other _ _ _ _ (by have := unhide HXO; omega)]; exact (unhide HM).old), hide ((unhide HI).ver (unhide HE))⟩
              · have hne : (verE s im (q == 0) t == 0) = false := by rw [beq_eq_false_iff_ne]; exact he
                clear he
                generalize verE s im (q == 0) t = ev at *
                go_wp2
                go_meet
                case rel => exact ⟨s, A, c, hide (unhide HM).st, hide (unhide HM).old, HI⟩
        case rest =>
          as_aux_lemma =>
            obtain ⟨s', A', c', HO2, HW2, HI2⟩ := hcut
            clear HOq HGq
            rw [← unhide HOB] at HW2
            have HW2 := hide (unhide HW2)
            clear HI
            go_wp2_with fail
            go_loopw [16] (fun kv wr => ∃ (k : Nat) (cs : Array Value) (own : Nat → Int × Int), k ≤ s'.l.length ∧ kv = .int .i64 k ∧ Hid (OvI w w.heap.size w6.heap.size O s' A' c' wr) ∧ Hid (wr.heap[O]? = some (ownO cs)) ∧ Hid (CsO cs own) ∧ Hid (ImI s' own)) (fun kv _ => s'.l.length - (intOf kv).toNat)
            case atStart => exact ⟨0, cs, own, Nat.zero_le _, rfl, HO2, HW2, HCs, HI2⟩
            case round =>
              obtain ⟨k, cs2, own2, hk, rfl, HOj, HWj, HCj, HIj⟩ := hrel
              obtain ⟨wj, rfl⟩ : ∃ wj : World, wj = wr := ⟨_, rfl⟩
              clear HO2 HW2 HCs HI2 HOB
              have hz40 := (unhide HOj).val.len
              have z5 : wj.cell? ⟨w6.heap.size, 5, none⟩ = some (.slice A' s'.l.length c') := by rw [Lib.cell_of_heap (unhide HOj).box]; rfl
              by_cases hlk : k < s'.l.length
              · have kl : (k : Int) < (s'.l.length : Int) := by omega
                have k0 : (0 : Int) ≤ (k : Int) := by omega
                obtain ⟨g, off, rfl, _, hcc⟩ := ck_at (unhide HOj).ckR hlk
                obtain ⟨x, hx⟩ : ∃ x, s'.l.getD k ck0 = x := ⟨_, rfl⟩
                rw [hx] at hcc
                have hxm : x ∈ s'.l := by rw [← hx]; exact getD_mem hlk
                obtain ⟨⟨i1, i2, i3⟩, i4⟩ := (unhide HIj).look hxm
                obtain ⟨m, hm⟩ : ∃ m : Nat, x.im = (m : Int) := ⟨x.im.toNat, by omega⟩
                have hmn : x.im.toNat = m := by omega
                rw [hmn] at i4
                rw [hm] at i1 i2 i3
                have hbg := ((unhide HOj).val.ok x hxm).1
                have HIp := hide ((unhide HIj).put hxm)
                rw [hmn] at HIp
                have HIp := hide (unhide HIp)
                have m80 : m < 80 := by omega
                have HCp := hide ((unhide HCj).put m80 (x.bag, x.lv))
                obtain ⟨o0, o1⟩ := (unhide HCj).2 m m80
                have HCC := hide hcc
                have HLK := hide hlk
                have HOK := hide i4
                obtain ⟨w1, hw1⟩ : ∃ w1 : World, wj.alloc (.cells x.arr 42) = w1 := ⟨_, rfl⟩
                have b1 : Below wj.heap.size wj w1 := by rw [← hw1]; exact (Below.refl _ _).alloc (Nat.le_refl _) _
                have hxb1 : w1.heap[wj.heap.size]? = some (.cells x.arr 42) := by rw [← hw1]; exact heap_alloc_new wj _
                obtain ⟨w2, hw2⟩ : ∃ w2 : World, w1.alloc (.cells #[.int .i64 x.bag, .int .i64 x.lv] 54) = w2 := ⟨_, rfl⟩
                have b2 : Below w1.heap.size w1 w2 := by rw [← hw2]; exact (Below.refl _ _).alloc (Nat.le_refl _) _
                have hxb2 := heap_below hxb1 b2
                have hib2 : w2.heap[w1.heap.size]? = some (.cells #[.int .i64 x.bag, .int .i64 x.lv] 54) := by rw [← hw2]; exact heap_alloc_new w1 _
                have hob2 := heap_below (heap_below (unhide HWj) b1) b2
                have z4 : w1.cell? ⟨w6.heap.size, 4, none⟩ = some (.int .i64 s'.next) := by rw [Lib.cell_of_heap (heap_below (unhide HOj).box b1)]; rfl
                have p0 : w1.cell? ⟨wj.heap.size, 0, none⟩ = some (.int .i64 x.bag) := by rw [Lib.cell_of_heap hxb1]; rfl
                have p1 : w1.cell? ⟨wj.heap.size, 1, none⟩ = some (.int .i64 x.lv) := by rw [Lib.cell_of_heap hxb1]; rfl
                have p3 : w1.cell? ⟨wj.heap.size, 3, none⟩ = some (.int .i64 (m : Int)) := by rw [Lib.cell_of_heap hxb1, ← hm]; rfl
                have r3 : w2.cell? ⟨wj.heap.size, 3, none⟩ = some (.int .i64 (m : Int)) := kept b2 p3
                have r0 : w2.cell? ⟨w1.heap.size, 0, none⟩ = some (.int .i64 x.bag) := by rw [Lib.cell_of_heap hib2]; rfl
                have r1 : w2.cell? ⟨w1.heap.size, 1, none⟩ = some (.int .i64 x.lv) := by rw [Lib.cell_of_heap hib2]; rfl
                have q0 : w2.cell? ⟨O, m * 2, none⟩ = some (.int .i64 (own2 m).1) := by rw [Lib.cell_of_heap hob2]; exact o0
                have q1 : w2.cell? ⟨O, m * 2 + 1, none⟩ = some (.int .i64 (own2 m).2) := by rw [Lib.cell_of_heap hob2]; exact o1
                have f0 := Lib.frozen_of_heap hob2 (m * 2)
                have f1 := Lib.frozen_of_heap hob2 (m * 2 + 1)
                have m0 : (0 : Int) ≤ (m : Int) := by omega
                have HO2 := hide ((unhide HOj).below (onward b1 b2))
                have HW2 := hide hob2
                have HXI := hide (show w1.heap.size ≠ O ∧ wj.heap.size ≠ O from by
                  have h1 := (Array.getElem?_eq_some_iff.1 (unhide HWj)).1
                  have h2 := b1.size
                  omega)
                clear hcc hx hxm hlk hm hmn o0 o1 b1 hxb1 b2 hxb2 hib2 hob2 i4 HCj HIj HWj
                go_upto_region 27 with (first
                  | ((with_reducible show wpList _ _ _ _ _ wj); refine wpList_load_at rfl _ _ rfl g (off + k * 5) rfl x.arr _ (unhide HCC) Try.underlying42 rfl infoC ?_)
                  | ((with_reducible show wpList _ _ _ _ _ (wj.alloc _)); refine wpList_storeCn rfl x rfl _ _ rfl rfl rfl rfl ?_))
                clear HCC z5
                go_upto_region 30 with fail
                have hneq := neq2
                rcases unhide HOK with e4 | e4
                · have e5 : (own2 m).1 = 0 := by rw [e4]
                  have e6 : (own2 m).2 = 0 := by rw [e4]
                  rw [e5] at q0
                  rw [e6] at q1
                  clear e4 e5 e6 HOK
                  go_quiet (fail)
                  clear hneq
                  have HO4 := hide ((((unhide HO2).below (show Below w2.heap.size w2 (w2.drewN nq) from ⟨rfl, rfl, rfl, Nat.le_refl _, fun _ _ => rfl⟩)).own (unhide HXO) (m * 2) (.int .i64 x.bag)).own (unhide HXO) (m * 2 + 1) (.int .i64 x.lv))
                  have HW4 := hide (heap_set (heap_set (show (w2.drewN nq).heap[O]? = some (ownO cs2) from unhide HW2) (i := m * 2) (.int .i64 x.bag)) (i := m * 2 + 1) (.int .i64 x.lv))
                  go_wp2
                  go_roundw
                  case rel => exact ⟨k + 1, _, _, by have := unhide HLK; omega, by go_num, HO4, HW4, HCp, HIp⟩
                  case measure => simp [intOf]; have := unhide HLK; omega
                · have e5 : (own2 m).1 = x.bag := by rw [e4]
                  have e6 : (own2 m).2 = x.lv := by rw [e4]
                  rw [e5] at q0
                  rw [e6] at q1
                  have hb0 : (x.bag == 0) = false := by rw [beq_eq_false_iff_ne]; omega
                  clear e4 e5 e6 HOK
                  go_quiet (fail)
                  clear hneq
                  have HO4 := hide ((((unhide HO2).below (show Below w2.heap.size w2 (w2.drewN nq) from ⟨rfl, rfl, rfl, Nat.le_refl _, fun _ _ => rfl⟩)).own (unhide HXO) (m * 2) (.int .i64 x.bag)).own (unhide HXO) (m * 2 + 1) (.int .i64 x.lv))
                  have HW4 := hide (heap_set (heap_set (show (w2.drewN nq).heap[O]? = some (ownO cs2) from unhide HW2) (i := m * 2) (.int .i64 x.bag)) (i := m * 2 + 1) (.int .i64 x.lv))
                  go_wp2
                  go_roundw
                  case rel => exact ⟨k + 1, _, _, by have := unhide HLK; omega, by go_num, HO4, HW4, HCp, HIp⟩
                  case measure => simp [intOf]; have := unhide HLK; omega
              · have kl : ¬ (k : Int) < (s'.l.length : Int) := by omega
                go_wp2
                go_roundw
                case rel => exact ⟨i + 1, t, s', A', c', cs2, own2, by omega, ht0, by omega, rfl, by go_num, HOj, HWj, HCj, HIj⟩
                case measure => simp [intOf]; omega
    · have il : ¬ (i : Int) < 30 := by omega
      go_wp2_with (go_at_call 29; refine (awake_scr (unhide HP) _).mono ?_; rintro e wz ⟨rfl, hbz⟩; have HBZ := hide (onward (unhide HO).bel hbz); clear hbz)
      go_ret
      exact ⟨rfl, unhide HBZ⟩
end Go.Proofs.Ytdhkhkcijffbiaa
