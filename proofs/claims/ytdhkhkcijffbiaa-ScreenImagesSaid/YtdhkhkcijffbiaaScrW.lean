/-
  Screening (layer 15): the program's Verdict.
-/
import Derived.Test.YtdhkhkcijffbiaaScrV
import Derived.Test.YtdhkhkcijffbiaaShelf3
namespace Go.Proofs.Ytdhkhkcijffbiaa
open Go.RowKit

instance : Inhabited Ck := ⟨ck0⟩
def pV (image : Int) (x : Ck) : Bool := decide (x.st = 1) && decide (x.im = image)
theorem vd1_any (image : Int) (x : Ck) (q : Nat) (W : World) (hq : W.cell? ⟨q, 0, none⟩ = some (.int .i64 image)) :
    Calls Try.prog 42 #[x.v, .pointer (some ⟨q, 0, none⟩)] W fun e w' => e = .returned (.bool (pV image x)) ∧ Below W.heap.size W w' := by
  have hx := heap_alloc_new W (.cells x.arr 42)
  have z3 : (W.alloc (.cells x.arr 42)).cell? ⟨W.heap.size, 3, none⟩ = some (.int .i64 x.im) := by rw [Lib.cell_of_heap hx]; rfl
  have z4 : (W.alloc (.cells x.arr 42)).cell? ⟨W.heap.size, 4, none⟩ = some (.int .i64 x.st) := by rw [Lib.cell_of_heap hx]; rfl
  have b1 := (Below.refl W.heap.size W).alloc (Nat.le_refl _) (.cells x.arr 42)
  have zq := kept b1 hq
  have B1 := hide b1
  clear b1 hq hx
  by_cases h1 : x.st = 1
  · have t1 : (x.st == 1) = true := by rw [beq_iff_eq]; exact h1
    by_cases h2 : x.im = image
    · have t2 : (x.im == image) = true := by rw [beq_iff_eq]; exact h2
      have HP := hide (show pV image x = true by unfold pV; rw [decide_eq_true h1, decide_eq_true h2]; rfl)
      clear h1 h2
      go_enter Try.func42, Try.ntmps42
      go_wp2
      go_ret
      exact ⟨by rw [unhide HP]; rfl, unhide B1⟩
    · have t2 : (x.im == image) = false := by rw [beq_eq_false_iff_ne]; exact h2
      have HP := hide (show pV image x = false by unfold pV; rw [decide_eq_true h1, decide_eq_false h2]; rfl)
      clear h1 h2
      go_enter Try.func42, Try.ntmps42
      go_wp2
      go_ret
      exact ⟨by rw [unhide HP]; rfl, unhide B1⟩
  · have t1 : (x.st == 1) = false := by rw [beq_eq_false_iff_ne]; exact h1
    have HP := hide (show pV image x = false by unfold pV; rw [decide_eq_false h1]; rfl)
    go_enter Try.func42, Try.ntmps42
    go_wp2
    go_ret
    exact ⟨by rw [unhide HP]; rfl, unhide B1⟩
theorem idx_from (p : Ck → Bool) (d : Ck) : ∀ (l : List Ck) (i : Nat), Lib.idxByFrom (fun _ y => p y) d l i = if l.findIdx p < l.length then ((i + l.findIdx p : Nat) : Int) else -1
  | [], i => by simp [Lib.idxByFrom]
  | y :: l, i => by
    unfold Lib.idxByFrom
    rw [idx_from p d l (i + 1), List.findIdx_cons]
    cases hp : p y with
    | true => simp
    | false =>
      simp only [Bool.false_eq_true, if_false, cond_false, List.length_cons, Nat.add_lt_add_iff_right]
      split
      · congr 1; omega
      · rfl
theorem idx_by (p : Ck → Bool) (d : Ck) (l : List Ck) : Lib.idxBy (fun _ y => p y) l d = if l.findIdx p < l.length then (l.findIdx p : Int) else -1 := by
  unfold Lib.idxBy
  rw [idx_from]
  simp
theorem vIdx_hit {s : Scr} {image now : Int} (h : image < s.next) : vIdx s image now = (expT s now).l.findIdx (pV image) := by
  unfold vIdx
  congr 1
  funext x
  unfold vHit pV
  rw [decide_eq_true h, Bool.and_true]
theorem vIdx_no {s : Scr} {image now : Int} (h : ¬ image < s.next) : ¬ vIdx s image now < (expT s now).l.length := by
  unfold vIdx
  rw [List.findIdx_eq_length.2 (fun x _ => by unfold vHit; rw [decide_eq_false h, Bool.and_false, Bool.and_false])]
  omega

set_option maxRecDepth 100000 in
theorem pidx_any (image : Int) (A : Option Addr) (c : Nat) (l : List Ck) (q B : Nat) (w : World) (hq : w.cell? ⟨q, 0, none⟩ = some (.int .i64 image)) (hown : w.ownsRow B 42 5 (.slice A l.length c) l.length (l.flatMap Ck.cs)) (hl : l.length ≤ 1000) :
    Calls Try.prog 41 #[.slice A l.length c, .func (.func 42) #[] #[.pointer (some ⟨q, 0, none⟩)]] w
      fun e w' => e = .returned (.int .i64 (if l.findIdx (pV image) < l.length then (l.findIdx (pV image) : Int) else -1)) ∧ Below w.heap.size w w' := by
  by_cases h0 : 0 < l.length
  · obtain ⟨g, cur, hA, hb, hg, _, _, hc⟩ := own_cells hown h0
    subst hA
    have eg : ∀ args w, (callFunc 42 args).run Try.prog w = .ok (.enter 42 args) w := enters_of Try.func42 (by kernel_rfl) rfl
    have hcon := Try.slices_IndexFunc 5 Try.isAgg42 Try.sizeOf42 Ck.cs Ck.cs_len (pV image) 42 #[.pointer (some ⟨q, 0, none⟩)] eg g 0 l.length c l w
      (fun W x hb => (vd1_any image x q W (kept hb hq)).mono fun e w' ⟨h1, h2⟩ => ⟨h1, onward hb h2⟩) (Nat.le_refl _) (by omega) (Array.getElem?_eq_some_iff.1 hg).1
      (fun j hj i v hv => by
        rw [Lib.cell_of_heap hg]
        have hi : i < 5 := by have := (List.getElem?_eq_some_iff.1 hv).1; rwa [Ck.cs_len] at this
        refine hc _ _ ?_
        rw [Nat.zero_add, flatK_at Ck.cs 5 Ck.cs_len l j hj i hi]
        rw [getElem!_pos l j hj] at hv
        exact hv)
    rw [List.take_length, idx_by] at hcon
    exact hcon
  · obtain rfl : l = [] := List.eq_nil_of_length_eq_zero (by omega)
    clear hown hq
    go_enter Try.func41, Try.ntmps41
    go_wp2
    go_loop [8] (fun i => i = .int .i64 0) (fun _ => 0)
    case atStart => rfl
    case round =>
      subst hrel
      go_wp2
      go_ret
      exact ⟨rfl, Below.refl _ _⟩
theorem results_row3' {P : Program} {fn : Func} {p q r : Tmp} {ty : TypeId} (h : fn.results = #[.cell p ty, .tmp q, .tmp r]) (tmps : Array Value) (w : World) (g : Nat) (t : TypeId) (cs : Array Value) (fr : Nat × Nat) (d : TypeDesc) (v u : Value)
    (hp : tmps.getD p undef = .pointer (some ⟨g, 0, none⟩)) (hq : tmps.getD q undef = v) (hr : tmps.getD r undef = u) (hg : w.heap[g]? = some (.cells cs t fr))
    (hu : P.underlying ty = some d) (hd : (match d with | .struct _ | .array _ _ => true | _ => false) = true) (hi : (P.info? ty).map (·.size) = some cs.size) :
    (results fn tmps).run P w = .ok (.tuple #[.agg cs, v, u]) w := by
  have hp' : tmps[p]?.getD undef = .pointer (some ⟨g, 0, none⟩) := by simpa using hp
  have hq' : tmps[q]?.getD undef = v := by simpa using hq
  have hr' : tmps[r]?.getD undef = u := by simpa using hr
  simp [results, h, hp', hq', hr', asAddr, run_loadVar_row w g t ty cs fr d hg hu hd hi]
theorem yields_loadSc {ops : Array Oper} {S : World → Prop} {o : Oper} {a : Act} {g : Nat} {s : Scr} {A : Option Addr} {c : Nat} (x : Operand) (ho : o.op = .load 28 x)
    (hx : a.eval x = .pointer (some ⟨g, 0, none⟩)) (hw : Region.wanted o (yielded ops a.tmps) = true) (hS : ∀ w, S w → w.heap[g]? = some (scrO s A c)) : YieldsIf Try.prog ops S o (scrV s A c) a := by
  refine .inl ⟨hw, fun w hs => ?_⟩
  unfold execOp
  simp only [ho, hx, Instr.loadAt, Instr.sureAddr, Sem.run_bind, Sem.run_pure, Result.andThen_ok, run_loadVar_row w g 28 28 _ (0, 0) _ (hS w hs) Try.underlying28 rfl infoS]
theorem OutS.cellx {B ob g c k : Nat} {o : Scr} {W : World} {x : Ck} (h : OutS B ob o (some ⟨g, 0, none⟩) c W) (hk : k < o.l.length) (hx : o.l.getD k ck0 = x) : ∀ j u, x.arr[j]? = some u → W.cell? ⟨g, k * 5 + j, none⟩ = some u := by
  obtain ⟨g', hA, _, hc⟩ := h.row hk
  injection hA with hA; injection hA with hA
  subst hA
  rw [hx] at hc
  exact hc
theorem failE_zero {x : Ck} {n now : Int} (he : failE x n = 0) (hn : n ≤ 1048577) : (failF x n now).2 ≤ 1048577 := by
  unfold failE at he
  unfold failF
  split
  · exact hn
  · rename_i h4
    rw [if_neg h4] at he
    split at he
    · omega
    · simp only []; omega
theorem failE_two {x : Ck} {n now : Int} (he : failE x n = 2) : 1048577 < (failF x n now).2 := by
  unfold failE at he
  unfold failF
  split at he
  · omega
  · rename_i h4
    rw [if_neg h4]
    split at he
    · simp only []; omega
    · omega
/-- A verdict that fails. -/
theorem givesV_no {w W : World} {s : Scr} {image now ev : Int} {clear : Bool} (he : verE s image clear now = ev) (hz : ev ≠ 0) (hb : Below w.heap.size w W) : GivesV3 w (verS s image clear now) (verBag s image clear now) (verE s image clear now) (.returned (.tuple #[scrV scr0 none 0, .int .i64 0, .int .i64 ev])) W := by
  rw [show verS s image clear now = scr0 by unfold verS; rw [if_neg (by rw [he]; exact hz)], show verBag s image clear now = 0 by unfold verBag; rw [if_neg (by rw [he]; exact hz)], he]
  exact ⟨none, 0, rfl, fun _ _ => RowIn.nil, hb, Nat.le_refl _⟩
theorem givesV_ok {w W : World} {B R c : Nat} {o : Scr} {A : Option Addr} {s : Scr} {image now bag : Int} {clear : Bool} (h : UnS w B R o A c W) (he : verE s image clear now = 0) (ho : verS s image clear now = o) (hb : verBag s image clear now = bag) :
    GivesV3 w (verS s image clear now) (verBag s image clear now) (verE s image clear now) (.returned (.tuple #[scrV o A c, .int .i64 bag, .int .i64 0])) (W.setRow R (scrA o A c)) := by
  rw [ho, hb, he]
  exact ⟨A, c, rfl, fun b hb => RowIn.own h.row0 (.inl hb), below_row h.bel (by have := h.hR; omega) _, own_cap h.out.own⟩
theorem verE_exp {s : Scr} {image now : Int} {clear : Bool} (h : expE s now ≠ 0) : verE s image clear now = expE s now := by unfold verE; rw [if_pos h]
theorem verE_miss {s : Scr} {image now : Int} {clear : Bool} (h : expE s now = 0) (hm : ¬ vIdx s image now < (expT s now).l.length) : verE s image clear now = 6 := by
  unfold verE; rw [if_neg (by rw [h]; decide), if_neg hm]
theorem verE_hit {s : Scr} {image now : Int} {clear : Bool} {x : Ck} (h : expE s now = 0) (hm : vIdx s image now < (expT s now).l.length) (hx : (expT s now).l.getD (vIdx s image now) ck0 = x) : verE s image clear now = if 1048577 < (vNew s clear now x).2 then 2 else 0 := by
  unfold verE; rw [if_neg (by rw [h]; decide), if_pos hm, hx]
theorem verS_hit {s : Scr} {image now : Int} {clear : Bool} {x : Ck} (h : verE s image clear now = 0) (hx : (expT s now).l.getD (vIdx s image now) ck0 = x) : verS s image clear now = { expT s now with next := (vNew s clear now x).2, l := (expT s now).l.set (vIdx s image now) (vNew s clear now x).1 } ∧ verBag s image clear now = x.bag := by
  unfold verS verBag
  rw [if_pos h, if_pos h, hx]
  exact ⟨rfl, rfl⟩

set_option maxHeartbeats 4000000 in
set_option maxRecDepth 100000 in
theorem pverdict_any (b : Nat) (s : Scr) (image : Int) (clear : Bool) (now : Int) (A : Option Addr) (c : Nat) (w : World) (hv : ValS s) (h : CksIn b w A s.l) :
    Calls Try.prog 19 #[scrV s A c, .int .i64 image, .bool clear, .int .i64 now] w (GivesV3 w (verS s image clear now) (verBag s image clear now) (verE s image clear now)) := by
  obtain ⟨W1, hW⟩ : ∃ W1 : World, ((w.alloc (scrO s A c)).alloc (.cells #[.int .i64 image] 3)).alloc (.cells zS 28) = W1 := ⟨_, rfl⟩
  have hbel : Below w.heap.size w W1 := by rw [← hW]; exact below_new (below_new (below_new (Below.refl _ _) _) _) _
  have hbx : W1.heap[w.heap.size]? = some (scrO s A c) := by rw [← hW]; exact heap_later (heap_later (heap_alloc_new w _) _) _
  have hbi : W1.heap[w.heap.size + 1]? = some (.cells #[.int .i64 image] 3) := by
    have := heap_later (heap_alloc_new (w.alloc (scrO s A c)) (.cells #[.int .i64 image] 3)) (.cells zS 28)
    rw [World.size_alloc] at this
    rw [← hW]; exact this
  have hrs : W1.heap[w.heap.size + 2]? = some (scrO scr0 none 0) := by
    have := heap_alloc_new ((w.alloc (scrO s A c)).alloc (.cells #[.int .i64 image] 3)) (.cells zS 28)
    rw [World.size_alloc, World.size_alloc] at this
    rw [← hW]; exact this
  have hsz : W1.heap.size = w.heap.size + 3 := by rw [← hW, World.size_alloc, World.size_alloc, World.size_alloc]
  have z4 : W1.cell? ⟨w.heap.size, 4, none⟩ = some (.int .i64 s.next) := by rw [Lib.cell_of_heap hbx]; rfl
  have HB1 := hide hbel
  have HBX := hide hbx
  have HBI := hide hbi
  have HRS := hide hrs
  have HZ := hide hsz
  have HV := hide hv
  have HC := hide (h.keep hbel)
  clear hv h hbel hbx hbi hrs hsz
  go_enter Try.func19, Try.ntmps19
  go_upto_region 3 with (first
    | (refine wpList_loadS (unhide HBX) rfl _ rfl rfl ?_)
    | (go_at_call 17; refine (pexpire_any b s now A c _ (unhide HV) (unhide HC)).mono ?_; rintro e w2 ⟨A2, c2, rfl, hown, hb2⟩; have HOW := hide hown; have HB2 := hide hb2; have HBX2 := hide (heap_below (unhide HBX) hb2); clear hown hb2)
    | (refine wpList_storeS (s := expS s now) (A := A2) (c := c2) (unhide HBX2) rfl _ _ rfl rfl rfl ?_))
  have HRX := hide (show (w2.setRow w.heap.size (scrA (expS s now) A2 c2)).heap[w.heap.size + 2]? = some (scrO scr0 none 0) by rw [setRow_other _ _ _ _ (by omega)]; exact heap_below (unhide HRS) (unhide HB2))
  have HBL := hide (below_row (onward (unhide HB1) (unhide HB2)) (Nat.le_refl _) (scrA (expS s now) A2 c2))
  by_cases hE : expE s now = 0
  · have HE := hide hE
    have HXS := hide (show expS s now = expT s now by unfold expS; rw [if_pos hE])
    rw [unhide HXS, hE]
    have hU : UnS w (w.heap.size + 3) (w.heap.size + 2) (expT s now) A2 c2 (w2.setRow w.heap.size (scrA (expT s now) A2 c2)) := by
      have hO := unhide HOW
      rw [unhide HZ, unhide HXS] at hO
      have hbl := unhide HBL
      have hrx := unhide HRX
      rw [unhide HXS] at hbl hrx
      exact ⟨hbl, ⟨setRow_heap _ _ _ _ _ _ (unhide HBX2), hO.kept (grown_row _ _ _) (.inr (fun e => by have := (hO.lt _ e).1; omega)), by omega⟩, hrx, by omega, by omega⟩
    have hq : (w2.setRow w.heap.size (scrA (expT s now) A2 c2)).cell? ⟨w.heap.size + 1, 0, none⟩ = some (.int .i64 image) := by
      have h1 : (w2.setRow w.heap.size (scrA (expT s now) A2 c2)).heap[w.heap.size + 1]? = some (.cells #[.int .i64 image] 3) := by rw [setRow_other _ _ _ _ (by omega)]; exact heap_below (unhide HBI) (unhide HB2)
      rw [Lib.cell_of_heap h1]; rfl
    have HQ := hide hq
    have HU := hide hU
    have HVT := hide (expT_valid (unhide HV) hE)
    clear HRX HBL HOW HBX2 HB2 HBX HBI HRS HC hq hU hE HXS z4
    obtain ⟨o, ho⟩ : ∃ o, expT s now = o := ⟨_, rfl⟩
    rw [ho] at HQ HU HVT
    rw [ho]
    have HO := hide ho
    have HQ := hide (unhide HQ)
    have HU := hide (unhide HU)
    clear ho
    generalize w2.setRow w.heap.size (scrA o A2 c2) = W3 at *
    have z5 : W3.cell? ⟨w.heap.size, 5, none⟩ = some (.slice A2 o.l.length c2) := by rw [Lib.cell_of_heap (unhide HU).out.box]; rfl
    have hq := unhide HQ
    clear HQ hW HZ HB1
    have HPI := hide (pidx_any image A2 c2 o.l (w.heap.size + 1) (w.heap.size + 3) W3 hq (unhide HU).out.own (by have := (unhide HVT).len; omega))
    have HQ0 := hide hq
    clear hq
    by_cases hf : o.l.findIdx (pV image) < o.l.length
    · obtain ⟨k, hk⟩ : ∃ k, o.l.findIdx (pV image) = k := ⟨_, rfl⟩
      have HPI := hide (show Calls Try.prog 41 #[.slice A2 o.l.length c2, .func (.func 42) #[] #[.pointer (some ⟨w.heap.size + 1, 0, none⟩)]] W3 fun e w' => e = .returned (.int .i64 k) ∧ Below W3.heap.size W3 w' from by have := unhide HPI; rw [if_pos hf, hk] at this; exact this)
      rw [hk] at hf
      obtain ⟨g, rfl, hg, hc⟩ := (unhide HU).out.row hf
      obtain ⟨x, hx⟩ : ∃ x, o.l.getD k ck0 = x := ⟨_, rfl⟩
      rw [hx] at hc
      have c0 := hc 0 _ rfl
      have c4 := hc 4 _ rfl
      have q0 := unhide HQ0
      have HX := hide hx
      have HF := hide hf
      have HK := hide hk
      have kl : (k : Int) < (o.l.length : Int) := by omega
      have k0 : (0 : Int) ≤ (k : Int) := by omega
      have kn : ¬ (k : Int) < 0 := by omega
      have gne : ¬ g = w.heap.size := by omega
      have gne2 : ¬ g = w.heap.size + 2 := by omega
      clear hc hx hf hk HQ0
      by_cases hi : image < s.next
      · have hi2 : ¬ s.next ≤ image := by omega
        have HI := hide (vIdx_hit (now := now) hi)
        have HVX := hide (show vIdx s image now = k by rw [unhide HI, unhide HO, unhide HK])
        have HOX := hide (unhide HVT |>.ok x (by rw [← unhide HX]; exact getD_mem (unhide HF)))
        clear hi HI
        cases clear with
        | true =>
          have HVE := hide (show verE s image true now = 0 by
            rw [verE_hit (x := x) (unhide HE) (by rw [unhide HVX, unhide HO]; exact unhide HF) (by rw [unhide HVX, unhide HO]; exact unhide HX)]
            show (if 1048577 < (expT s now).next then (2 : Int) else 0) = 0
            rw [unhide HO, if_neg (by have := (unhide HVT).nx; omega)])
          have HVS := hide (verS_hit (x := x) (unhide HVE) (by rw [unhide HVX, unhide HO]; exact unhide HX))
          go_upto_region 10 with (first
            | (go_at_call 41; refine (unhide HPI).mono ?_; rintro e w4 ⟨rfl, hb4⟩; have HU4 := hide ((unhide HU).below hb4); have HRX := hide (unhide HU4).rs; have q4 := kept hb4 q0; have z54 : w4.cell? ⟨w.heap.size, 5, none⟩ = some (.slice (some ⟨g, 0, none⟩) o.l.length c2) := (by rw [Lib.cell_of_heap (unhide HU4).out.box]; rfl); have c04 := kept hb4 c0; have c44 := kept hb4 c4; have f44 := (unhide HU4).out.frow (k * 5 + 4); clear hb4))
          have HU5 := hide ((unhide HU4).put (j := 4) (u := .int .i64 2) { x with st := 2 } (unhide HF) (by omega) (by rw [unhide HX]; rfl))
          clear HU4 HRX z54 c04 c44 f44 HPI HU z5 c0 c4 q0 q4
          generalize w4.setCell ⟨g, k * 5 + 4, none⟩ (.int .i64 2) = W5 at *
          have HRX := hide (unhide HU5).rs
          have HSB := hide (unhide HU5).out.box
          obtain ⟨o5, ho5⟩ : ∃ o5, ({ o with l := o.l.set k { x with st := 2 } } : Scr) = o5 := ⟨_, rfl⟩
          have HL5 := hide (show o5.l.length = o.l.length by rw [← ho5]; rw [List.length_set])
          have HC0 := hide ((unhide HU5).out.cellx (k := k) (x := { x with st := 2 }) (by rw [List.length_set]; exact unhide HF) (getD_set (unhide HF) _) 0 _ rfl)
          have HSE := hide (show verS s image true now = o5 by rw [(unhide HVS).1, unhide HO, unhide HVX, ← ho5]; show ({ o with next := (expT s now).next, l := _ } : Scr) = _; rw [unhide HO]; rfl)
          have HBG := hide (unhide HVS).2
          rw [ho5] at HU5 HSB
          have HU5 := hide (unhide HU5)
          have HSB := hide (unhide HSB)
          clear ho5
          have hS5 : W5.drew.heap[w.heap.size]? = some (scrO o5 (some ⟨g, 0, none⟩) c2) ∧ W5.drew.cell? ⟨g, k * 5, none⟩ = some (.int .i64 x.bag) ∧ W5.drew.cell? ⟨w.heap.size, 5, none⟩ = some (.slice (some ⟨g, 0, none⟩) o.l.length c2) := ⟨unhide HSB, unhide HC0, by
            have h9 : W5.cell? ⟨w.heap.size, 5, none⟩ = some (.slice (some ⟨g, 0, none⟩) o5.l.length c2) := by rw [Lib.cell_of_heap (unhide HSB)]; rfl
            rw [unhide HL5] at h9; exact h9⟩
          have HS5 := hide hS5
          clear hS5
          refine wp_region_held (S := fun Z => Z.heap[w.heap.size]? = some (scrO o5 (some ⟨g, 0, none⟩) c2) ∧ Z.cell? ⟨g, k * 5, none⟩ = some (.int .i64 x.bag) ∧ Z.cell? ⟨w.heap.size, 5, none⟩ = some (.slice (some ⟨g, 0, none⟩) o.l.length c2)) (by kernel_rfl) ?_
          refine wpAnyH_take (i := 0) (v := scrV o5 (some ⟨g, 0, none⟩) c2) rfl (by kernel_rfl) (by kernel_rfl) (by kernel_rfl) (fun _ _ _ h => h) (yields_loadSc _ rfl rfl rfl (fun _ h => h.1)) (unhide HS5) ?_
          refine wpAnyH_take (i := 1) (v := .pointer (some ⟨w.heap.size, 5, none⟩)) rfl (by kernel_rfl) (by kernel_rfl) (by kernel_rfl) (fun _ _ _ h => h) (Or.inl ⟨by rfl, by intro Z _; go_simp⟩) (unhide HS5) ?_
          refine wpAnyH_take (i := 2) (v := .slice (some ⟨g, 0, none⟩) o.l.length c2) rfl (by kernel_rfl) (by kernel_rfl) (by kernel_rfl) (fun _ _ _ h => h) (Or.inl ⟨by rfl, by intro Z hs; have h9 := hs.2.2; go_simp⟩) (unhide HS5) ?_
          refine wpAnyH_take (i := 3) (v := .int .i64 k) rfl (by kernel_rfl) (by kernel_rfl) (by kernel_rfl) (fun _ _ _ h => h) (Or.inl ⟨by rfl, by intro Z _; go_simp⟩) (unhide HS5) ?_
          refine wpAnyH_take (i := 4) (v := .pointer (some ⟨g, k * 5, none⟩)) rfl (by kernel_rfl) (by kernel_rfl) (by kernel_rfl) (fun _ _ _ h => h) (Or.inl ⟨by rfl, by intro Z _; go_simp⟩) (unhide HS5) ?_
          refine wpAnyH_take (i := 5) (v := .pointer (some ⟨g, k * 5, none⟩)) rfl (by kernel_rfl) (by kernel_rfl) (by kernel_rfl) (fun _ _ _ h => h) (Or.inl ⟨by rfl, by intro Z _; go_simp⟩) (unhide HS5) ?_
          refine wpAnyH_take (i := 6) (v := .int .i64 x.bag) rfl (by kernel_rfl) (by kernel_rfl) (by kernel_rfl) (fun _ _ _ h => h) (Or.inl ⟨by rfl, by intro Z hs; have h9 := hs.2.1; go_simp⟩) (unhide HS5) ?_
          go_simp
          refine wpAnyH_one (i := 7) (by kernel_rfl) rfl (fun K hK => ?_)
          rw [if_pos (by rfl)]
          refine wp_store_row _ _ _ rfl (w.heap.size + 2) (scrA o5 (some ⟨g, 0, none⟩) c2) rfl rfl 28 _ (show W5.drew.heap[w.heap.size + 2]? = some (scrO scr0 none 0) from unhide HRX) infoS rfl (scr_all _ _ _) ?_
          have HS6 := hide (show (W5.drew.setRow (w.heap.size + 2) (scrA o5 (some ⟨g, 0, none⟩) c2)).heap[w.heap.size]? = some (scrO o5 (some ⟨g, 0, none⟩) c2) ∧ (W5.drew.setRow (w.heap.size + 2) (scrA o5 (some ⟨g, 0, none⟩) c2)).cell? ⟨g, k * 5, none⟩ = some (.int .i64 x.bag) ∧ (W5.drew.setRow (w.heap.size + 2) (scrA o5 (some ⟨g, 0, none⟩) c2)).cell? ⟨w.heap.size, 5, none⟩ = some (.slice (some ⟨g, 0, none⟩) o.l.length c2) from by
            obtain ⟨h1, h2, h3⟩ := unhide HS5
            refine ⟨by rw [setRow_other _ _ _ _ (by omega)]; exact h1, ?_, ?_⟩
            · simp only [World.cell?] at h2 ⊢; rw [setRow_other _ _ _ _ (by omega)]; exact h2
            · simp only [World.cell?] at h3 ⊢; rw [setRow_other _ _ _ _ (by omega)]; exact h3)
          refine hK _ _ ⟨unhide HS6, ?_⟩
          clear hK K
          refine wpAnyH_take (i := 8) (v := .int .i64 x.bag) rfl (by kernel_rfl) (by kernel_rfl) (by kernel_rfl) (fun _ _ _ h => h) (Or.inl ⟨by rfl, by intro Z _; go_simp⟩) (unhide HS6) ?_
          refine wpAnyH_take (i := 9) (v := .int .i64 0) rfl (by kernel_rfl) (by kernel_rfl) (by kernel_rfl) (fun _ _ _ h => h) (Or.inl ⟨by rfl, by intro Z _; go_simp⟩) (unhide HS6) ?_
          refine wpAnyH_done (by kernel_rfl) ?_ _
          have HR6 := hide (setRow_heap W5.drew (w.heap.size + 2) _ (scrA o5 (some ⟨g, 0, none⟩) c2) _ _ (show W5.drew.heap[w.heap.size + 2]? = some (scrO scr0 none 0) from unhide HRX))
          have HUD := hide ((unhide HU5).below (Below.refl _ W5).drew)
          clear HS5 HS6
          go_simp
          go_wp2
          refine bodyPost_ret (v := .tuple #[scrV o5 (some ⟨g, 0, none⟩) c2, .int .i64 x.bag, .int .i64 0]) (results_row3' rfl _ _ (w.heap.size + 2) _ _ _ _ _ _ rfl rfl rfl (unhide HR6) Try.underlying28 rfl infoS) rfl ?_
          exact givesV_ok (unhide HUD) (unhide HVE) (unhide HSE) (unhide HBG)
        | false =>
          have HNX := hide (show 1 ≤ o.next ∧ o.next ≤ 1048617 from by have := (unhide HVT).nx; omega)
          rcases failE_cases x o.next with he | he
          · have HFE := hide he
            have HVE := hide (show verE s image false now = 0 by
              rw [verE_hit (x := x) (unhide HE) (by rw [unhide HVX, unhide HO]; exact unhide HF) (by rw [unhide HVX, unhide HO]; exact unhide HX)]
              show (if 1048577 < (failF x (expT s now).next now).2 then (2 : Int) else 0) = 0
              rw [unhide HO, if_neg (by have := failE_zero (now := now) he (unhide HVT).nx.2; omega)])
            have HVS := hide (verS_hit (x := x) (unhide HVE) (by rw [unhide HVX, unhide HO]; exact unhide HX))
            have HFO := hide (show failO o k x now = { o with next := (failF x o.next now).2, l := o.l.set k (failF x o.next now).1 } by unfold failO; rw [if_pos he])
            clear he
            go_upto_region 14 with (first
              | (go_at_call 41; refine (unhide HPI).mono ?_; rintro e w4 ⟨rfl, hb4⟩; have HU4 := hide ((unhide HU).below hb4); have q4 := kept hb4 q0; clear hb4)
              | (go_at_call 38; refine (pfail_any k x now (unhide HU4) (unhide HF) (unhide HX) (unhide HOX).2.1 (unhide HNX)).mono ?_; rintro e W5 ⟨rfl, hu5⟩; rw [unhide HFE]; have HU5 := hide hu5; have HRX := hide hu5.rs; clear hu5))
            have HU5' := hide (show UnS w (w.heap.size + 3) (w.heap.size + 2) { o with next := (failF x o.next now).2, l := o.l.set k (failF x o.next now).1 } (some ⟨g, 0, none⟩) c2 W5 from by rw [← unhide HFO]; exact unhide HU5)
            clear HU5 HU4 HPI HU z5 c0 c4 q0 q4
            have HU5 := hide (unhide HU5')
            clear HU5'
            have HSB := hide (unhide HU5).out.box
            obtain ⟨o5, ho5⟩ : ∃ o5, ({ o with next := (failF x o.next now).2, l := o.l.set k (failF x o.next now).1 } : Scr) = o5 := ⟨_, rfl⟩
            have HL5 := hide (show o5.l.length = o.l.length by rw [← ho5]; rw [List.length_set])
            have HC0 := hide (show W5.cell? ⟨g, k * 5, none⟩ = some (.int .i64 x.bag) from by rw [← failF_bag x o.next now]; exact (unhide HU5).out.cellx (k := k) (x := (failF x o.next now).1) (by rw [List.length_set]; exact unhide HF) (getD_set (unhide HF) _) 0 _ rfl)
            have HSE := hide (show verS s image false now = o5 by rw [(unhide HVS).1, unhide HO, unhide HVX, ← ho5]; show ({ o with next := (failF x (expT s now).next now).2, l := o.l.set k (failF x (expT s now).next now).1 } : Scr) = _; rw [unhide HO])
            have HBG := hide (unhide HVS).2
            rw [ho5] at HU5 HSB
            have HU5 := hide (unhide HU5)
            have HSB := hide (unhide HSB)
            clear ho5
            have hS5 : W5.drew.heap[w.heap.size]? = some (scrO o5 (some ⟨g, 0, none⟩) c2) ∧ W5.drew.cell? ⟨g, k * 5, none⟩ = some (.int .i64 x.bag) ∧ W5.drew.cell? ⟨w.heap.size, 5, none⟩ = some (.slice (some ⟨g, 0, none⟩) o.l.length c2) := ⟨unhide HSB, unhide HC0, by
              have h9 : W5.cell? ⟨w.heap.size, 5, none⟩ = some (.slice (some ⟨g, 0, none⟩) o5.l.length c2) := by rw [Lib.cell_of_heap (unhide HSB)]; rfl
              rw [unhide HL5] at h9; exact h9⟩
            have HS5 := hide hS5
            clear hS5
            refine wp_region_held (S := fun Z => Z.heap[w.heap.size]? = some (scrO o5 (some ⟨g, 0, none⟩) c2) ∧ Z.cell? ⟨g, k * 5, none⟩ = some (.int .i64 x.bag) ∧ Z.cell? ⟨w.heap.size, 5, none⟩ = some (.slice (some ⟨g, 0, none⟩) o.l.length c2)) (by kernel_rfl) ?_
            refine wpAnyH_take (i := 0) (v := scrV o5 (some ⟨g, 0, none⟩) c2) rfl (by kernel_rfl) (by kernel_rfl) (by kernel_rfl) (fun _ _ _ h => h) (yields_loadSc _ rfl rfl rfl (fun _ h => h.1)) (unhide HS5) ?_
            refine wpAnyH_take (i := 1) (v := .pointer (some ⟨w.heap.size, 5, none⟩)) rfl (by kernel_rfl) (by kernel_rfl) (by kernel_rfl) (fun _ _ _ h => h) (Or.inl ⟨by rfl, by intro Z _; go_simp⟩) (unhide HS5) ?_
            refine wpAnyH_take (i := 2) (v := .slice (some ⟨g, 0, none⟩) o.l.length c2) rfl (by kernel_rfl) (by kernel_rfl) (by kernel_rfl) (fun _ _ _ h => h) (Or.inl ⟨by rfl, by intro Z hs; have h9 := hs.2.2; go_simp⟩) (unhide HS5) ?_
            refine wpAnyH_take (i := 3) (v := .int .i64 k) rfl (by kernel_rfl) (by kernel_rfl) (by kernel_rfl) (fun _ _ _ h => h) (Or.inl ⟨by rfl, by intro Z _; go_simp⟩) (unhide HS5) ?_
            refine wpAnyH_take (i := 4) (v := .pointer (some ⟨g, k * 5, none⟩)) rfl (by kernel_rfl) (by kernel_rfl) (by kernel_rfl) (fun _ _ _ h => h) (Or.inl ⟨by rfl, by intro Z _; go_simp⟩) (unhide HS5) ?_
            refine wpAnyH_take (i := 5) (v := .pointer (some ⟨g, k * 5, none⟩)) rfl (by kernel_rfl) (by kernel_rfl) (by kernel_rfl) (fun _ _ _ h => h) (Or.inl ⟨by rfl, by intro Z _; go_simp⟩) (unhide HS5) ?_
            refine wpAnyH_take (i := 6) (v := .int .i64 x.bag) rfl (by kernel_rfl) (by kernel_rfl) (by kernel_rfl) (fun _ _ _ h => h) (Or.inl ⟨by rfl, by intro Z hs; have h9 := hs.2.1; go_simp⟩) (unhide HS5) ?_
            go_simp
            refine wpAnyH_one (i := 7) (by kernel_rfl) rfl (fun K hK => ?_)
            rw [if_pos (by rfl)]
            refine wp_store_row _ _ _ rfl (w.heap.size + 2) (scrA o5 (some ⟨g, 0, none⟩) c2) rfl rfl 28 _ (show W5.drew.heap[w.heap.size + 2]? = some (scrO scr0 none 0) from unhide HRX) infoS rfl (scr_all _ _ _) ?_
            have HS6 := hide (show (W5.drew.setRow (w.heap.size + 2) (scrA o5 (some ⟨g, 0, none⟩) c2)).heap[w.heap.size]? = some (scrO o5 (some ⟨g, 0, none⟩) c2) ∧ (W5.drew.setRow (w.heap.size + 2) (scrA o5 (some ⟨g, 0, none⟩) c2)).cell? ⟨g, k * 5, none⟩ = some (.int .i64 x.bag) ∧ (W5.drew.setRow (w.heap.size + 2) (scrA o5 (some ⟨g, 0, none⟩) c2)).cell? ⟨w.heap.size, 5, none⟩ = some (.slice (some ⟨g, 0, none⟩) o.l.length c2) from by
              obtain ⟨h1, h2, h3⟩ := unhide HS5
              refine ⟨by rw [setRow_other _ _ _ _ (by omega)]; exact h1, ?_, ?_⟩
              · simp only [World.cell?] at h2 ⊢; rw [setRow_other _ _ _ _ (by omega)]; exact h2
              · simp only [World.cell?] at h3 ⊢; rw [setRow_other _ _ _ _ (by omega)]; exact h3)
            refine hK _ _ ⟨unhide HS6, ?_⟩
            clear hK K
            refine wpAnyH_take (i := 8) (v := .int .i64 x.bag) rfl (by kernel_rfl) (by kernel_rfl) (by kernel_rfl) (fun _ _ _ h => h) (Or.inl ⟨by rfl, by intro Z _; go_simp⟩) (unhide HS6) ?_
            refine wpAnyH_take (i := 9) (v := .int .i64 0) rfl (by kernel_rfl) (by kernel_rfl) (by kernel_rfl) (fun _ _ _ h => h) (Or.inl ⟨by rfl, by intro Z _; go_simp⟩) (unhide HS6) ?_
            refine wpAnyH_done (by kernel_rfl) ?_ _
            have HR6 := hide (setRow_heap W5.drew (w.heap.size + 2) _ (scrA o5 (some ⟨g, 0, none⟩) c2) _ _ (show W5.drew.heap[w.heap.size + 2]? = some (scrO scr0 none 0) from unhide HRX))
            have HUD := hide ((unhide HU5).below (Below.refl _ W5).drew)
            clear HS5 HS6
            go_simp
            go_wp2
            refine bodyPost_ret (v := .tuple #[scrV o5 (some ⟨g, 0, none⟩) c2, .int .i64 x.bag, .int .i64 0]) (results_row3' rfl _ _ (w.heap.size + 2) _ _ _ _ _ _ rfl rfl rfl (unhide HR6) Try.underlying28 rfl infoS) rfl ?_
            exact givesV_ok (unhide HUD) (unhide HVE) (unhide HSE) (unhide HBG)
          · have HFE := hide he
            have HVE := hide (show verE s image false now = 2 by
              rw [verE_hit (x := x) (unhide HE) (by rw [unhide HVX, unhide HO]; exact unhide HF) (by rw [unhide HVX, unhide HO]; exact unhide HX)]
              show (if 1048577 < (failF x (expT s now).next now).2 then (2 : Int) else 0) = 2
              rw [unhide HO, if_pos (failE_two he)])
            clear he
            go_wp2_with (first
              | (go_at_call 41; refine (unhide HPI).mono ?_; rintro e w4 ⟨rfl, hb4⟩; have HU4 := hide ((unhide HU).below hb4); have q4 := kept hb4 q0; clear hb4)
              | (go_at_call 38; refine (pfail_any k x now (unhide HU4) (unhide HF) (unhide HX) (unhide HOX).2.1 (unhide HNX)).mono ?_; rintro e W5 ⟨rfl, hu5⟩; rw [unhide HFE]; have HU5 := hide hu5; have HRX := hide hu5.rs; clear hu5)
              | (refine wpList_storeS (s := scr0) (A := none) (c := 0) (unhide HRX) rfl _ _ rfl rfl rfl ?_))
            refine bodyPost_ret (v := .tuple #[scrV scr0 none 0, .int .i64 0, .int .i64 2]) (results_row3' rfl _ _ (w.heap.size + 2) _ _ _ _ _ _ rfl rfl rfl (setRow_heap _ (w.heap.size + 2) _ (scrA scr0 none 0) _ _ (unhide HRX)) Try.underlying28 rfl infoS) rfl ?_
            exact givesV_no (unhide HVE) (by decide) (below_row (unhide HU5).bel (by omega) _)
      · have HVE := hide (verE_miss (s := s) (image := image) (clear := clear) (now := now) (unhide HE) (vIdx_no hi))
        have hi2 : s.next ≤ image := by omega
        clear hi
        go_wp2_with (first
          | (go_at_call 41; refine (unhide HPI).mono ?_; rintro e w4 ⟨rfl, hb4⟩; have HU4 := hide ((unhide HU).below hb4); have HRX := hide (unhide HU4).rs; have q4 := kept hb4 q0; have z54 : w4.cell? ⟨w.heap.size, 5, none⟩ = some (.slice (some ⟨g, 0, none⟩) o.l.length c2) := (by rw [Lib.cell_of_heap (unhide HU4).out.box]; rfl); have c04 := kept hb4 c0; have c44 := kept hb4 c4; have f44 := (unhide HU4).out.frow (k * 5 + 4); clear hb4)
          | (refine wpList_storeS (s := scr0) (A := none) (c := 0) (unhide HRX) rfl _ _ rfl rfl rfl ?_))
        refine bodyPost_ret (v := .tuple #[scrV scr0 none 0, .int .i64 0, .int .i64 6]) (results_row3' rfl _ _ (w.heap.size + 2) _ _ _ _ _ _ rfl rfl rfl (setRow_heap _ (w.heap.size + 2) _ (scrA scr0 none 0) _ _ (unhide HRX)) Try.underlying28 rfl infoS) rfl ?_
        exact givesV_no (unhide HVE) (by decide) (below_row (unhide HU4).bel (by omega) _)
    · have HPI := hide (show Calls Try.prog 41 #[.slice A2 o.l.length c2, .func (.func 42) #[] #[.pointer (some ⟨w.heap.size + 1, 0, none⟩)]] W3 fun e w' => e = .returned (.int .i64 (-1)) ∧ Below W3.heap.size W3 w' from by have := unhide HPI; rw [if_neg hf] at this; exact this)
      have HVE := hide (verE_miss (s := s) (image := image) (clear := clear) (now := now) (unhide HE) (by
        rw [unhide HO]
        by_cases h1 : image < s.next
        · rw [vIdx_hit h1, unhide HO]; exact hf
        · have := vIdx_no (s := s) (now := now) h1; rw [unhide HO] at this; exact this))
      clear hf
      go_wp2_with (first
        | (go_at_call 41; refine (unhide HPI).mono ?_; rintro e w4 ⟨rfl, hb4⟩; have HU4 := hide ((unhide HU).below hb4); have HRX := hide (unhide HU4).rs; clear hb4)
        | (refine wpList_storeS (s := scr0) (A := none) (c := 0) (unhide HRX) rfl _ _ rfl rfl rfl ?_))
      refine bodyPost_ret (v := .tuple #[scrV scr0 none 0, .int .i64 0, .int .i64 6]) (results_row3' rfl _ _ (w.heap.size + 2) _ _ _ _ _ _ rfl rfl rfl (setRow_heap _ (w.heap.size + 2) _ (scrA scr0 none 0) _ _ (unhide HRX)) Try.underlying28 rfl infoS) rfl ?_
      exact givesV_no (unhide HVE) (by decide) (below_row (unhide HU4).bel (by omega) _)
  · have hne : (expE s now == 0) = false := by rw [beq_eq_false_iff_ne]; exact hE
    have hne2 : (expE s now != 0) = true := by rw [bne_iff_ne]; exact hE
    have HVE := hide (verE_exp (image := image) (clear := clear) hE)
    have HEZ := hide hE
    clear hE
    go_wp2_with (refine wpList_storeS (s := scr0) (A := none) (c := 0) (unhide HRX) rfl _ _ rfl rfl rfl ?_)
    refine bodyPost_ret (v := .tuple #[scrV scr0 none 0, .int .i64 0, .int .i64 (expE s now)]) (results_row3' rfl _ _ (w.heap.size + 2) _ _ _ _ _ _ rfl rfl rfl (setRow_heap _ (w.heap.size + 2) _ (scrA scr0 none 0) _ _ (unhide HRX)) Try.underlying28 rfl infoS) rfl ?_
    exact givesV_no (unhide HVE) (unhide HEZ) (below_row (unhide HBL) (by omega) _)
end Go.Proofs.Ytdhkhkcijffbiaa
