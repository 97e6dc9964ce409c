/-
  Screening (layer 15): the program's Expire.
-/
import Derived.Test.YtdhkhkcijffbiaaScrU
namespace Go.Proofs.Ytdhkhkcijffbiaa
open Go.RowKit

/-- The screening after some of its checks have been looked at, in place. -/
def inS (s : Scr) (now : Int) (k : Nat) : Scr := { s with next := (outS s now k).next, l := (outS s now k).l ++ s.l.drop k }
theorem inS_zero (s : Scr) (now : Int) : inS s now 0 = s := by cases s; rfl
theorem inS_all (s : Scr) (now : Int) : inS s now s.l.length = expT s now := by
  unfold inS
  rw [List.drop_length, List.append_nil, outS_all]; rfl
theorem inS_len {s : Scr} {now : Int} {k : Nat} (hk : k ≤ s.l.length) : (inS s now k).l.length = s.l.length := by
  show ((outS s now k).l ++ s.l.drop k).length = _
  rw [List.length_append, outS_len hk, List.length_drop]; omega
theorem inS_at {s : Scr} {now : Int} {k : Nat} (hk : k < s.l.length) : (inS s now k).l.getD k ck0 = s.l.getD k ck0 := by
  have hl := outS_len (s := s) (now := now) (Nat.le_of_lt hk)
  rw [List.getD_eq_getElem?_getD, List.getD_eq_getElem?_getD]
  show (((outS s now k).l ++ s.l.drop k)[k]?).getD ck0 = _
  rw [List.getElem?_append_right (by omega), hl, Nat.sub_self, List.getElem?_drop, Nat.add_zero]
theorem inS_step {s : Scr} {now : Int} {k : Nat} {x : Ck} (hk : k < s.l.length) (hx : s.l.getD k ck0 = x) :
    inS s now (k + 1) = { inS s now k with next := (expC s now x (outS s now k).next).2, l := (inS s now k).l.set k (expC s now x (outS s now k).next).1 } := by
  have h1 := outS_step (now := now) hk hx
  have hl := outS_len (s := s) (now := now) (Nat.le_of_lt hk)
  unfold inS
  rw [h1]
  show ({ s with next := _, l := _ } : Scr) = { s with next := _, l := _ }
  congr 1
  rw [List.set_append_right _ _ (by omega), hl, Nat.sub_self, List.drop_eq_getElem_cons hk, List.set_cons_zero, List.append_assoc]
  rfl
/-- A check that does not fail stays. -/
theorem inS_stay {s : Scr} {now : Int} {k : Nat} {x : Ck} (hk : k < s.l.length) (hx : s.l.getD k ck0 = x) (hn : ¬ (x.st = 1 ∧ dlF s x < now)) : inS s now (k + 1) = inS s now k ∧ (outS s now (k + 1)).next = (outS s now k).next := by
  have h2 : expC s now x (outS s now k).next = (x, (outS s now k).next) := by unfold expC; rw [if_neg hn]
  refine ⟨?_, by rw [outS_step hk hx, h2]⟩
  rw [inS_step hk hx, h2]
  have h3 : (inS s now k).l.set k x = (inS s now k).l := by
    have h4 := inS_at (s := s) (now := now) hk
    rw [hx] at h4
    refine List.ext_getElem (by simp) fun i hi1 hi2 => ?_
    rw [List.getElem_set]
    split
    · rename_i e
      subst e
      rw [at_k hi2] at h4
      exact h4.symm
    · rfl
  show ({ inS s now k with next := (outS s now k).next, l := (inS s now k).l.set k x } : Scr) = inS s now k
  rw [h3]; rfl
theorem inS_fail {s : Scr} {now : Int} {k : Nat} {x : Ck} (hk : k < s.l.length) (hx : s.l.getD k ck0 = x) (hn : x.st = 1 ∧ dlF s x < now) (he : failE x (outS s now k).next = 0) (hm : (outS s now k).next ≤ 1048577) :
    inS s now (k + 1) = failO (inS s now k) k x now ∧ (outS s now (k + 1)).next ≤ 1048577 := by
  have h2 : expC s now x (outS s now k).next = failF x (outS s now k).next now := by unfold expC; rw [if_pos hn]
  have h3 : failO (inS s now k) k x now = { inS s now k with next := (failF x (outS s now k).next now).2, l := (inS s now k).l.set k (failF x (outS s now k).next now).1 } := by
    have he' : failE x (inS s now k).next = 0 := he
    unfold failO
    rw [if_pos he']; rfl
  refine ⟨by rw [inS_step hk hx, h2, h3], ?_⟩
  rw [outS_step hk hx, h2]
  show (failF x (outS s now k).next now).2 ≤ 1048577
  unfold failE at he
  unfold failF
  split
  · exact hm
  · rename_i h4
    rw [if_neg h4] at he
    split at he
    · omega
    · simp only []; omega
theorem expG_app (s : Scr) (now : Int) : ∀ (l m : List Ck) (n : Int), (expG s now (l ++ m) n).2 = (expG s now m (expG s now l n).2).2
  | [], _, _ => rfl
  | _ :: l, m, _ => expG_app s now l m _
theorem timeB_iff {t : Int} : timeB t = true ↔ 0 ≤ t ∧ t ≤ 1048576 := by unfold timeB; rw [Bool.and_eq_true, decide_eq_true_eq, decide_eq_true_eq]
theorem expE_lim {s : Scr} {now : Int} {k : Nat} {x : Ck} (ht : timeB now = true) (hk : k < s.l.length) (hx : s.l.getD k ck0 = x) (hn : x.st = 1 ∧ dlF s x < now) (he : failE x (outS s now k).next = 2) : expE s now = 2 := by
  have h2 : expC s now x (outS s now k).next = failF x (outS s now k).next now := by unfold expC; rw [if_pos hn]
  have h5 : 1048577 < (outS s now (k + 1)).next := by
    rw [outS_step hk hx, h2]
    show 1048577 < (failF x (outS s now k).next now).2
    unfold failE at he
    unfold failF
    split at he
    · omega
    · rename_i h4
      rw [if_neg h4]
      split at he
      · simp only []; omega
      · omega
  have h6 : (outS s now (k + 1)).next ≤ (expG s now s.l s.next).2 := by
    have e := expG_app s now (s.l.take (k + 1)) (s.l.drop (k + 1)) s.next
    rw [List.take_append_drop] at e
    rw [e]
    exact (expG_next s now _ _).1
  unfold expE
  rw [if_pos (timeB_iff.1 ht), if_pos (by omega)]
theorem expE_ok {s : Scr} {now : Int} (ht : timeB now = true) (hm : (outS s now s.l.length).next ≤ 1048577) : expE s now = 0 := by
  rw [outS_all] at hm
  have hm' : (expG s now s.l s.next).2 ≤ 1048577 := hm
  unfold expE
  rw [if_pos (timeB_iff.1 ht), if_neg (by omega)]
theorem expE_bad {s : Scr} {now : Int} (ht : timeB now = false) : expE s now = 1 := by
  unfold expE
  rw [if_neg (fun h => by rw [timeB_iff.2 h] at ht; cases ht)]
theorem failE_cases : ∀ (x : Ck) (n : Int), failE x n = 0 ∨ failE x n = 2 := fun x n => by
  unfold failE
  split
  · exact .inl rfl
  · split
    · exact .inr rfl
    · exact .inl rfl
/-- What a call gives that returns a screening in memory of its own. -/
def GivesO (w : World) (o : Scr) (er : Int) (e : Ending) (w' : World) : Prop :=
  ∃ A c, e = .returned (.tuple #[scrV o A c, .int .i64 er]) ∧ w'.ownsRow w.heap.size 42 5 (.slice A o.l.length c) o.l.length (o.l.flatMap Ck.cs) ∧ Below w.heap.size w w'
theorem GivesO.gives {w w' : World} {o : Scr} {er : Int} {e : Ending} (h : GivesO w o er e w') : GivesS w o er e w' := by
  obtain ⟨A, c, h1, h2, h3⟩ := h
  exact ⟨A, c, h1, fun b hb => RowIn.own h2 (.inl hb), h3, own_cap h2⟩
theorem givesO_no {w W : World} {o : Scr} {er ev : Int} (ho : o = scr0) (he : er = ev) (hb : Below w.heap.size w W) : GivesO w o er (.returned (.tuple #[scrV scr0 none 0, .int .i64 ev])) W := by
  subst ho; subst he
  exact ⟨none, 0, rfl, World.ownsRow_nil _ _ _ _, hb⟩
section
variable {w W : World} {B R c : Nat} {o : Scr} {A : Option Addr}
theorem UnS.row0 (h : UnS w B R o A c W) : (W.setRow R (scrA o A c)).ownsRow w.heap.size 42 5 (.slice A o.l.length c) o.l.length (o.l.flatMap Ck.cs) := by
  have h1 := h.hR
  have h2 := h.lR
  exact owns_base (h.out.own.kept (grown_row W _ _) (.inr (fun e => by have := (h.out.own.lt _ e).1; omega))) (by omega)
theorem UnS.gives (h : UnS w B R o A c W) : GivesO w o 0 (.returned (.tuple #[scrV o A c, .int .i64 0])) (W.setRow R (scrA o A c)) :=
  ⟨A, c, rfl, h.row0, below_row h.bel (by have := h.hR; omega) _⟩
end
section
variable {ops : Array Oper} {rest : List Oper} {o : Oper} {a : Act} {W : World} {Q : Exit → Act → World → Prop}
theorem wpList_loadC_w {x : Ck} {g : Nat} {t : TypeId} {fz : Nat × Nat} (hg : W.heap[g]? = some (.cells x.arr t fz)) (y : Operand) (ho : o.op = .load 42 y) (hx : a.eval y = .pointer (some ⟨g, 0, none⟩)) (hw : Region.wanted o (yielded ops a.tmps) = true)
    (h : wpList Try.prog ops Q rest (a.put o.dst x.v) W) : wpList Try.prog ops Q (o :: rest) a W :=
  BigFrame.wpList_want hw fun _ hK => wp_load_row _ y ho g hx t _ fz _ hg Try.underlying42 rfl infoC (hK _ _ h)
end

set_option maxHeartbeats 4000000 in
set_option maxRecDepth 100000 in
theorem pexpire_any (b : Nat) (s : Scr) (now : Int) (A : Option Addr) (c : Nat) (w : World) (hv : ValS s) (h : CksIn b w A s.l) :
    Calls Try.prog 17 #[scrV s A c, .int .i64 now] w (GivesO w (expS s now) (expE s now)) := by
  obtain ⟨W1, hW⟩ : ∃ W1 : World, (w.alloc (scrO s A c)).alloc (.cells zS 28) = W1 := ⟨_, rfl⟩
  have HS := hide (show StS w b s A c W1 from by rw [← hW]; exact StS.start h)
  have hz1 : W1.heap.size = w.heap.size + 2 := by rw [← hW, World.size_alloc, World.size_alloc]
  have HZ := hide hz1
  have HV := hide hv
  have z5 : W1.cell? ⟨w.heap.size, 5, none⟩ = some (.slice A s.l.length c) := by rw [Lib.cell_of_heap (unhide HS).bx]; rfl
  clear hv h hz1
  go_enter Try.func17, Try.ntmps17
  cases ht : timeB now with
  | false =>
    have HE := hide (expE_bad (s := s) ht)
    have HRS := hide (unhide HS).rs
    go_wp2_with (first
      | (go_at_call 34; refine (istime_any now _).mono ?_; rintro e w2 ⟨rfl, hw⟩; subst w2; rw [ht])
      | (refine wpList_storeS (s := scr0) (A := none) (c := 0) (unhide HRS) rfl _ _ rfl rfl rfl ?_))
    refine bodyPost_ret (v := .tuple #[scrV scr0 none 0, .int .i64 1]) (results_row2' rfl _ _ (w.heap.size + 1) _ _ _ _ _ rfl rfl (setRow_heap W1 (w.heap.size + 1) _ (scrA scr0 none 0) _ _ (unhide HRS)) Try.underlying28 rfl infoS) rfl ?_
    exact givesO_no (by unfold expS; rw [unhide HE]; rfl) (unhide HE) (below_row (unhide HS).bel (by omega) _)
  | true =>
    have HT := hide ht
    go_upto_region 4 with (first
      | (go_at_call 34; refine (istime_any now _).mono ?_; rintro e w2 ⟨rfl, hw⟩; subst w2; rw [ht])
      | (go_at_call 36; refine (cloneC_any b A c s.l _ (unhide HS).cks (by have := (unhide HV).len; omega)).mono ?_; rintro e w2 ⟨A2, c2, rfl, hown, hb2⟩; have HS2 := hide ((unhide HS).below hb2); have HOW := hide hown; have HB2 := hide hb2; have hbx := heap_below (unhide HS).bx hb2; have f5 := Lib.frozen_of_heap hbx 5; have z52 : w2.cell? ⟨w.heap.size, 5, none⟩ = some (.slice A s.l.length c) := (by rw [Lib.cell_of_heap hbx]; rfl); clear hown hb2 hbx))
    have HU := hide (show UnS w (w.heap.size + 2) (w.heap.size + 1) (inS s now 0) A2 c2 (w2.setCell ⟨w.heap.size, 5, none⟩ (.slice A2 s.l.length c2)) from by
      rw [inS_zero]
      have hO := unhide HOW
      rw [unhide HZ] at hO
      refine ⟨(unhide HS2).bel.setCell (p := ⟨w.heap.size, 5, none⟩) (Nat.le_refl _) _, ⟨?_, ?_, by omega⟩, ?_, by omega, by omega⟩
      · exact heap_set (unhide HS2).bx _
      · exact hO.kept (grown_set _ _ _ _) (.inr (fun e => by have := (hO.lt _ e).1; omega))
      · rw [Below.heap_setCell _ _ _ _ (by simp)]; exact (unhide HS2).rs)
    clear HOW HS2 HB2 f5 z52 z5 HS HZ hW
    generalize w2.setCell ⟨w.heap.size, 5, none⟩ (.slice A2 s.l.length c2) = w3 at *
    have z5 : w3.cell? ⟨w.heap.size, 5, none⟩ = some (.slice A2 s.l.length c2) := by rw [Lib.cell_of_heap (unhide HU).out.box, inS_zero]; rfl
    have HM := hide (show (outS s now 0).next ≤ 1048577 from (unhide HV).nx.2)
    go_wp2
    clear ht
    go_loopw [20] (fun i wr => ∃ k : Nat, k ≤ s.l.length ∧ i = .int .i64 k ∧ Hid (UnS w (w.heap.size + 2) (w.heap.size + 1) (inS s now k) A2 c2 wr) ∧ Hid ((outS s now k).next ≤ 1048577)) (fun i _ => s.l.length - (intOf i).toNat)
    case atStart => exact ⟨0, Nat.zero_le _, rfl, HU, HM⟩
    case round =>
      obtain ⟨k, hk, rfl, HP, HN⟩ := hrel
      obtain ⟨wo, rfl⟩ : ∃ wo : World, wo = wr := ⟨_, rfl⟩
      clear HU HM z5
      by_cases hlt : k < s.l.length
      · have kl : (k : Int) < (s.l.length : Int) := by omega
        have k0 : (0 : Int) ≤ (k : Int) := by omega
        have hz40 := (unhide HV).len
        obtain ⟨g, rfl, hg, hc⟩ := (unhide HP).out.row (k := k) (by rw [inS_len (by omega)]; exact hlt)
        rw [inS_at hlt] at hc
        obtain ⟨x, hx⟩ : ∃ x, s.l.getD k ck0 = x := ⟨_, rfl⟩
        rw [hx] at hc
        have HOK := hide (show okC s.next x from hx ▸ (unhide HV).ok _ (getD_mem hlt))
        have HX := hide hx
        have HC := hide hc
        have HLT := hide hlt
        clear hc hx
        have HXB := hide (heap_alloc_new wo (.cells x.arr 42))
        have HP1 := hide ((unhide HP).below ((Below.refl wo.heap.size wo).alloc (Nat.le_refl _) (.cells x.arr 42)))
        have p4 : (wo.alloc (.cells x.arr 42)).cell? ⟨wo.heap.size, 4, none⟩ = some (.int .i64 x.st) := by rw [Lib.cell_of_heap (unhide HXB)]; rfl
        have HSB := hide (unhide HP1).out.box
        by_cases hp : x.st = 1
        · have tp : (x.st == 1) = true := by rw [beq_iff_eq]; exact hp
          have tq : (x.st != 1) = false := by rw [hp]; rfl
          have HLV := hide (unhide HOK).2.1
          have HSI := hide (unhide HOK).2.2.1
          obtain ⟨dl, hdl⟩ : ∃ dl, dlF s x = dl := ⟨_, rfl⟩
          have HDL := hide (show dlF (inS s now k) x = dl from hdl)
          by_cases hd : dl < now
          · have hq : ¬ now ≤ dl := by omega
            have HPD := hide (show x.st = 1 ∧ dlF s x < now from ⟨hp, by rw [hdl]; exact hd⟩)
            clear hp hd hdl hlt
            obtain ⟨n, hn⟩ : ∃ n, (outS s now k).next = n := ⟨_, rfl⟩
            have HNN := hide hn
            have HN5 := hide (show 1 ≤ n ∧ n ≤ 1048617 from by have h1 := outS_next (now := now) (unhide HV) (k := k) (by have := unhide HLT; omega); have h2 := (unhide HV).nx.1; omega)
            clear hn
            rcases failE_cases x n with he | he
            · have HFE := hide he
              clear he
              go_wp2_with (first
              | (refine wpList_load_at rfl _ _ rfl g (k * 5) rfl x.arr _ (unhide HC) Try.underlying42 rfl infoC ?_)
              | (refine wpList_storeC_new rfl x rfl _ _ rfl rfl rfl rfl ?_)
              | (refine wpList_loadS_w (unhide HSB) _ rfl rfl rfl ?_)
              | (refine wpList_loadC_w (unhide HXB) _ rfl rfl rfl ?_)
              | (go_at_call 37; refine (pdeadline_any (inS s now k) x (some ⟨g, 0, none⟩) c2 _ (unhide HV).lim (unhide HLV) (unhide HSI)).mono ?_; rintro e w4 ⟨rfl, hb4⟩; have HP2 := hide ((unhide HP1).below hb4); clear hb4; rw [unhide HDL])
              | (go_at_call 38; refine (pfail_any k x now (unhide HP2) (by rw [inS_len (by have := unhide HLT; omega)]; exact unhide HLT) (by rw [inS_at (unhide HLT)]; exact unhide HX) (unhide HLV) (by show 1 ≤ (outS s now k).next ∧ (outS s now k).next ≤ 1048617; rw [unhide HNN]; exact unhide HN5)).mono ?_; rintro e w5 ⟨rfl, hu5⟩; rw [show failE x (inS s now k).next = 0 by show failE x (outS s now k).next = 0; rw [unhide HNN]; exact unhide HFE]; have HU5 := hide hu5; clear hu5))
              have HJ := hide (inS_fail (unhide HLT) (unhide HX) (unhide HPD) (by rw [unhide HNN]; exact unhide HFE) (unhide HN))
              go_roundw
              case rel => exact ⟨k + 1, by have := unhide HLT; omega, by go_num, by rw [(unhide HJ).1]; exact HU5, hide (unhide HJ).2⟩
              case measure => simp [intOf]; have := unhide HLT; omega
            · have HFE := hide he
              clear he
              go_wp2_with (first
              | (refine wpList_load_at rfl _ _ rfl g (k * 5) rfl x.arr _ (unhide HC) Try.underlying42 rfl infoC ?_)
              | (refine wpList_storeC_new rfl x rfl _ _ rfl rfl rfl rfl ?_)
              | (refine wpList_loadS_w (unhide HSB) _ rfl rfl rfl ?_)
              | (refine wpList_loadC_w (unhide HXB) _ rfl rfl rfl ?_)
              | (go_at_call 37; refine (pdeadline_any (inS s now k) x (some ⟨g, 0, none⟩) c2 _ (unhide HV).lim (unhide HLV) (unhide HSI)).mono ?_; rintro e w4 ⟨rfl, hb4⟩; have HP2 := hide ((unhide HP1).below hb4); clear hb4; rw [unhide HDL])
              | (go_at_call 38; refine (pfail_any k x now (unhide HP2) (by rw [inS_len (by have := unhide HLT; omega)]; exact unhide HLT) (by rw [inS_at (unhide HLT)]; exact unhide HX) (unhide HLV) (by show 1 ≤ (outS s now k).next ∧ (outS s now k).next ≤ 1048617; rw [unhide HNN]; exact unhide HN5)).mono ?_; rintro e w5 ⟨rfl, hu5⟩; rw [show failE x (inS s now k).next = 2 by show failE x (outS s now k).next = 2; rw [unhide HNN]; exact unhide HFE]; have HRS5 := hide hu5.rs; have HBL5 := hide hu5.bel; clear hu5)
              | (refine wpList_storeS (s := scr0) (A := none) (c := 0) (unhide HRS5) rfl _ _ rfl rfl rfl ?_))
              have HE := hide (expE_lim (unhide HT) (unhide HLT) (unhide HX) (unhide HPD) (by rw [unhide HNN]; exact unhide HFE))
              refine bodyPost_ret (v := .tuple #[scrV scr0 none 0, .int .i64 2]) (results_row2' rfl _ _ (w.heap.size + 1) _ _ _ _ _ rfl rfl (setRow_heap w5 (w.heap.size + 1) _ (scrA scr0 none 0) _ _ (unhide HRS5)) Try.underlying28 rfl infoS) rfl ?_
              exact givesO_no (by unfold expS; rw [unhide HE]; rfl) (unhide HE) (below_row (unhide HBL5) (by omega) _)
          · have hq : now ≤ dl := by omega
            have HE := hide (inS_stay (s := s) (now := now) hlt (unhide HX) (fun h => by have := h.2; rw [hdl] at this; exact hd this))
            clear hp hd hdl hlt
            go_wp2_with (first
              | (refine wpList_load_at rfl _ _ rfl g (k * 5) rfl x.arr _ (unhide HC) Try.underlying42 rfl infoC ?_)
              | (refine wpList_storeC_new rfl x rfl _ _ rfl rfl rfl rfl ?_)
              | (refine wpList_loadS_w (unhide HSB) _ rfl rfl rfl ?_)
              | (refine wpList_loadC_w (unhide HXB) _ rfl rfl rfl ?_)
              | (go_at_call 37; refine (pdeadline_any (inS s now k) x (some ⟨g, 0, none⟩) c2 _ (unhide HV).lim (unhide HLV) (unhide HSI)).mono ?_; rintro e w4 ⟨rfl, hb4⟩; have HP2 := hide ((unhide HP1).below hb4); clear hb4; rw [unhide HDL]))
            go_roundw
            case rel => exact ⟨k + 1, by have := unhide HLT; omega, by go_num, by rw [(unhide HE).1]; exact HP2, by rw [(unhide HE).2]; exact HN⟩
            case measure => simp [intOf]; have := unhide HLT; omega
        · have tp : (x.st == 1) = false := by rw [beq_eq_false_iff_ne]; exact hp
          have tq : (x.st != 1) = true := by rw [bne_iff_ne]; exact hp
          have HE := hide (inS_stay (s := s) (now := now) hlt (unhide HX) (fun h => hp h.1))
          clear hp hlt
          go_wp2_with (first
            | (refine wpList_load_at rfl _ _ rfl g (k * 5) rfl x.arr _ (unhide HC) Try.underlying42 rfl infoC ?_)
            | (refine wpList_storeC_new rfl x rfl _ _ rfl rfl rfl rfl ?_))
          go_roundw
          case rel => exact ⟨k + 1, by have := unhide HLT; omega, by go_num, by rw [(unhide HE).1]; exact HP1, by rw [(unhide HE).2]; exact HN⟩
          case measure => simp [intOf]; have := unhide HLT; omega
      · have kl : ¬ (k : Int) < (s.l.length : Int) := by omega
        obtain rfl : k = s.l.length := by omega
        have HE := hide (expE_ok (unhide HT) (unhide HN))
        have HX := hide (show inS s now s.l.length = expS s now by rw [inS_all]; unfold expS; rw [if_pos (unhide HE)])
        have HSB := hide (unhide HP).out.box
        have HRS := hide (unhide HP).rs
        obtain ⟨o, ho⟩ : ∃ o, inS s now s.l.length = o := ⟨_, rfl⟩
        have HO := hide ho
        have HP' := hide (show UnS w (w.heap.size + 2) (w.heap.size + 1) o A2 c2 wo from ho ▸ unhide HP)
        have HSB' := hide (show wo.heap[w.heap.size]? = some (scrO o A2 c2) from ho ▸ unhide HSB)
        clear HP HSB ho
        go_wp2_with (first
          | (refine wpList_loadS (unhide HSB') rfl _ rfl rfl ?_)
          | (refine wpList_storeS (unhide HRS) rfl _ _ rfl rfl rfl ?_))
        refine bodyPost_ret (v := .tuple #[scrV o A2 c2, .int .i64 0]) (results_row2' rfl _ _ (w.heap.size + 1) _ _ _ _ _ rfl rfl (setRow_heap wo (w.heap.size + 1) _ (scrA o A2 c2) _ _ (unhide HRS)) Try.underlying28 rfl infoS) rfl ?_
        rw [unhide HE, ← unhide HX, unhide HO]
        exact (unhide HP').gives
end Go.Proofs.Ytdhkhkcijffbiaa
