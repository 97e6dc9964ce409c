/-
  Lanes (layer 17): the program's Check; what the laws want of the program's assignments holds.
-/
import Derived.Test.YtmmhchhekmcihaaLanZ
import Derived.Test.YtmmhchhekmcihaaMapI
namespace Go.Proofs.Ytmmhchhekmcihaa
open Go.RowKit

/-- The due time of the last bag of a lane among the first k bags. -/
def lastV (due l : List Int) : Nat → Int → Int
  | 0, _ => 0
  | k + 1, x => if x = l.getD k 0 then due.getD k 0 else lastV due l k x
theorem lastV_spec (due l : List Int) (x : Int) : ∀ k, (lastV due l k x = 0 ∧ ∀ a, a < k → l.getD a 0 ≠ x) ∨ ∃ a, a < k ∧ l.getD a 0 = x ∧ lastV due l k x = due.getD a 0 ∧ ∀ m, a < m → m < k → l.getD m 0 ≠ x
  | 0 => .inl ⟨rfl, fun a h => absurd h (Nat.not_lt_zero _)⟩
  | k + 1 => by
    unfold lastV
    by_cases e : x = l.getD k 0
    · rw [if_pos e]
      exact .inr ⟨k, Nat.lt_succ_self _, e.symm, rfl, fun m h1 h2 => by omega⟩
    · rw [if_neg e]
      rcases lastV_spec due l x k with ⟨h1, h2⟩ | ⟨a, h1, h2, h3, h4⟩
      · refine .inl ⟨h1, fun a ha => ?_⟩
        rcases Nat.lt_or_ge a k with h | h
        · exact h2 a h
        · obtain rfl : a = k := by omega
          exact fun h => e h.symm
      · refine .inr ⟨a, by omega, h2, h3, fun m h5 h6 => ?_⟩
        rcases Nat.lt_or_ge m k with h | h
        · exact h4 m h5 h
        · obtain rfl : m = k := by omega
          exact fun h => e h.symm
/-- Good as far as k bags. -/
def goodPf (due l : List Int) (k : Nat) : Prop := ∀ a b, a < b → b < k → l.getD a 0 = l.getD b 0 → due.getD a 0 ≤ due.getD b 0
theorem goodPf_no {due l : List Int} {k : Nat} (hk : k < l.length) (h0 : 0 ≤ due.getD k 0) (h : due.getD k 0 < lastV due l k (l.getD k 0)) : ¬ goodB due l := fun hg => by
  rcases lastV_spec due l (l.getD k 0) k with ⟨h1, _⟩ | ⟨a, h1, h2, h3, _⟩
  · omega
  · have := hg a k h1 hk h2; omega
theorem goodPf_yes {due l : List Int} {k : Nat} (hg : goodPf due l k) (h : ¬ due.getD k 0 < lastV due l k (l.getD k 0)) : goodPf due l (k + 1) := fun a b hab hb he => by
  rcases Nat.lt_or_ge b k with h1 | h1
  · exact hg a b hab h1 he
  · obtain rfl : b = k := by omega
    rcases lastV_spec due l (l.getD b 0) b with ⟨_, h2⟩ | ⟨c, h1, h2, h3, h4⟩
    · exact absurd he (h2 a hab)
    · rcases Nat.lt_trichotomy a c with h5 | h5 | h5
      · have := hg a c h5 h1 (by rw [he, h2]); omega
      · subst h5; omega
      · exact absurd he (h4 a h5 hab)
theorem chkE_no {due l : List Int} (hv : valE due = 0) (hl : l.length = due.length) (hn : negb l = false) (h : ¬ goodB due l) : chkE due l = 9 := by
  unfold chkE
  rw [if_neg (by simpa using hv), if_neg (by simpa using hl), if_neg (by simp [hn]), if_neg (fun hg => h (goodb_iff.1 hg))]
theorem chkE_yes {due l : List Int} (hv : valE due = 0) (hl : l.length = due.length) (hn : negb l = false) (h : goodB due l) : chkE due l = 0 := by
  unfold chkE
  rw [if_neg (by simpa using hv), if_neg (by simpa using hl), if_neg (by simp [hn]), if_pos (goodb_iff.2 h)]
set_option maxHeartbeats 2000000 in
set_option maxRecDepth 100000 in
theorem pCheck_any (b : Nat) (due l : List Int) (A A' : Option Addr) (c c' : Nat) (w : World) (hz : SmL due) (hz' : SmL l) (h : NumsIn b w A due) (h' : NumsIn b w A' l) :
    Calls Try.prog 18 #[.slice A due.length c, .slice A' l.length c'] w fun e w' => e = .returned (.int .i64 (chkE due l)) ∧ Below w.heap.size w w' := by
  have HV := hide (val_any b due A c w (by have := hz.len; omega) h)
  by_cases hv : valE due = 0
  · have HVE := hide hv
    obtain ⟨v1, v2⟩ := valE_ok hv
    rw [hv] at HV
    have HV := hide (unhide HV)
    by_cases hl : l.length = due.length
    · have q1 : ((l.length : Int) != (due.length : Int)) = false := by rw [bne_eq_false_iff_eq]; omega
      have HLE := hide hl
      have HC := hide (hasC_any b l A' c' w (by have := hz'.len; omega) h')
      have hnb : l.any negI = negb l := rfl
      rw [hnb] at HC
      cases hn : negb l with
      | true =>
        rw [hn] at HC
        have HC := hide (unhide HC)
        have HE := hide (show chkE due l = 1 from by unfold chkE; rw [if_neg (by simpa using hv), if_neg (by simpa using hl), if_pos hn])
        clear hn hnb hv hl v2 h h' hz hz'
        go_enter Try.func18, Try.ntmps18
        go_wp2_with (first
          | (go_at_call 34; refine (unhide HV).mono ?_; rintro e w' ⟨rfl, rfl⟩)
          | (go_at_call 39; refine (unhide HC).mono ?_; rintro e w' ⟨rfl, rfl⟩))
        go_ret
        exact ⟨ret_int (unhide HE).symm, Below.refl _ _⟩
      | false =>
        rw [hn] at HC
        have HC := hide (unhide HC)
        have HNB := hide hn
        have HD := hide h
        have HL := hide h'
        have HWL := hide hz'.wf
        have HWD := hide hz.wf
        have HR := hide v2
        have hlen := hz'.len
        have hmm := @run_makeMap Try.prog
        have H0 := hide (show MapW (w.alloc (.map #[] 0)) w.heap.size 0 (lastV due l 0) ∧ Below w.heap.size w (w.alloc (.map #[] 0)) ∧ goodPf due l 0 from ⟨MapW.made w, below_new (Below.refl _ _) _, fun a b _ h => absurd h (Nat.not_lt_zero _)⟩)
        clear hn hnb hv hl v2 h h' hz hz'
        go_enter Try.func18, Try.ntmps18
        go_wp2_with (first
          | (go_at_call 34; refine (unhide HV).mono ?_; rintro e w' ⟨rfl, rfl⟩)
          | (go_at_call 39; refine (unhide HC).mono ?_; rintro e w' ⟨rfl, rfl⟩))
        clear hmm
        go_loopw [26] (fun s26 wr => ∃ k : Nat, k ≤ l.length ∧ s26 = .int .i64 k ∧ Hid (MapW wr w.heap.size k (lastV due l k) ∧ Below w.heap.size w wr ∧ goodPf due l k)) (fun s26 _ => l.length - (intOf s26).toNat)
        case atStart => exact ⟨0, Nat.zero_le _, rfl, H0⟩
        case round =>
          obtain ⟨k, hk, rfl, HI⟩ := hrel
          obtain ⟨wo, rfl⟩ : ∃ wo : World, wo = wr := ⟨_, rfl⟩
          clear H0
          by_cases hlt : k < l.length
          · have hlt2 : k < due.length := by have := unhide HLE; omega
            obtain ⟨g, off, rfl, _, hc⟩ := ((unhide HD).keep (unhide HI).2.1) (by omega)
            obtain ⟨g', off', rfl, _, hc'⟩ := ((unhide HL).keep (unhide HI).2.1) (by omega)
            have c0 := hc k hlt2
            have d0 := hc' k hlt
            have kl : (k : Int) < (l.length : Int) := by omega
            have kl2 : (k : Int) < (due.length : Int) := by omega
            have k0 : (0 : Int) ≤ (k : Int) := by omega
            have HX := hide ((unhide HWL) (l.getD k 0) (by rw [at_k hlt]; exact List.getElem_mem _))
            have HY := hide ((unhide HWD) (due.getD k 0) (by rw [at_k hlt2]; exact List.getElem_mem _))
            have hy0 := ((unhide HR) (due.getD k 0) (by rw [at_k hlt2]; exact List.getElem_mem _)).1
            have HNo := hide (fun h => goodPf_no (due := due) hlt hy0 h)
            have HYes := hide (fun h => goodPf_yes (due := due) (l := l) (k := k) (unhide HI).2.2 h)
            have HS := hide (show ∀ z, (if z = l.getD k 0 then due.getD k 0 else lastV due l k z) = lastV due l (k + 1) z from fun z => rfl)
            have lk0 := (unhide HI).1.look (unhide HX)
            have lk := fun n => ((unhide HI).1.draws n).look (unhide HX)
            clear hc hc' hy0
            generalize due.getD k 0 = y at c0 HNo HYes HS HY
            generalize l.getD k 0 = x at d0 HNo HYes HS lk lk0 HX
            have HNo := hide (unhide HNo)
            have HYes := hide (unhide HYes)
            obtain ⟨z, hzz⟩ : ∃ z, lastV due l k x = z := ⟨_, rfl⟩
            rw [hzz] at lk lk0 HNo HYes
            clear hzz
            have HNo := hide (unhide HNo)
            have HYes := hide (unhide HYes)
            by_cases hyz : y < z
            · have q5 : decide (y < z) = true := decide_eq_true hyz
              have HE := hide (chkE_no (unhide HVE) (unhide HLE) (unhide HNB) (unhide HNo hyz))
              clear hyz
              go_wp2_with fail
              go_quiet (fail)
              go_wp2
              go_ret
              exact ⟨ret_int (unhide HE).symm, draws (unhide HI).2.1 _⟩
            · have q5 : decide (y < z) = false := decide_eq_false hyz
              have HG := hide (unhide HYes hyz)
              clear hyz
              go_wp2_with fail
              go_quiet (fail)
              clear lk lk0
              go_wp2_with (at_mapUpdate; refine wpList_mapPutI rfl _ _ _ rfl _ _ _ x y rfl ((unhide HI).1.draws _) rfl (unhide HX) rfl (unhide HY) (by unfold maxLen; omega) ?_)
              intro w1 hs1 hg1
              have H1 := hide (show MapW w1 w.heap.size (k + 1) (lastV due l (k + 1)) ∧ Below w.heap.size w w1 ∧ goodPf due l (k + 1) from ⟨hs1.to (unhide HS), (draws (unhide HI).2.1 _).grown hg1 (draws (unhide HI).2.1 _).size (fun j e => by injection e with e; omega), unhide HG⟩)
              clear hs1 hg1
              go_wp2
              go_roundw
              case rel => exact ⟨k + 1, by omega, by go_num, H1⟩
              case measure => simp [intOf]; omega
          · have kl : ¬ (k : Int) < (l.length : Int) := by omega
            obtain rfl : k = l.length := by omega
            have HE := hide (chkE_yes (unhide HVE) (unhide HLE) (unhide HNB) (unhide HI).2.2)
            go_wp2
            go_ret
            exact ⟨ret_int (unhide HE).symm, (unhide HI).2.1⟩
    · have q1 : ((l.length : Int) != (due.length : Int)) = true := by rw [bne_iff_ne]; omega
      have HE := hide (show chkE due l = 1 from by unfold chkE; rw [if_neg (by simpa using hv), if_pos hl])
      clear hv hl v2 h h' hz hz'
      go_enter Try.func18, Try.ntmps18
      go_wp2_with (first
        | (go_at_call 34; refine (unhide HV).mono ?_; rintro e w' ⟨rfl, rfl⟩))
      go_ret
      exact ⟨ret_int (unhide HE).symm, Below.refl _ _⟩
  · have q : (valE due != 0) = true := by rw [bne_iff_ne]; exact hv
    have HE := hide (show chkE due l = valE due from by unfold chkE; rw [if_pos hv])
    generalize valE due = v at *
    have HV := hide (unhide HV)
    clear hv h h' hz hz'
    go_enter Try.func18, Try.ntmps18
    go_wp2_with (go_at_call 34; refine (unhide HV).mono ?_; rintro e w' ⟨rfl, rfl⟩)
    go_ret
    exact ⟨ret_int (unhide HE).symm, Below.refl _ _⟩
theorem lan_ok : LanOk where
  assign b due A c w hs _ h := pAssign_any b due A c w hs.len h
  count b due A c w hs _ h := pCount_any b due A c w hs.len h
  chain b due A c w hs _ h := pChain_any b due A c w hs.len h
  check b due l A A' c c' w hs hs' _ _ h h' := pCheck_any b due l A A' c c' w hs hs' h h'
end Go.Proofs.Ytmmhchhekmcihaa
