/-
  Lanes (layer 17): the document's own Put.
-/
import Derived.Test.YtmmhchhekmcihaaLanCC
import Derived.Test.YtmmhchhekmcihaaAnyW
namespace Go.Proofs.Ytmmhchhekmcihaa
open Go.RowKit

def bsI (dp : Nat) (L : List (List Bg)) (due : Int) (k : Nat) : Int := match bestS dp L due k with | none => -1 | some b => (b : Nat)
theorem fndI_neg {L : List (List Bg)} {v : Int} : decide (0 ≤ fndI L v) = decide (findS L v < L.length) := fndI_pos
set_option maxHeartbeats 4000000 in
set_option maxRecDepth 100000 in
theorem rput_st (dp : Nat) (L : List (List Bg)) (s : Bg) (A : Option Addr) (c : Nat) (S : Nat → Prop) (w : World) (hv : ValL dp L) (h : StoI S w A L c) (hS : Old S w) :
    Calls Try.prog 31 #[lnsV dp A L.length c, .agg #[.int .i64 s.1, .int .i64 s.2]] w (PutTo dp L s S w) := by
  obtain ⟨W, hW⟩ : ∃ W : World, ((w.alloc (lnsO dp A L.length c)).alloc (.cells (bgA s) 39)).alloc (lnsO 0 none 0 0) = W := ⟨_, rfl⟩
  have b1 : Below w.heap.size w W := by rw [← hW]; exact below_new (below_new (below_new (Below.refl w.heap.size w) _) _) _
  have hz : W.heap.size = w.heap.size + 3 := by rw [← hW, World.size_alloc, World.size_alloc, World.size_alloc]
  have hx : W.heap[w.heap.size]? = some (lnsO dp A L.length c) := by rw [← hW]; exact heap_later (heap_later (heap_alloc_new w _) _) _
  have hs : W.heap[w.heap.size + 1]? = some (.cells (bgA s) 39 (0, 0)) := by
    have h := heap_alloc_new (w.alloc (lnsO dp A L.length c)) (.cells (bgA s) 39)
    rw [World.size_alloc] at h
    rw [← hW]; exact heap_later h _
  have hy : W.heap[w.heap.size + 2]? = some (lnsO 0 none 0 0) := by
    have h := heap_alloc_new ((w.alloc (lnsO dp A L.length c)).alloc (.cells (bgA s) 39)) (lnsO 0 none 0 0)
    rw [World.size_alloc, World.size_alloc, hW] at h; exact h
  have HX := hide hx
  have HBx := hide hs
  have HY := hide hy
  have HZ := hide hz
  have HS := hide (h.below b1)
  have HS2 := hide (show StoI (fun b => S b ∨ w.heap.size ≤ b ∧ b ≤ w.heap.size + 2) W A L c from (h.mono fun b hb e => e.elim id fun e => absurd e.1 (by omega)).below b1)
  have HB := hide b1
  have HV := hide hv
  have HOl := hide hS
  obtain ⟨bag, due⟩ := s
  have s0 : W.cell? ⟨w.heap.size + 1, 0, none⟩ = some (.int .i64 bag) := by rw [Lib.cell_of_heap hs]; rfl
  have s1 : W.cell? ⟨w.heap.size + 1, 1, none⟩ = some (.int .i64 due) := by rw [Lib.cell_of_heap hs]; rfl
  have hL : L.length ≤ 20 := hv.n.2
  clear b1 h hv hx hs hy hz hS
  by_cases hr : bag < 1 ∨ 40 < bag ∨ due < 0 ∨ 1048576 < due
  · have HR := hide (putS_range (dp := dp) (L := L) (s := (bag, due)) hr)
    by_cases h1 : bag < 1
    · clear hr
      go_enter Try.func31, Try.ntmps31
      go_wp2_with (first
        | (refine wpList_storeLn (unhide HY) rfl _ _ rfl rfl rfl ?_))
      refine bodyPost_ret (v := .tuple #[lnsV 0 none 0 0, .int .i64 0, .int .i64 1]) (results_row3 rfl _ _ (w.heap.size + 2) _ _ _ _ _ _ rfl rfl rfl (setRow_heap _ _ _ _ _ _ (unhide HY)) Try.underlying42 rfl infoLn) rfl ?_
      exact ⟨below_row (onward (unhide HB) (Below.refl _ _)) (by omega) _, .inl ⟨by rw [unhide HR]; decide, by rw [unhide HR]⟩⟩
    · by_cases h2 : 40 < bag
      · clear hr
        go_enter Try.func31, Try.ntmps31
        go_wp2_with (first
          | (refine wpList_storeLn (unhide HY) rfl _ _ rfl rfl rfl ?_))
        refine bodyPost_ret (v := .tuple #[lnsV 0 none 0 0, .int .i64 0, .int .i64 1]) (results_row3 rfl _ _ (w.heap.size + 2) _ _ _ _ _ _ rfl rfl rfl (setRow_heap _ _ _ _ _ _ (unhide HY)) Try.underlying42 rfl infoLn) rfl ?_
        exact ⟨below_row (onward (unhide HB) (Below.refl _ _)) (by omega) _, .inl ⟨by rw [unhide HR]; decide, by rw [unhide HR]⟩⟩
      · by_cases h3 : due < 0
        · clear hr
          go_enter Try.func31, Try.ntmps31
          go_wp2_with (first
            | (refine wpList_storeLn (unhide HY) rfl _ _ rfl rfl rfl ?_))
          refine bodyPost_ret (v := .tuple #[lnsV 0 none 0 0, .int .i64 0, .int .i64 1]) (results_row3 rfl _ _ (w.heap.size + 2) _ _ _ _ _ _ rfl rfl rfl (setRow_heap _ _ _ _ _ _ (unhide HY)) Try.underlying42 rfl infoLn) rfl ?_
          exact ⟨below_row (onward (unhide HB) (Below.refl _ _)) (by omega) _, .inl ⟨by rw [unhide HR]; decide, by rw [unhide HR]⟩⟩
        · have h4 : 1048576 < due := by omega
          clear hr
          go_enter Try.func31, Try.ntmps31
          go_wp2_with (first
            | (refine wpList_storeLn (unhide HY) rfl _ _ rfl rfl rfl ?_))
          refine bodyPost_ret (v := .tuple #[lnsV 0 none 0 0, .int .i64 0, .int .i64 1]) (results_row3 rfl _ _ (w.heap.size + 2) _ _ _ _ _ _ rfl rfl rfl (setRow_heap _ _ _ _ _ _ (unhide HY)) Try.underlying42 rfl infoLn) rfl ?_
          exact ⟨below_row (onward (unhide HB) (Below.refl _ _)) (by omega) _, .inl ⟨by rw [unhide HR]; decide, by rw [unhide HR]⟩⟩
  · have h1 : ¬ bag < 1 := by omega
    have h2 : ¬ 40 < bag := by omega
    have hd0 : ¬ due < 0 := by omega
    have hd1 : ¬ 1048576 < due := by omega
    have HRn := hide hr
    clear hr
    have HF := hide (rfind_any S dp bag L A c W (unhide HV) (unhide HS))
    have HFp := hide (fndI_neg (L := L) (v := bag))
    generalize fndI L bag = fi at HF HFp
    generalize fndK L bag = fk at HF
    by_cases h3 : findS L bag < L.length
    · have HR := hide (putS_dup (dp := dp) (s := (bag, due)) (unhide HRn) h3)
      have q : decide (0 ≤ fi) = true := by rw [unhide HFp]; exact decide_eq_true h3
      clear h3 HFp
      go_enter Try.func31, Try.ntmps31
      go_wp2_with (first
        | (refine wpList_loadLn (unhide HX) rfl _ rfl rfl ?_)
        | (go_at_call 46; refine (unhide HF).mono ?_; rintro e w2 ⟨rfl, hb2⟩; have HB2 := hide hb2; have HX2 := hide (heap_below (unhide HX) hb2); have HY2 := hide (heap_below (unhide HY) hb2); have s12 := kept hb2 s1; clear hb2)
        | (refine wpList_storeLn (unhide HY2) rfl _ _ rfl rfl rfl ?_))
      refine bodyPost_ret (v := .tuple #[lnsV 0 none 0 0, .int .i64 0, .int .i64 5]) (results_row3 rfl _ _ (w.heap.size + 2) _ _ _ _ _ _ rfl rfl rfl (setRow_heap _ _ _ _ _ _ (unhide HY2)) Try.underlying42 rfl infoLn) rfl ?_
      exact ⟨below_row (onward (unhide HB) (unhide HB2)) (by omega) _, .inl ⟨by rw [unhide HR]; decide, by rw [unhide HR]⟩⟩
    · have q : decide (0 ≤ fi) = false := by rw [unhide HFp]; exact decide_eq_false h3
      have HN3 := hide h3
      clear h3 HFp
      go_enter Try.func31, Try.ntmps31
      go_wp2_with (first
        | (refine wpList_loadLn (unhide HX) rfl _ rfl rfl ?_)
        | (go_at_call 46; refine (unhide HF).mono ?_; rintro e w2 ⟨rfl, hb2⟩; have HB2 := hide hb2; have HX2 := hide (heap_below (unhide HX) hb2); have HY2 := hide (heap_below (unhide HY) hb2); have s12 := kept hb2 s1; clear hb2))
      clear s0 s12 q
      go_loopw [9, 10] (fun s9 s10 wr => ∃ k : Nat, k ≤ L.length ∧ s9 = .int .i64 (bsI dp L due k) ∧ s10 = .int .i64 k ∧ Hid (Below W.heap.size W wr)) (fun _ s10 _ => L.length - (intOf s10).toNat)
      case atStart => exact ⟨0, Nat.zero_le _, rfl, rfl, HB2⟩
      case round =>
        obtain ⟨k, hk, rfl, rfl, HI⟩ := hrel
        obtain ⟨wo, rfl⟩ : ∃ wo : World, wo = wr := ⟨_, rfl⟩
        clear HB2
        have hxo := heap_below (unhide HX) (unhide HI)
        have x0 : wo.cell? ⟨w.heap.size, 0, none⟩ = some (.int .i64 dp) := by rw [Lib.cell_of_heap hxo]; rfl
        have x1 : wo.cell? ⟨w.heap.size, 1, none⟩ = some (.slice A L.length c) := by rw [Lib.cell_of_heap hxo]; rfl
        have sd : wo.cell? ⟨w.heap.size + 1, 1, none⟩ = some (.int .i64 due) := kept (unhide HI) s1
        have HXo := hide hxo
        clear hxo
        by_cases hkl : k < L.length
        · have kl : (k : Int) < (L.length : Int) := by omega
          have k0 : (0 : Int) ≤ (k : Int) := by omega
          obtain ⟨g, off, rfl, _, hc⟩ := ((unhide HS).below (unhide HI)).row (by omega)
          obtain ⟨A1, c1, r0, _, hb1⟩ := hc k hkl
          have HB1 := hide hb1
          have hll : (L.getD k []).length ≤ 20 := Nat.le_trans ((unhide HV).len _ (mem_at hkl)) (unhide HV).d.2
          have HSt := hide (show bsI dp L due (k + 1) = (match bestS dp L due k with | none => if (L.getD k []).length < dp then (k : Int) else -1 | some b => if (L.getD k []).length < dp ∧ betterS (L.getD k []) (L.getD b []) due = true then (k : Int) else (b : Int)) from by
            unfold bsI
            rw [bestS]
            cases bestS dp L due k with
            | none =>
              simp only []
              by_cases h : (L.getD k []).length < dp
              · rw [if_pos h, if_pos h]
              · rw [if_neg h, if_neg h]
            | some b =>
              simp only []
              by_cases h : (L.getD k []).length < dp ∧ betterS (L.getD k []) (L.getD b []) due = true
              · rw [if_pos h, if_pos h]
              · rw [if_neg h, if_neg h])
          have HC := hide hc
          clear hb1 hc
          by_cases hrm : (L.getD k []).length < dp
          · have q1 : decide (((L.getD k []).length : Int) < (dp : Int)) = true := by rw [decide_eq_true_eq]; omega
            have q2 : decide ((L.getD k []).length < dp) = true := decide_eq_true hrm
            cases hb : bestS dp L due k with
            | none =>
              have hbs : bsI dp L due k = -1 := by unfold bsI; rw [hb]
              have HN := hide (show bsI dp L due (k + 1) = (k : Int) from by rw [unhide HSt, hb]; simp only []; rw [if_pos hrm])
              rw [hbs]
              clear HSt hb hbs hrm
              generalize L.getD k [] = l at *
              go_wp2_with fail
              go_quiet (fail)
              go_wp2
              go_roundw
              case rel => exact ⟨k + 1, by omega, by rw [unhide HN], by go_num, hide (draws (unhide HI) _)⟩
              case measure => simp [intOf]; omega
            | some b =>
              have hbs : bsI dp L due k = (b : Int) := by unfold bsI; rw [hb]
              have hbk : b < L.length := by have := (best_lt hb).1; omega
              obtain ⟨A2, c2, r1, _, hb2⟩ := (unhide HC) b hbk
              have hl2 : (L.getD b []).length ≤ 20 := Nat.le_trans ((unhide HV).len _ (mem_at hbk)) (unhide HV).d.2
              have HBt := hide (fun m => better_any S (L.getD k []) (L.getD b []) due A1 A2 c1 c2 (wo.drewN m) (by omega) (by omega) ((unhide HB1).keep (KepS.below (draws (Below.refl _ _) m))) (hb2.keep (KepS.below (draws (Below.refl _ _) m))))
              have q3 : ¬ (b : Int) < 0 := by omega
              have b0 : (0 : Int) ≤ (b : Int) := by omega
              have bl : (b : Int) < (L.length : Int) := by omega
              rw [hbs]
              obtain ⟨qb, hqb⟩ : ∃ qb, betterS (L.getD k []) (L.getD b []) due = qb := ⟨_, rfl⟩
              rw [hqb] at HBt
              have HN := hide (show bsI dp L due (k + 1) = if qb = true then (k : Int) else (b : Int) from by rw [unhide HSt, hb]; simp only []; rw [hqb]; exact (by by_cases h : qb = true; (rw [if_pos ⟨hrm, h⟩, if_pos h]); (rw [if_neg (fun e => h e.2), if_neg h])))
              have HBt := hide (unhide HBt)
              clear HSt hb hbs hrm hqb hb2 hbk
              generalize L.getD k [] = l at *
              generalize L.getD b [] = l2 at *
              cases qb with
              | true =>
                go_wp2_with fail
                go_quiet ((go_at_call 50; exact Calls.quiet_of (unhide HBt _)))
                go_wp2
                go_roundw
                case rel => exact ⟨k + 1, by omega, by rw [unhide HN]; rfl, by go_num, hide (draws (unhide HI) _)⟩
                case measure => simp [intOf]; omega
              | false =>
                go_wp2_with fail
                go_quiet ((go_at_call 50; exact Calls.quiet_of (unhide HBt _)))
                go_wp2
                go_roundw
                case rel => exact ⟨k + 1, by omega, by rw [unhide HN]; rfl, by go_num, hide (draws (unhide HI) _)⟩
                case measure => simp [intOf]; omega
          · have q1 : decide (((L.getD k []).length : Int) < (dp : Int)) = false := by rw [decide_eq_false_iff_not]; omega
            have q2 : decide ((L.getD k []).length < dp) = false := decide_eq_false hrm
            have HN := hide (show bsI dp L due (k + 1) = bsI dp L due k from by
              rw [unhide HSt]
              unfold bsI
              cases bestS dp L due k with
              | none => simp only []; rw [if_neg hrm]
              | some b => simp only []; rw [if_neg (fun h => hrm h.1)])
            clear HSt hrm
            generalize L.getD k [] = l at *
            go_wp2_with fail
            go_quiet (fail)
            go_wp2
            go_roundw
            case rel => exact ⟨k + 1, by omega, by rw [unhide HN], by go_num, hide (draws (unhide HI) _)⟩
            case measure => simp [intOf]; omega
        · have kl : ¬ (k : Int) < (L.length : Int) := by omega
          obtain rfl : k = L.length := by omega
          have HY2 := hide (heap_below (unhide HY) (unhide HI))
          cases hb : bestS dp L due L.length with
          | none =>
            have hbs : bsI dp L due L.length = -1 := by unfold bsI; rw [hb]
            have HR := hide (putS_full (s := (bag, due)) (unhide HRn) (unhide HN3) hb)
            rw [hbs]
            clear hb hbs
            go_wp2_with (refine wpList_storeLn (unhide HY2) rfl _ _ rfl rfl rfl ?_)
            refine bodyPost_ret (v := .tuple #[lnsV 0 none 0 0, .int .i64 0, .int .i64 8]) (results_row3 rfl _ _ (w.heap.size + 2) _ _ _ _ _ _ rfl rfl rfl (setRow_heap _ _ _ _ _ _ (unhide HY2)) Try.underlying42 rfl infoLn) rfl ?_
            exact ⟨below_row (onward (unhide HB) (unhide HI)) (by omega) _, .inl ⟨by rw [unhide HR]; decide, by rw [unhide HR]⟩⟩
          | some p =>
            have hbs : bsI dp L due L.length = (p : Int) := by unfold bsI; rw [hb]
            have HR := hide (putS_ok (s := (bag, due)) (unhide HRn) (unhide HN3) hb)
            have hpl := (best_lt hb).1
            have HPl := hide hpl
            have p0 : (p : Int) < (L.length : Int) := by omega
            have p1 : (0 : Int) ≤ (p : Int) := by omega
            have p2 : ¬ (p : Int) < 0 := by omega
            rw [hbs]
            clear hb hbs
            obtain ⟨g, off, hA, _, hc⟩ := ((unhide HS).below (unhide HI)).row (by omega)
            subst hA
            obtain ⟨A1, c1, r0, _, hb1⟩ := hc p hpl
            have hll : (L.getD p []).length ≤ 20 := Nat.le_trans ((unhide HV).len _ (mem_at hpl)) (unhide HV).d.2
            have HA1 := hide (fun (hp : 0 < (L.getD p []).length) => show ∃ g off, A1 = some ⟨g, off, none⟩ ∧ ∀ j u, ((L.getD p []).flatMap bgC)[j]? = some u → wo.cell? ⟨g, off + j, none⟩ = some u from by
              obtain ⟨g, off, e, _, hc⟩ := bgs_src hb1 hp
              exact ⟨g, off, e, hc⟩)
            obtain ⟨m, hm⟩ : ∃ m, (L.getD p []).length = m := ⟨_, rfl⟩
            rw [hm] at r0 hll HA1
            have HA1 := hide (unhide HA1)
            have HMm := hide hm
            have HFl := hide (show ((L.getD p []).flatMap bgC).length = m * 2 from by rw [flatK_len bgC 2 bgC_len, hm])
            clear hm hb1 hc hpl
            obtain ⟨j0, jz, hj0, hja, hjb, hjc, hjd⟩ := info_size info_st
            have JI := hide hj0
            have JA := hide hja
            have JB := hide hjb
            have JC := hide hjc
            have JD := hide hjd
            clear hj0 hja hjb hjc hjd
            have HKp := hide (fun (Z : World) (hb : Below wo.heap.size wo Z) => show Z.heap[w.heap.size]? = some (lnsO dp (some ⟨g, off, none⟩) L.length c) ∧ Z.cell? ⟨w.heap.size, 1, none⟩ = some (.slice (some ⟨g, off, none⟩) L.length c) ∧ Z.cell? ⟨g, off + p, none⟩ = some (.slice A1 m c1) ∧ Z.cell? ⟨w.heap.size + 1, 0, none⟩ = some (.int .i64 bag) ∧ Z.cell? ⟨w.heap.size + 1, 1, none⟩ = some (.int .i64 due) from by
              have hs := heap_below (heap_below (unhide HBx) (unhide HI)) hb
              exact ⟨heap_below (unhide HXo) hb, kept hb x1, kept hb r0, by rw [Lib.cell_of_heap hs]; rfl, by rw [Lib.cell_of_heap hs]; rfl⟩)
            have hh := unhide HKp wo.drew (Below.refl wo.heap.size wo).drew
            have HDr := hide (Below.refl wo.heap.size wo).drew
            go_wp2_with fail
            clear x0 x1 sd r0
            refine wp_region_anyW [13] (fun Z => Z.heap[w.heap.size]? = some (lnsO dp (some ⟨g, off, none⟩) L.length c) ∧ Z.cell? ⟨w.heap.size, 1, none⟩ = some (.slice (some ⟨g, off, none⟩) L.length c) ∧ Z.cell? ⟨g, off + p, none⟩ = some (.slice A1 m c1) ∧ Z.cell? ⟨w.heap.size + 1, 0, none⟩ = some (.int .i64 bag) ∧ Z.cell? ⟨w.heap.size + 1, 1, none⟩ = some (.int .i64 due)) (by kernel_rfl) ?_
            refine anyW_take (i := 0) (v := lnsV dp (some ⟨g, off, none⟩) L.length c) rfl (by kernel_rfl) (by kernel_rfl) (by kernel_rfl) (by kernel_rfl) (fun _ _ _ h => h) (yields_loadLn _ rfl rfl rfl (fun _ h => h.1)) hh ?_
            refine anyW_take (i := 1) (v := .int .i64 p) rfl (by kernel_rfl) (by kernel_rfl) (by kernel_rfl) (by kernel_rfl) (fun _ _ _ h => h) (Or.inl ⟨by rfl, by intro Z hs; go_simp⟩) hh ?_
            refine anyW_take (i := 2) (v := .pointer (some ⟨w.heap.size, 1, none⟩)) rfl (by kernel_rfl) (by kernel_rfl) (by kernel_rfl) (by kernel_rfl) (fun _ _ _ h => h) (Or.inl ⟨by rfl, by intro Z hs; go_simp⟩) hh ?_
            refine anyW_take (i := 3) (v := .slice (some ⟨g, off, none⟩) L.length c) rfl (by kernel_rfl) (by kernel_rfl) (by kernel_rfl) (by kernel_rfl) (fun _ _ _ h => h) (Or.inl ⟨by rfl, by intro Z hs; have h9 := hs.2.1; go_simp⟩) hh ?_
            go_simp
            refine anyW_take (i := 4) (v := .int .i64 p) rfl (by kernel_rfl) (by kernel_rfl) (by kernel_rfl) (by kernel_rfl) (fun _ _ _ h => h) (Or.inl ⟨by rfl, by intro Z hs; go_simp⟩) hh ?_
            refine anyW_take (i := 5) (v := .pointer (some ⟨g, off + p, none⟩)) rfl (by kernel_rfl) (by kernel_rfl) (by kernel_rfl) (by kernel_rfl) (fun _ _ _ h => h) (Or.inl ⟨by rfl, by intro Z hs; go_simp⟩) hh ?_
            refine anyW_take (i := 6) (v := .slice A1 m c1) rfl (by kernel_rfl) (by kernel_rfl) (by kernel_rfl) (by kernel_rfl) (fun _ _ _ h => h) (Or.inl ⟨by rfl, by intro Z hs; have h9 := hs.2.2.1; go_simp⟩) hh ?_
            go_simp
            refine anyW_take (i := 8) (v := .agg (bgA (bag, due))) rfl (by kernel_rfl) (by kernel_rfl) (by kernel_rfl) (by kernel_rfl) (fun _ _ _ h => h) (Or.inl ⟨by rfl, by intro Z hs; have h9 := hs.2.2.2.1; have h8 := hs.2.2.2.2; go_simp⟩) hh ?_
            refine anyW_free (i := 12) (v := .int .i64 p) rfl (by kernel_rfl) (by kernel_rfl) (by kernel_rfl) (fun _ _ _ h => h) (Or.inl ⟨by rfl, by intro Z hs; go_simp⟩) ?_
            go_simp
            refine anyW_two (i := 7) (j := 9) (by kernel_rfl) rfl rfl (fun K hK => ?_) (fun K hK => ?_)
            case' refine_1 =>
              rw [if_pos (by rfl)]
              refine wp_append_any _ _ 68 rfl wo.heap.size 39 j0 jz 2 16 Try.underlying68 (unhide JI) (unhide JA) (unhide JB) (unhide JC) (unhide JD) (by decide) (.slice none 0 0) 0 [] rfl (World.ownsRow_nil _ _ _ _) A1 m c1 ((L.getD p []).flatMap bgC) rfl (unhide HFl) (fun hp => (unhide HA1) hp) st_one (by unfold maxLen; omega) (by omega) (Nat.le_refl _) ?_
              intro v1 w4 hown4 hg4 _
              rw [Nat.zero_add, List.nil_append] at hown4
              obtain ⟨A4, c4, rfl⟩ := own_form hown4
              have b4 : Below wo.heap.size wo w4 := (Below.refl wo.heap.size wo).drew.grown hg4 (Nat.le_refl _) (fun j e => by cases e)
              have HB4 := hide b4
              have HO4 := hide hown4
              refine hK _ _ ⟨fun _ => unhide HKp w4 b4, ?_⟩
              clear hK K hown4 hg4 b4
              refine anyW_one (i := 9) (by kernel_rfl) rfl (fun K hK => ?_)
              rw [if_pos (by rfl)]
              refine wp_build1 68 39 _ rfl (bgA (bag, due)) j0 jz 2 Try.underlying68 (unhide JI) (unhide JA) (unhide JB) (by decide) (by decide) (unhide JD) rfl rfl ?_
              have bx := below_new (Below.refl w4.heap.size w4) (.cells (bgA (bag, due)) 39)
              have HB5 := hide (onward (unhide HB4) bx)
              have HO5 := hide (owns_later (unhide HO4) bx)
              have HN5 := hide (heap_alloc_new w4 (.cells (bgA (bag, due)) 39))
              refine hK _ _ ⟨fun _ => unhide HKp _ (unhide HB5), ?_⟩
              clear hK K bx
              generalize w4.alloc (.cells (bgA (bag, due)) 39) = V5 at HB5 HO5 HN5 ⊢
              generalize w4.heap.size = nb at HN5 ⊢

              refine anyW_one (i := 10) (by kernel_rfl) rfl (fun K hK => ?_)
              rw [if_pos (by rfl)]
              refine wp_append_lies _ _ _ 68 rfl wo.heap.size 39 j0 jz 2 16 Try.underlying68 (unhide JI) (unhide JA) (unhide JB) (unhide JC) (unhide JD) (by decide) _ _ _ rfl (unhide HO5) ⟨nb, 0, none⟩ 1 1 (bgC (bag, due)) rfl rfl (World.news_of_block (unhide HN5)) (fun u hu => by simp only [bgC, List.mem_cons, List.not_mem_nil, or_false] at hu; rcases hu with rfl | rfl <;> rfl) (by decide) (by unfold maxLen; omega) (by omega) (unhide HB5).size _ rfl ?_
              intro q cap w6 hown6 hgrow6 hat6 hlt6
              have HB6 := hide (show Below wo.heap.size wo w6 from (unhide HB5).grown hgrow6 (unhide HB5).size (fun j e => ((unhide HO5).lt j e).1))
              have HG6 := hide (show BgsIn (fun b => S b ∨ w.heap.size ≤ b ∧ b ≤ w.heap.size + 2) w6 (some ⟨q, 0, none⟩) (L.getD p [] ++ [(bag, due)]) ∧ (L.getD p [] ++ [(bag, due)]).length = m + 1 ∧ m + 1 ≤ cap from by
                have hle : (L.getD p [] ++ [(bag, due)]).length = m + 1 := by rw [List.length_append, unhide HMm]; rfl
                refine ⟨bgs_own (base := wo.heap.size) (n := m + 1) (c := cap) (by rw [show (L.getD p [] ++ [(bag, due)]).flatMap bgC = (L.getD p []).flatMap bgC ++ bgC (bag, due) from by rw [List.flatMap_append]; simp]; exact hown6) (fun b hb => by have h2 := (unhide HI).size; have h4 := unhide HZ; have h1 := (unhide HB).size; rcases hb with hb | hb; (have := unhide HOl b hb; omega); omega), hle, own_cap hown6⟩)
              refine hK _ _ ⟨fun _ => unhide HKp w6 (unhide HB6), ?_⟩
              clear hK K hown6 hgrow6 hat6 hlt6
              have HWi := hide (with_any (fun b => S b ∨ w.heap.size ≤ b ∧ b ≤ w.heap.size + 2) dp L p (L.getD p [] ++ [(bag, due)]) (some ⟨g, off, none⟩) (some ⟨q, 0, none⟩) c cap w6 (fun b hb => by have h1 := (unhide HB).size; have h2 := (unhide HI).size; have h3 := (unhide HB6).size; have h4 := unhide HZ; rcases hb with hb | hb; (have := unhide HOl b hb; omega); omega) hL (fun l hl => Nat.le_trans ((unhide HV).len l hl) (unhide HV).d.2) (unhide HPl) (((unhide HS2).below (unhide HI)).below (unhide HB6)).row (unhide HG6).1 (by rw [(unhide HG6).2.1]; exact (unhide HG6).2.2))
              unfold WithTo at HWi
              rw [(unhide HG6).2.1] at HWi
              have HWi := hide (unhide HWi)
              refine anyW_one (i := 11) (by kernel_rfl) rfl (fun K hK => ?_)
              go_simp
              go_at_call 47
              refine (unhide HWi).mono ?_
              rintro e w7 ⟨A7, c7, rfl, hl7, hc7, hb7⟩
              try go_simp
              have HB7 := hide (onward (unhide HB6) hb7)
              have HL7 := hide hl7
              have HC7 := hide hc7
              refine hK _ _ ⟨fun _ => unhide HKp w7 (unhide HB7), ?_⟩
              clear hK K hl7 hc7 hb7
              have hy7 := heap_below (unhide HY2) (unhide HB7)
              have HY7 := hide hy7
              refine anyW_one (i := 13) (by kernel_rfl) rfl (fun K hK => ?_)
              rw [if_pos (by rfl)]
              refine wp_store_row 42 _ _ rfl (w.heap.size + 2) #[.int .i64 dp, .slice A7 L.length c7] rfl rfl _ _ hy7 infoLn rfl (by simp [Value.oneCell']) ?_
              refine hK _ _ ⟨fun h => absurd (List.mem_singleton.2 rfl) h, ?_⟩
              clear hK K hy7
              refine anyW_free (i := 14) (v := .int .i64 p) rfl (by kernel_rfl) (by kernel_rfl) (by kernel_rfl) (fun _ _ _ h => h) (Or.inl ⟨by rfl, by intro Z hs; go_simp⟩) ?_
              refine anyW_free (i := 15) (v := .int .i64 0) rfl (by kernel_rfl) (by kernel_rfl) (by kernel_rfl) (fun _ _ _ h => h) (Or.inl ⟨by rfl, by intro Z hs; go_simp⟩) ?_
              refine anyW_done (by kernel_rfl) ?_ _
              go_simp
              go_wp2
              refine bodyPost_ret (v := .tuple #[lnsV dp A7 L.length c7, .int .i64 p, .int .i64 0]) (results_row3 rfl _ _ (w.heap.size + 2) _ _ _ _ _ _ rfl rfl rfl (setRow_heap _ _ _ _ _ _ (unhide HY7)) Try.underlying42 rfl infoLn) rfl ?_
              exact ⟨below_row (onward (onward (unhide HB) (unhide HI)) (unhide HB7)) (by omega) _, .inr ⟨by rw [unhide HR], A7, c7, by rw [unhide HR], by rw [unhide HR]; exact (show StoI S (w7.setRow (w.heap.size + 2) #[.int .i64 dp, .slice A7 L.length c7]) A7 (L.set p (L.getD p [] ++ [(bag, due)])) c7 from ⟨((unhide HL7).keep (KepS.setRow _ _ (.inr ⟨by omega, by omega⟩))).mono fun b _ e => .inl e, by rw [List.length_set]; exact unhide HC7⟩)⟩⟩
            case' refine_2 =>
              rw [if_pos (by rfl)]
              refine wp_build1 68 39 _ rfl (bgA (bag, due)) j0 jz 2 Try.underlying68 (unhide JI) (unhide JA) (unhide JB) (by decide) (by decide) (unhide JD) rfl rfl ?_
              have bx : Below wo.heap.size wo (wo.drew.alloc (.cells (bgA (bag, due)) 39)) := below_new (Below.refl wo.heap.size wo).drew _
              have HBx1 := hide bx
              have HN4 := hide (heap_alloc_new wo.drew (.cells (bgA (bag, due)) 39))
              refine hK _ _ ⟨fun _ => unhide HKp _ bx, ?_⟩
              clear hK K bx
              generalize wo.drew.alloc (.cells (bgA (bag, due)) 39) = V4 at HBx1 HN4 ⊢
              generalize wo.drew.heap.size = nb at HN4 ⊢
              refine anyW_one (i := 7) (by kernel_rfl) rfl (fun K hK => ?_)
              rw [if_pos (by rfl)]
              refine wp_append_any _ _ 68 rfl wo.heap.size 39 j0 jz 2 16 Try.underlying68 (unhide JI) (unhide JA) (unhide JB) (unhide JC) (unhide JD) (by decide) (.slice none 0 0) 0 [] rfl (World.ownsRow_nil _ _ _ _) A1 m c1 ((L.getD p []).flatMap bgC) rfl (unhide HFl) (fun hp => by obtain ⟨g, off, e, hc⟩ := (unhide HA1) hp; exact ⟨g, off, e, fun j u hu => kept (unhide HBx1) (hc j u hu)⟩) st_one (by unfold maxLen; omega) (by omega) (unhide HBx1).size ?_
              intro v1 w4 hown4 hg4 _
              rw [Nat.zero_add, List.nil_append] at hown4
              obtain ⟨A4, c4, rfl⟩ := own_form hown4
              have HB5 := hide (show Below wo.heap.size wo w4 from (unhide HBx1).grown hg4 (unhide HBx1).size (fun j e => by cases e))
              have HO5 := hide hown4
              have HN5 := hide ((hg4.block nb (Array.getElem?_eq_some_iff.1 (unhide HN4)).1 (by simp [Value.ownBlock])).trans (unhide HN4))
              refine hK _ _ ⟨fun _ => unhide HKp _ (unhide HB5), ?_⟩
              clear hK K hown4 hg4
              generalize w4 = V5 at HB5 HO5 HN5 ⊢

              refine anyW_one (i := 10) (by kernel_rfl) rfl (fun K hK => ?_)
              rw [if_pos (by rfl)]
              refine wp_append_lies _ _ _ 68 rfl wo.heap.size 39 j0 jz 2 16 Try.underlying68 (unhide JI) (unhide JA) (unhide JB) (unhide JC) (unhide JD) (by decide) _ _ _ rfl (unhide HO5) ⟨nb, 0, none⟩ 1 1 (bgC (bag, due)) rfl rfl (World.news_of_block (unhide HN5)) (fun u hu => by simp only [bgC, List.mem_cons, List.not_mem_nil, or_false] at hu; rcases hu with rfl | rfl <;> rfl) (by decide) (by unfold maxLen; omega) (by omega) (unhide HB5).size _ rfl ?_
              intro q cap w6 hown6 hgrow6 hat6 hlt6
              have HB6 := hide (show Below wo.heap.size wo w6 from (unhide HB5).grown hgrow6 (unhide HB5).size (fun j e => ((unhide HO5).lt j e).1))
              have HG6 := hide (show BgsIn (fun b => S b ∨ w.heap.size ≤ b ∧ b ≤ w.heap.size + 2) w6 (some ⟨q, 0, none⟩) (L.getD p [] ++ [(bag, due)]) ∧ (L.getD p [] ++ [(bag, due)]).length = m + 1 ∧ m + 1 ≤ cap from by
                have hle : (L.getD p [] ++ [(bag, due)]).length = m + 1 := by rw [List.length_append, unhide HMm]; rfl
                refine ⟨bgs_own (base := wo.heap.size) (n := m + 1) (c := cap) (by rw [show (L.getD p [] ++ [(bag, due)]).flatMap bgC = (L.getD p []).flatMap bgC ++ bgC (bag, due) from by rw [List.flatMap_append]; simp]; exact hown6) (fun b hb => by have h2 := (unhide HI).size; have h4 := unhide HZ; have h1 := (unhide HB).size; rcases hb with hb | hb; (have := unhide HOl b hb; omega); omega), hle, own_cap hown6⟩)
              refine hK _ _ ⟨fun _ => unhide HKp w6 (unhide HB6), ?_⟩
              clear hK K hown6 hgrow6 hat6 hlt6
              have HWi := hide (with_any (fun b => S b ∨ w.heap.size ≤ b ∧ b ≤ w.heap.size + 2) dp L p (L.getD p [] ++ [(bag, due)]) (some ⟨g, off, none⟩) (some ⟨q, 0, none⟩) c cap w6 (fun b hb => by have h1 := (unhide HB).size; have h2 := (unhide HI).size; have h3 := (unhide HB6).size; have h4 := unhide HZ; rcases hb with hb | hb; (have := unhide HOl b hb; omega); omega) hL (fun l hl => Nat.le_trans ((unhide HV).len l hl) (unhide HV).d.2) (unhide HPl) (((unhide HS2).below (unhide HI)).below (unhide HB6)).row (unhide HG6).1 (by rw [(unhide HG6).2.1]; exact (unhide HG6).2.2))
              unfold WithTo at HWi
              rw [(unhide HG6).2.1] at HWi
              have HWi := hide (unhide HWi)
              refine anyW_one (i := 11) (by kernel_rfl) rfl (fun K hK => ?_)
              go_simp
              go_at_call 47
              refine (unhide HWi).mono ?_
              rintro e w7 ⟨A7, c7, rfl, hl7, hc7, hb7⟩
              try go_simp
              have HB7 := hide (onward (unhide HB6) hb7)
              have HL7 := hide hl7
              have HC7 := hide hc7
              refine hK _ _ ⟨fun _ => unhide HKp w7 (unhide HB7), ?_⟩
              clear hK K hl7 hc7 hb7
              have hy7 := heap_below (unhide HY2) (unhide HB7)
              have HY7 := hide hy7
              refine anyW_one (i := 13) (by kernel_rfl) rfl (fun K hK => ?_)
              rw [if_pos (by rfl)]
              refine wp_store_row 42 _ _ rfl (w.heap.size + 2) #[.int .i64 dp, .slice A7 L.length c7] rfl rfl _ _ hy7 infoLn rfl (by simp [Value.oneCell']) ?_
              refine hK _ _ ⟨fun h => absurd (List.mem_singleton.2 rfl) h, ?_⟩
              clear hK K hy7
              refine anyW_free (i := 14) (v := .int .i64 p) rfl (by kernel_rfl) (by kernel_rfl) (by kernel_rfl) (fun _ _ _ h => h) (Or.inl ⟨by rfl, by intro Z hs; go_simp⟩) ?_
              refine anyW_free (i := 15) (v := .int .i64 0) rfl (by kernel_rfl) (by kernel_rfl) (by kernel_rfl) (fun _ _ _ h => h) (Or.inl ⟨by rfl, by intro Z hs; go_simp⟩) ?_
              refine anyW_done (by kernel_rfl) ?_ _
              go_simp
              go_wp2
              refine bodyPost_ret (v := .tuple #[lnsV dp A7 L.length c7, .int .i64 p, .int .i64 0]) (results_row3 rfl _ _ (w.heap.size + 2) _ _ _ _ _ _ rfl rfl rfl (setRow_heap _ _ _ _ _ _ (unhide HY7)) Try.underlying42 rfl infoLn) rfl ?_
              exact ⟨below_row (onward (onward (unhide HB) (unhide HI)) (unhide HB7)) (by omega) _, .inr ⟨by rw [unhide HR], A7, c7, by rw [unhide HR], by rw [unhide HR]; exact (show StoI S (w7.setRow (w.heap.size + 2) #[.int .i64 dp, .slice A7 L.length c7]) A7 (L.set p (L.getD p [] ++ [(bag, due)])) c7 from ⟨((unhide HL7).keep (KepS.setRow _ _ (.inr ⟨by omega, by omega⟩))).mono fun b _ e => .inl e, by rw [List.length_set]; exact unhide HC7⟩)⟩⟩
end Go.Proofs.Ytmmhchhekmcihaa
