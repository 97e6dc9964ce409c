/-
  Messages: elements in rows; Decode.
-/
import Derived.Test.YtglgobmmmghdoaaGreatDoorMsgY
import Derived.Test.YtglgobmmmghdoaaGreatDoorTelW

/- MsgAA: The telegrams of valid messages are small. -/
namespace Go.Proofs.YtglgobmmmghdoaaGreatDoor

theorem chunks_at {α : Type} : ∀ (f : Nat) (l : List α), ∀ x ∈ chunks f l, x.length ≤ 8 ∧ 0 < x.length ∧ ∀ y ∈ x, y ∈ l := by
  intro f
  induction f with
  | zero => intro l x hx; cases hx
  | succ f ih =>
    intro l x hx
    unfold chunks at hx
    split at hx
    · cases hx
    · rename_i h0
      rcases List.mem_cons.1 hx with rfl | hx
      · refine ⟨by rw [List.length_take]; omega, by rw [List.length_take]; omega, fun y hy => List.mem_of_mem_take hy⟩
      · obtain ⟨h1, h2, h3⟩ := ih (l.drop 8) x hx
        exact ⟨h1, h2, fun y hy => List.mem_of_mem_drop (h3 y hy)⟩
theorem lett_size {s : ByteArray} (h : lettB s = true) : s.size ≤ 20 := by
  unfold lettB at h
  rw [Bool.and_eq_true, decide_eq_true_eq] at h
  exact h.1
theorem name_size {s : ByteArray} (h : nameB s = true) : s.size ≤ 12 := by
  unfold nameB at h
  rw [Bool.and_eq_true, decide_eq_true_eq] at h
  omega
theorem cls_size {s : ByteArray} (h : clsB s = true) : s.size = 1 := by
  unfold clsB at h
  simp only [Bool.or_eq_true, beq_iff_eq] at h
  have hl : s.toList.length = s.size := by rw [ByteArray.toList_eq]; simp
  rcases h with h | h | h <;> rw [h] at hl <;> simpa using hl.symm
theorem leg_small {g : Lg} (h : lgB g = true) : ∀ p ∈ legP g, p.size ≤ 20 := by
  obtain ⟨h1, h2, h3⟩ := lgB_iff.1 h
  intro p hp
  simp only [legP, List.mem_cons, List.not_mem_nil, or_false] at hp
  rcases hp with rfl | rfl | rfl | rfl
  · have := fdes_size h1; omega
  · rw [size_str]; omega
  · have := port_size h2; omega
  · have := cls_size h3; omega
/-- The parts that a valid message gives are few and short. -/
theorem write_small {m : Msg} (hv : valE m = 0) {x : Int} (hx : x ∈ keysL m.kind) : ∀ ps ∈ writeP m x, (1 ≤ ps.length ∧ ps.length ≤ 8) ∧ ∀ p ∈ ps, p.size ≤ 20 := by
  obtain ⟨hk, -, -, hf, -, hr, -⟩ := valE_ok.1 hv
  have f1 : formB m x = true := List.all_eq_true.1 hf x hx
  have r1 : rangB m x = true := List.all_eq_true.1 hr x hx
  obtain ⟨k1, k5⟩ := inB_iff.1 (show inB m.kind 1 5 = true from hk)
  obtain ⟨n, hn⟩ := Int.eq_ofNat_of_zero_le (show 0 ≤ m.kind by omega)
  have hm := keys_mem (k := n) (by omega) (by omega) x (by rw [← hn]; exact hx)
  simp only [List.mem_cons, List.not_mem_nil, or_false] at hm
  intro ps hps
  rcases hm with rfl | rfl | rfl | rfl | rfl | rfl | rfl | rfl | rfl | rfl | rfl
  · obtain rfl := List.mem_singleton.1 (show ps ∈ [[(⟨#[49, 76]⟩ : ByteArray) ++ m.port, decS m.num]] from hps)
    refine ⟨⟨by simp, by simp⟩, fun p hp => ?_⟩
    simp only [List.mem_cons, List.not_mem_nil, or_false] at hp
    have := port_size (show portB m.port = true from f1)
    rcases hp with rfl | rfl
    · rw [cat1L_size]; omega
    · have := decS_size m.num; omega
  · obtain rfl := List.mem_singleton.1 (show ps ∈ [legP m.inn] from hps)
    exact ⟨⟨by simp [legP], by simp [legP]⟩, leg_small f1⟩
  · obtain rfl := List.mem_singleton.1 (show ps ∈ [legP m.out] from hps)
    exact ⟨⟨by simp [legP], by simp [legP]⟩, leg_small f1⟩
  · obtain ⟨g, hg, rfl⟩ := List.mem_map.1 (show ps ∈ m.onw.map legP from hps)
    exact ⟨⟨by simp [legP], by simp [legP]⟩, leg_small (List.all_eq_true.1 (show m.onw.all lgB = true from f1) g hg)⟩
  · obtain rfl := List.mem_singleton.1 (show ps ∈ [[txt m.pl m.pa m.ps, three m.cnt]] from hps)
    have r2 : (vld m.pl m.pa m.ps && inB m.cnt 1 99) = true := r1
    rw [Bool.and_eq_true] at r2
    refine ⟨⟨by simp, by simp⟩, fun p hp => ?_⟩
    simp only [List.mem_cons, List.not_mem_nil, or_false] at hp
    rcases hp with rfl | rfl
    · rw [txt_size r2.1]; omega
    · rw [three_size]; omega
  · obtain rfl := List.mem_singleton.1 (show ps ∈ [[wLoad m.load, wSta m.sta, three m.sq]] from hps)
    refine ⟨⟨by simp, by simp⟩, fun p hp => ?_⟩
    simp only [List.mem_cons, List.not_mem_nil, or_false] at hp
    rcases hp with rfl | rfl | rfl
    · cases m.load <;> decide
    · unfold wSta; repeat' split
      all_goals decide
    · rw [three_size]; omega
  · obtain rfl := List.mem_singleton.1 (show ps ∈ [[(⟨#[75]⟩ : ByteArray), decS m.wgt]] from hps)
    refine ⟨⟨by simp, by simp⟩, fun p hp => ?_⟩
    simp only [List.mem_cons, List.not_mem_nil, or_false] at hp
    rcases hp with rfl | rfl
    · decide
    · have := decS_size m.wgt; omega
  · obtain rfl := List.mem_singleton.1 (show ps ∈ [[m.sur, m.giv]] from hps)
    have f2 : (!m.sur.toList.isEmpty && (lettB m.sur && lettB m.giv)) = true := f1
    rw [Bool.and_eq_true, Bool.and_eq_true] at f2
    refine ⟨⟨by simp, by simp⟩, fun p hp => ?_⟩
    simp only [List.mem_cons, List.not_mem_nil, or_false] at hp
    rcases hp with rfl | rfl
    · exact lett_size f2.2.1
    · exact lett_size f2.2.2
  · have hps' : ps ∈ (if m.exc = 0 then ([] : List (List ByteArray)) else [[wExc m.exc]]) := hps
    split at hps'
    · cases hps'
    · obtain rfl := List.mem_singleton.1 hps'
      refine ⟨⟨by simp, by simp⟩, fun p hp => ?_⟩
      obtain rfl := List.mem_singleton.1 hp
      unfold wExc; repeat' split
      all_goals decide
  · obtain rfl := List.mem_singleton.1 (show ps ∈ [[m.node]] from hps)
    refine ⟨⟨by simp, by simp⟩, fun p hp => ?_⟩
    obtain rfl := List.mem_singleton.1 hp
    have := name_size (show nameB m.node = true from f1)
    omega
  · obtain ⟨x, hx2, rfl⟩ := List.mem_map.1 (show ps ∈ (chunks m.lst.length m.lst).map (fun x => x.map three) from hps)
    obtain ⟨h1, h2, -⟩ := chunks_at _ _ x hx2
    refine ⟨by rw [List.length_map]; omega, fun p hp => ?_⟩
    obtain ⟨y, -, rfl⟩ := List.mem_map.1 hp
    rw [three_size]; omega
theorem flat_lens {α β : Type} (f : α → List β) (n : Nat) (l : List α) (h : ∀ x ∈ l, (f x).length ≤ n) : (l.flatMap f).length ≤ l.length * n := by
  induction l with
  | nil => simp
  | cons x l ih =>
    rw [List.flatMap_cons, List.length_append, List.length_cons, Nat.add_mul]
    have h1 := h x (List.mem_cons_self ..)
    have h2 := ih fun y hy => h y (List.mem_cons_of_mem _ hy)
    omega
theorem keys_count (k : Int) : (keysL k).length ≤ 9 := by
  unfold keysL
  repeat' split
  all_goals decide
theorem enc_els {m : Msg} (hv : valE m = 0) : (encT m).els.length ≤ 360 := by
  obtain ⟨hk, -, hl, -⟩ := valE_ok.1 hv
  unfold limB at hl
  rw [Bool.and_eq_true, decide_eq_true_eq, decide_eq_true_eq] at hl
  obtain ⟨k1, k5⟩ := inB_iff.1 (show inB m.kind 1 5 = true from hk)
  obtain ⟨n, hn⟩ := Int.eq_ofNat_of_zero_le (show 0 ≤ m.kind by omega)
  have h := flat_lens (elsK m) 40 (keysL m.kind) fun x hx => by
    unfold elsK
    rw [List.length_map]
    exact write_few m hl.1 hl.2 x (keys_mem (k := n) (by omega) (by omega) x (by rw [← hn]; exact hx))
  have := keys_count m.kind
  show ((keysL m.kind).flatMap (elsK m)).length ≤ 360
  omega
theorem one_size (k : Int) : (one k).size = 1 := by unfold one; rw [strOfNums_size]; rfl
theorem enc_small {m : Msg} (hv : valE m = 0) : SmallT (encT m) := by
  refine ⟨by have := enc_els hv; omega, ?_, ?_, fun e he => ?_⟩
  · show (wKind m.kind).size ≤ 3000
    unfold wKind; repeat' split
    all_goals decide
  · show (wAct m.act).size ≤ 3000
    unfold wAct; repeat' split
    all_goals decide
  · obtain ⟨x, hx, hm⟩ := List.mem_flatMap.1 (show e ∈ (keysL m.kind).flatMap (elsK m) from he)
    obtain ⟨ps, hps, rfl⟩ := List.mem_map.1 (show e ∈ (writeP m x).map (fun ps => (one x, ps)) from hm)
    obtain ⟨⟨h0, h1⟩, h2⟩ := write_small hv hx ps hps
    exact ⟨by show ps.length ≤ 3000; omega, by show (one x).size ≤ 3000; rw [one_size]; omega, fun p hp => by have := h2 p hp; omega⟩
end Go.Proofs.YtglgobmmmghdoaaGreatDoor

/- MsgAB: Contract of Decode. -/
namespace Go.Proofs.YtglgobmmmghdoaaGreatDoor
open Go.RowKit

/-- A telegram that memory can hold. -/
structure FitT (t : Tel) : Prop where
  n : t.els.length ≤ 500
  p : ∀ e ∈ t.els, e.2.length ≤ 1100000
  s : ∀ e ∈ t.els, ∀ p ∈ e.2, p.size ≤ 1000000000000
theorem readG_lens (num : ByteArray → Int) (lg : El → Lg) (z : Int) (prt : Msg → El → ByteArray) (m : Msg) (e : El) : (readG num lg z prt m e).onw.length ≤ m.onw.length + 1 ∧ (readG num lg z prt m e).lst.length ≤ m.lst.length + e.2.length := by
  unfold readG
  by_cases h86 : e.1 = one 86
  · rw [if_pos h86]; constructor <;> simp
  rw [if_neg h86]
  by_cases h73 : e.1 = one 73
  · rw [if_pos h73]; constructor <;> simp
  rw [if_neg h73]
  by_cases h70 : e.1 = one 70
  · rw [if_pos h70]; constructor <;> simp
  rw [if_neg h70]
  by_cases h79 : e.1 = one 79
  · rw [if_pos h79]; constructor <;> simp
  rw [if_neg h79]
  by_cases h78 : e.1 = one 78
  · rw [if_pos h78]; constructor <;> simp
  rw [if_neg h78]
  by_cases h83 : e.1 = one 83
  · rw [if_pos h83]; constructor <;> simp
  rw [if_neg h83]
  by_cases h87 : e.1 = one 87
  · rw [if_pos h87]; constructor <;> simp
  rw [if_neg h87]
  by_cases h80 : e.1 = one 80
  · rw [if_pos h80]; constructor <;> simp
  rw [if_neg h80]
  by_cases h88 : e.1 = one 88
  · rw [if_pos h88]; constructor <;> simp
  rw [if_neg h88]
  by_cases h74 : e.1 = one 74
  · rw [if_pos h74]; constructor <;> simp
  rw [if_neg h74]
  by_cases h66 : e.1 = one 66
  · rw [if_pos h66]; constructor <;> simp
  rw [if_neg h66]
  constructor <;> simp
theorem fold_lens (t : Tel) (h : FitT t) (m0 : Msg) (h1 : m0.onw = []) (h2 : m0.lst = []) : ∀ k, k ≤ t.els.length → ((t.els.take k).foldl readE m0).onw.length ≤ k ∧ ((t.els.take k).foldl readE m0).lst.length ≤ k * 1100000 := by
  intro k
  induction k with
  | zero => intro _; simp [h1, h2]
  | succ k ih =>
    intro hk
    obtain ⟨i1, i2⟩ := ih (by omega)
    have hlt : k < t.els.length := by omega
    rw [List.take_succ_eq_append_getElem hlt, List.foldl_append]
    have := readG_lens numV lgE (-1) (fun _ e => trim1L (pt e 0)) ((t.els.take k).foldl readE m0) t.els[k]
    have h3 := h.p _ (List.getElem_mem hlt)
    have e : readE ((t.els.take k).foldl readE m0) t.els[k] = readG numV lgE (-1) (fun _ e => trim1L (pt e 0)) ((t.els.take k).foldl readE m0) t.els[k] := rfl
    show (readE ((t.els.take k).foldl readE m0) t.els[k]).onw.length ≤ k + 1 ∧ (readE ((t.els.take k).foldl readE m0) t.els[k]).lst.length ≤ (k + 1) * 1100000
    rw [e]
    omega
theorem fold_step (t : Tel) (m0 : Msg) {k : Nat} (h : k < t.els.length) : (t.els.take (k + 1)).foldl readE m0 = readE ((t.els.take k).foldl readE m0) (t.els.getD k el0) := by
  rw [List.take_succ_eq_append_getElem h, List.foldl_append, at_k h]; rfl

theorem results_row2 {P : Program} {fn : Func} {p q : Tmp} {ty : TypeId} (h : fn.results = #[.cell p ty, .tmp q]) (tmps : Array Value) (w : World) (g : Nat) (t : TypeId) (cs : Array Value) (fr : Nat × Nat) (d : TypeDesc) (v : Value)
    (hp : tmps.getD p undef = .pointer (some ⟨g, 0, none⟩)) (hq : tmps.getD q undef = v) (hg : w.heap[g]? = some (.cells cs t fr))
    (hu : P.underlying ty = some d) (hd : (match d with | .struct _ | .array _ _ => true | _ => false) = true) (hi : (P.info? ty).map (·.size) = some cs.size) :
    (results fn tmps).run P w = .ok (.tuple #[.agg cs, v]) w := by
  have hp' : tmps[p]?.getD undef = .pointer (some ⟨g, 0, none⟩) := by simpa using hp
  have hq' : tmps[q]?.getD undef = v := by simpa using hq
  simp [results, h, hp', hq', asAddr, run_loadVar_row w g t ty cs fr d hg hu hd hi]
theorem dec_els {b : Nat} {w : World} {A : Option Addr} {es : List El} (h : ElsIn b w A es) {k : Nat} (hk : k < es.length) : ∃ g off A' c', A = some ⟨g, off, none⟩ ∧ w.cell? ⟨g, off + k * 2, none⟩ = some (.string (es.getD k el0).1) ∧ w.cell? ⟨g, off + k * 2 + 1, none⟩ = some (.slice A' (es.getD k el0).2.length c') ∧ StrsIn b w A' (es.getD k el0).2 := by
  obtain ⟨g, off, hA, _, hc⟩ := h (by omega)
  obtain ⟨h1, A', c', h2, h3⟩ := hc k hk
  exact ⟨g, off, A', c', hA, h1, h2, h3⟩

/-- What Decode gives; its list within its capacity. -/
def DecodedC (b : Nat) (W : World) (t : Tel) (e : Ending) (w' : World) : Prop :=
  ∃ A c L d, e = .returned (.tuple #[msgV (decM t) A c L d, .int .i64 (decE t)]) ∧ LegsIn b w' A (decM t).onw ∧ NumsIn b w' L (decM t).lst ∧ Below W.heap.size W w' ∧ (decM t).lst.length ≤ d
/-- What Decode gives. -/
def Decoded (b : Nat) (W : World) (t : Tel) (e : Ending) (w' : World) : Prop :=
  ∃ A c L d, e = .returned (.tuple #[msgV (decM t) A c L d, .int .i64 (decE t)]) ∧ LegsIn b w' A (decM t).onw ∧ NumsIn b w' L (decM t).lst ∧ Below W.heap.size W w'

theorem own_le {w : World} {base size n c : Nat} {e : TypeId} {A : Option Addr} {xs : List Value} (h : w.ownsRow base e size (.slice A n c) n xs) : n ≤ c := by
  rcases h.2 with ⟨_, h0⟩ | ⟨_, _, _, hv, _, _, hle, _⟩
  · have := h.1; omega
  · injection hv with _ _ hc
    rw [hc]; exact hle
set_option maxHeartbeats 1000000 in
set_option maxRecDepth 100000 in
theorem dec_cap (b : Nat) (t : Tel) (A : Option Addr) (c : Nat) (w : World) (hb : b < w.heap.size) (ht : FitT t) (hE : ElsIn b w A t.els) (hK : Keys w) (hT : Tabs w)
    (h66 : ∀ W A c L d, Tabs W → b < W.heap.size → NumsIn b W L (readT t).lst → valE (readT t) = 0 → 66 ∈ keysL (readT t).kind → (readT t).lst.length ≤ d → Calls Tryz.prog 22 #[msgV (readT t) A c L d, .int .i32 66] W (Writes b W (writeP (readT t) 66))) :
    Calls Tryz.prog 8 #[.agg #[.string t.kind, .string t.change, .slice A t.els.length c]] w (DecodedC b w t) := by
  obtain ⟨W1, hW⟩ : ∃ W1 : World, (w.alloc (.cells #[.string t.kind, .string t.change, .slice A t.els.length c] 25)).alloc (.cells zeroL 35) = W1 := ⟨_, rfl⟩
  have b1 : Below w.heap.size w W1 := by rw [← hW]; exact below_new ((Below.refl _ _).alloc (Nat.le_refl _) _) _
  have hz1 : W1.heap.size = w.heap.size + 1 + 1 := by rw [← hW, World.size_alloc, World.size_alloc]
  have hx : W1.heap[w.heap.size]? = some (.cells #[.string t.kind, .string t.change, .slice A t.els.length c] 25 (0, 0)) := by rw [← hW, Below.heap_alloc _ _ _ (by rw [World.size_alloc]; omega)]; exact heap_alloc_new w _
  have hr : W1.heap[w.heap.size + 1]? = some (.cells zeroL 35 (0, 0)) := by
    have := heap_alloc_new (w.alloc (.cells #[.string t.kind, .string t.change, .slice A t.els.length c] 25)) (.cells zeroL 35)
    rwa [World.size_alloc, hW] at this
  have z0 : W1.cell? ⟨w.heap.size, 0, none⟩ = some (.string t.kind) := by rw [Lib.cell_of_heap hx]; rfl
  have z1 : W1.cell? ⟨w.heap.size, 1, none⟩ = some (.string t.change) := by rw [Lib.cell_of_heap hx]; rfl
  have HG0 := hide (find_0 t.kind W1.drew (hT.keep b1).words)
  have HG1 := hide (find_1 t.change W1.drew (hT.keep b1).words)
  have HG2 := hide (find_0 t.kind (W1.alloc (.cells zeroL 35)).drew (hT.keep (below_new b1 _)).words)
  have HG3 := hide (find_1 t.change (W1.alloc (.cells zeroL 35)).drew (hT.keep (below_new b1 _)).words)
  have HWd := hide (hT.keep b1).words
  have HWe := hide (fun o => (hT.keep (below_new b1 o)).words)
  have za := fun o => alloc_cell z0 o
  have zb := fun o => alloc_cell z1 o
  have HX1 := hide hx
  have HR1 := hide hr
  have HB1 := hide b1
  have HZ1 := hide hz1
  have HE := hide hE
  have HT := hide hT
  have HK := hide hK
  have HFit := hide ht
  have HBB := hide hb
  have H66 := hide h66
  clear b1 hz1 hx hr hE hT hK ht hb h66
  go_enter Tryz.func8, Tryz.ntmps8
  go_wp2_with fail
  -- REGION
  refine wp_region_any (by kernel_rfl) ?_
  change wpAny _ _ _ _ _ _ _ (World.drew _)
  refine wpAny_take (i := 0) (v := .pointer (some ⟨w.heap.size, 0, none⟩)) rfl (by kernel_rfl) (by kernel_rfl) (by kernel_rfl) (fun _ _ _ h => h) (Or.inl ⟨by rfl, by intro w; go_simp⟩) ?_
  refine wpAny_take (i := 3) (v := .pointer (some ⟨w.heap.size, 1, none⟩)) rfl (by kernel_rfl) (by kernel_rfl) (by kernel_rfl) (fun _ _ _ h => h) (Or.inl ⟨by rfl, by intro w; go_simp⟩) ?_
  simp only [Act.put]
  change wpAny _ _ _ _ _ #[true, false, false, true, false, false, false, false, false] _ _
  refine (?m14 : ?X14 → _) ?r14
  case m14 =>
    intro h14
    refine (?m13 : ?X13 → _) ?r13
    case m13 =>
      intro h13
      refine (?m12 : ?X12 → _) ?r12
      case m12 =>
        intro h12
        refine (?m11 : ?X11 → _) ?r11
        case m11 =>
          intro h11
          refine (?m10 : ?X10 → _) ?r10
          case m10 =>
            intro h10
            refine (?m9 : ?X9 → _) ?r9
            case m9 =>
              intro h9
              refine (?m8 : ?X8 → _) ?r8
              case m8 =>
                intro h8
                refine (?m7 : ?X7 → _) ?r7
                case m7 =>
                  intro h7
                  refine (?m6 : ?X6 → _) ?r6
                  case m6 =>
                    intro h6
                    refine (?m5 : ?X5 → _) ?r5
                    case m5 =>
                      intro h5
                      refine (?m4 : ?X4 → _) ?r4
                      case m4 =>
                        intro h4
                        refine (?m3 : ?X3 → _) ?r3
                        case m3 =>
                          intro h3
                          refine (?m2 : ?X2 → _) ?r2
                          case m2 =>
                            intro h2
                            refine (?m1 : ?X1 → _) ?r1
                            case m1 =>
                              intro h1
                              refine wpAny_ready (rs := [1, 4, 7]) (by kernel_rfl) (by simp) ?_
                              refine AllReady.cons rfl (fun K hK => ?_) ?_
                              · go_simp
                                refine hK _ _ ?_
                                clear hK K
                                change wpAny _ _ _ _ _ #[true, true, false, true, false, false, false, false, false] _ _
                                exact h3
                              refine AllReady.cons rfl (fun K hK => ?_) ?_
                              · go_simp
                                refine hK _ _ ?_
                                clear hK K
                                change wpAny _ _ _ _ _ #[true, false, false, true, true, false, false, false, false] _ _
                                exact h2
                              refine AllReady.cons rfl (fun K hK => ?_) ?_
                              · go_simp
                                refine hK _ _ ?_
                                clear hK K
                                change wpAny _ _ _ _ _ #[true, false, false, true, false, false, false, true, false] _ _
                                exact h1
                              exact AllReady.nil
                            case r1 =>
                              refine wpAny_ready (rs := [1, 4]) (by kernel_rfl) (by simp) ?_
                              refine AllReady.cons rfl (fun K hK => ?_) ?_
                              · go_simp
                                refine hK _ _ ?_
                                clear hK K
                                change wpAny _ _ _ _ _ #[true, true, false, true, false, false, false, true, false] _ _
                                exact h5
                              refine AllReady.cons rfl (fun K hK => ?_) ?_
                              · go_simp
                                refine hK _ _ ?_
                                clear hK K
                                change wpAny _ _ _ _ _ #[true, false, false, true, true, false, false, true, false] _ _
                                exact h4
                              exact AllReady.nil
                          case r2 =>
                            refine wpAny_ready (rs := [1, 7]) (by kernel_rfl) (by simp) ?_
                            refine AllReady.cons rfl (fun K hK => ?_) ?_
                            · go_simp
                              refine hK _ _ ?_
                              clear hK K
                              change wpAny _ _ _ _ _ #[true, true, false, true, true, false, false, false, false] _ _
                              exact h6
                            refine AllReady.cons rfl (fun K hK => ?_) ?_
                            · go_simp
                              refine hK _ _ ?_
                              clear hK K
                              change wpAny _ _ _ _ _ #[true, false, false, true, true, false, false, true, false] _ _
                              exact h4
                            exact AllReady.nil
                        case r3 =>
                          refine wpAny_ready (rs := [2, 4, 7]) (by kernel_rfl) (by simp) ?_
                          refine AllReady.cons rfl (fun K hK => ?_) ?_
                          · go_simp
                            go_at_call 23
                            refine (unhide HG0).mono ?_
                            rintro e wt ⟨rfl, rfl⟩
                            try go_simp
                            refine hK _ _ ?_
                            clear hK K
                            change wpAny _ _ _ _ _ #[true, true, true, true, false, false, false, false, false] _ _
                            exact h7
                          refine AllReady.cons rfl (fun K hK => ?_) ?_
                          · go_simp
                            refine hK _ _ ?_
                            clear hK K
                            change wpAny _ _ _ _ _ #[true, true, false, true, true, false, false, false, false] _ _
                            exact h6
                          refine AllReady.cons rfl (fun K hK => ?_) ?_
                          · go_simp
                            refine hK _ _ ?_
                            clear hK K
                            change wpAny _ _ _ _ _ #[true, true, false, true, false, false, false, true, false] _ _
                            exact h5
                          exact AllReady.nil
                      case r4 =>
                        refine wpAny_ready (rs := [1]) (by kernel_rfl) (by simp) ?_
                        refine AllReady.cons rfl (fun K hK => ?_) ?_
                        · go_simp
                          refine hK _ _ ?_
                          clear hK K
                          change wpAny _ _ _ _ _ #[true, true, false, true, true, false, false, true, false] _ _
                          exact h8
                        exact AllReady.nil
                    case r5 =>
                      refine wpAny_ready (rs := [2, 4]) (by kernel_rfl) (by simp) ?_
                      refine AllReady.cons rfl (fun K hK => ?_) ?_
                      · go_simp
                        go_at_call 23
                        refine (unhide HG2).mono ?_
                        rintro e wt ⟨rfl, rfl⟩
                        try go_simp
                        refine hK _ _ ?_
                        clear hK K
                        change wpAny _ _ _ _ _ #[true, true, true, true, false, false, false, true, false] _ _
                        exact h9
                      refine AllReady.cons rfl (fun K hK => ?_) ?_
                      · go_simp
                        refine hK _ _ ?_
                        clear hK K
                        change wpAny _ _ _ _ _ #[true, true, false, true, true, false, false, true, false] _ _
                        exact h8
                      exact AllReady.nil
                  case r6 =>
                    refine wpAny_ready (rs := [2, 7]) (by kernel_rfl) (by simp) ?_
                    refine AllReady.cons rfl (fun K hK => ?_) ?_
                    · go_simp
                      go_at_call 23
                      refine (unhide HG0).mono ?_
                      rintro e wt ⟨rfl, rfl⟩
                      try go_simp
                      refine hK _ _ ?_
                      clear hK K
                      change wpAny _ _ _ _ _ #[true, true, true, true, true, false, false, false, false] _ _
                      exact h10
                    refine AllReady.cons rfl (fun K hK => ?_) ?_
                    · go_simp
                      refine hK _ _ ?_
                      clear hK K
                      change wpAny _ _ _ _ _ #[true, true, false, true, true, false, false, true, false] _ _
                      exact h8
                    exact AllReady.nil
                case r7 =>
                  refine wpAny_ready (rs := [4, 7]) (by kernel_rfl) (by simp) ?_
                  refine AllReady.cons rfl (fun K hK => ?_) ?_
                  · go_simp
                    refine hK _ _ ?_
                    clear hK K
                    change wpAny _ _ _ _ _ #[true, true, true, true, true, false, false, false, false] _ _
                    exact h10
                  refine AllReady.cons rfl (fun K hK => ?_) ?_
                  · go_simp
                    refine hK _ _ ?_
                    clear hK K
                    change wpAny _ _ _ _ _ #[true, true, true, true, false, false, false, true, false] _ _
                    exact h9
                  exact AllReady.nil
              case r8 =>
                refine wpAny_ready (rs := [2]) (by kernel_rfl) (by simp) ?_
                refine AllReady.cons rfl (fun K hK => ?_) ?_
                · go_simp
                  go_at_call 23
                  refine (unhide HG2).mono ?_
                  rintro e wt ⟨rfl, rfl⟩
                  try go_simp
                  refine hK _ _ ?_
                  clear hK K
                  change wpAny _ _ _ _ _ #[true, true, true, true, true, false, false, true, false] _ _
                  exact h11
                exact AllReady.nil
            case r9 =>
              refine wpAny_ready (rs := [4]) (by kernel_rfl) (by simp) ?_
              refine AllReady.cons rfl (fun K hK => ?_) ?_
              · go_simp
                refine hK _ _ ?_
                clear hK K
                change wpAny _ _ _ _ _ #[true, true, true, true, true, false, false, true, false] _ _
                exact h11
              exact AllReady.nil
          case r10 =>
            refine wpAny_ready (rs := [5, 7]) (by kernel_rfl) (by simp) ?_
            refine AllReady.cons rfl (fun K hK => ?_) ?_
            · go_simp
              go_at_call 23
              refine (unhide HG1).mono ?_
              rintro e wt ⟨rfl, rfl⟩
              try go_simp
              refine hK _ _ ?_
              clear hK K
              change wpAny _ _ _ _ _ #[true, true, true, true, true, true, false, false, false] _ _
              exact h12
            refine AllReady.cons rfl (fun K hK => ?_) ?_
            · go_simp
              refine hK _ _ ?_
              clear hK K
              change wpAny _ _ _ _ _ #[true, true, true, true, true, false, false, true, false] _ _
              exact h11
            exact AllReady.nil
        case r11 =>
          refine wpAny_ready (rs := [5]) (by kernel_rfl) (by simp) ?_
          refine AllReady.cons rfl (fun K hK => ?_) ?_
          · go_simp
            go_at_call 23
            refine (unhide HG3).mono ?_
            rintro e wt ⟨rfl, rfl⟩
            try go_simp
            refine hK _ _ ?_
            clear hK K
            change wpAny _ _ _ _ _ #[true, true, true, true, true, true, false, true, false] _ _
            exact h13
          exact AllReady.nil
      case r12 =>
        refine wpAny_take (i := 6) (v := .agg #[.int .i64 (findW (wordS 0) (-1) t.kind), .int .i64 (findW (wordS 1) (-1) t.change), .string ⟨#[]⟩, .int .i64 0, .string ⟨#[]⟩, .int .i64 0, .string ⟨#[]⟩, .int .i64 0, .string ⟨#[]⟩, .string ⟨#[]⟩, .string ⟨#[]⟩, .int .i64 0, .string ⟨#[]⟩, .int .i64 0, .string ⟨#[]⟩, .string ⟨#[]⟩, .slice none 0 0, .int .i64 0, .int .i64 0, .int .i64 0, .int .i64 0, .bool false, .int .i64 0, .int .i64 0, .int .i64 0, .string ⟨#[]⟩, .string ⟨#[]⟩, .int .i64 0, .string ⟨#[]⟩, .slice none 0 0]) rfl (by kernel_rfl) (by kernel_rfl) (by kernel_rfl) (fun _ _ _ h => h) (Or.inl ⟨by rfl, by intro w; go_simp⟩) ?_
        simp only [Act.put, List.setIfInBounds_toArray, List.set_cons_succ, List.set_cons_zero]
        change wpAny _ _ _ _ _ #[true, true, true, true, true, true, true, false, false] _ _
        refine wpAny_ready (rs := [7]) (by kernel_rfl) (by simp) ?_
        refine AllReady.cons rfl (fun K hK => ?_) ?_
        · go_simp
          refine hK _ _ ?_
          clear hK K
          change wpAny _ _ _ _ _ #[true, true, true, true, true, true, true, true, false] _ _
          exact h14
        exact AllReady.nil
    case r13 =>
      refine wpAny_take (i := 6) (v := .agg #[.int .i64 (findW (wordS 0) (-1) t.kind), .int .i64 (findW (wordS 1) (-1) t.change), .string ⟨#[]⟩, .int .i64 0, .string ⟨#[]⟩, .int .i64 0, .string ⟨#[]⟩, .int .i64 0, .string ⟨#[]⟩, .string ⟨#[]⟩, .string ⟨#[]⟩, .int .i64 0, .string ⟨#[]⟩, .int .i64 0, .string ⟨#[]⟩, .string ⟨#[]⟩, .slice none 0 0, .int .i64 0, .int .i64 0, .int .i64 0, .int .i64 0, .bool false, .int .i64 0, .int .i64 0, .int .i64 0, .string ⟨#[]⟩, .string ⟨#[]⟩, .int .i64 0, .string ⟨#[]⟩, .slice none 0 0]) rfl (by kernel_rfl) (by kernel_rfl) (by kernel_rfl) (fun _ _ _ h => h) (Or.inl ⟨by rfl, by intro w; go_simp⟩) ?_
      simp only [Act.put, List.setIfInBounds_toArray, List.set_cons_succ, List.set_cons_zero]
      change wpAny _ _ _ _ _ #[true, true, true, true, true, true, true, true, false] _ _
      exact h14
  case r14 =>
    refine wpAny_ready (rs := [8]) (by kernel_rfl) (by simp) ?_
    refine AllReady.cons (o := { dst := none, op := .store 35 (.tmp 4) (.tmp 15), type := 0, pos := _, after := _, guard := none }) rfl (fun K hK => ?_) AllReady.nil
    rw [if_pos (by simp [Region.wanted])]
    refine wp_store_row 35 (.tmp 4) (.tmp 15) rfl W1.heap.size (msgL (startM t) none 0 none 0) rfl rfl 35 zeroL (heap_alloc_new W1 _) infoM rfl (one_msgL _ _ _ _ _) (hK _ _ ?_)
    clear hK K
    refine wpAny_done (by kernel_rfl) ?_ _
    have hS : ((W1.alloc (.cells zeroL 35)).drew.setRow W1.heap.size (msgL (startM t) none 0 none 0)) = (W1.alloc (msgO (startM t) none 0 none 0)).drew := congrArg World.drew (World.setRow_alloc_new _ _ _ _)
    rw [hS]
    clear hS
    obtain ⟨W2, hW2⟩ : ∃ W2 : World, (W1.alloc (msgO (startM t) none 0 none 0)).drew = W2 := ⟨_, rfl⟩
    have hR0 : Rdg W1 none b (W1.heap.size + 1) W1.heap.size (startM t) none 0 none 0 W2 := by
      rw [← hW2]
      exact (Rdg.start (World.grownBy.refl W1 none) (startM t) rfl rfl (Nat.lt_of_lt_of_le (unhide HBB) (unhide HB1).size) (fun k e => by cases e)).drew
    rw [hW2]
    clear hW2 HG0 HG1 HG2 HG3 HWd HWe za zb z0 z1 hW
    have b12 := gr_none hR0.gr
    have k0 : W2.cell? ⟨W1.heap.size, 0, none⟩ = some (.int .i64 (findW wKind (-1) t.kind)) := hR0.cell 0
    have hx2 := (b12.block _ (by have := unhide HZ1; omega)).trans (unhide HX1)
    have hr2 := (b12.block _ (by have := unhide HZ1; omega)).trans (unhide HR1)
    have x2 : W2.cell? ⟨w.heap.size, 2, none⟩ = some (.slice A t.els.length c) := by rw [Lib.cell_of_heap hx2]; rfl
    have HR0 := hide hR0
    have HX2 := hide hx2
    have HR2 := hide hr2
    have HB2 := hide (onward (unhide HB1) b12)
    clear hx2 hr2 b12 hR0
    by_cases hk : findW wKind (-1) t.kind < 1
    · have HD := hide (show decM t = msg0 ∧ decE t = 4 by unfold decM decE; rw [if_pos hk, if_pos hk]; exact ⟨rfl, rfl⟩)
      generalize findW wKind (-1) t.kind = kk at *
      go_wp2_with (refine wpList_storeM (unhide HR2) msg0 none 0 none 0 rfl _ _ rfl rfl rfl rfl ?_)
      have hR := setRow_heap W2 (w.heap.size + 1) zeroL (msgL msg0 none 0 none 0) _ _ (unhide HR2)
      refine bodyPost_ret (v := .tuple #[msgV msg0 none 0 none 0, .int .i64 4]) (results_row2 rfl _ _ (w.heap.size + 1) _ _ _ _ _ rfl rfl hR undM' undM infoM) rfl ?_
      refine ⟨none, 0, none, 0, ?_, ?_, ?_, ⟨below_setRow (unhide HB2) (Nat.le_succ _) _, by rw [(unhide HD).1]; exact Nat.le_refl 0⟩⟩
      · rw [(unhide HD).1, (unhide HD).2]
      · rw [(unhide HD).1]; exact LegsIn.nil _ _ _
      · rw [(unhide HD).1]; exact NumsIn.nil _ _ _
    · have HD := hide (show decM t = (if okD t then readT t else msg0) ∧ decE t = (if okD t then 0 else 3) by unfold decM decE; rw [if_neg hk, if_neg hk]; exact ⟨rfl, rfl⟩)
      have hk2 : ¬ findW (wordS 0) (-1) t.kind < 1 := hk
      generalize hkk : findW wKind (-1) t.kind = kk at *
      clear hkk hk2
      have hn := (unhide HFit).n
      have HE1 := hide ((unhide HE).keep (unhide HB1))
      go_wp2
      go_loopw [23] (fun i wr => ∃ (k : Nat) (A' : Option Addr) (c' : Nat) (L' : Option Addr) (d' : Nat), k ≤ t.els.length ∧ i = .int .i64 k ∧ Rdg W1 none b (W1.heap.size + 1) W1.heap.size ((t.els.take k).foldl readE (startM t)) A' c' L' d' wr) (fun i _ => t.els.length - (intOf i).toNat)
      case atStart => exact ⟨0, none, 0, none, 0, Nat.zero_le _, rfl, unhide HR0⟩
      case round =>
        obtain ⟨k, A', c', L', d', hkn, rfl, hRr⟩ := hrel
        obtain ⟨wo, rfl⟩ : ∃ wo : World, wo = wr := ⟨_, rfl⟩
        have HRo := hide hRr
        have HL := hide (fold_lens t (unhide HFit) (startM t) rfl rfl k hkn)
        clear hRr
        by_cases hlt : k < t.els.length
        · have kl : (k : Int) < (t.els.length : Int) := by omega
          obtain ⟨g, off, A3, c3, rfl, e0, e1, hS⟩ := dec_els (unhide HE1) hlt
          have bo := gr_none (unhide HRo).gr
          have y0 := kept bo e0
          have y1 := kept bo e1
          have HSt := hide hS
          have HF := hide (fold_step t (startM t) hlt)
          have hmem : t.els.getD k el0 ∈ t.els := by rw [at_k hlt]; exact List.getElem_mem _
          have HP1 := hide ((unhide HFit).p _ hmem)
          have HP2 := hide ((unhide HFit).s _ hmem)
          have HWo := hide (((unhide HT).keep (onward (unhide HB1) bo)).words)
          clear e0 e1 hS hmem bo
          generalize t.els.getD k el0 = e at *
          obtain ⟨K, ps⟩ := e
          have bb := (Below.refl wo.heap.size wo).alloc (Nat.le_refl _) (.cells #[.string K, .slice A3 ps.length c3] 55)
          have HR5 := hide ((unhide HRo).below bb)
          have HW5 := hide ((unhide HWo).keep bb)
          clear bb
          go_wp2_with fail
          refine (rd_any W1 b (W1.heap.size + 1) W1.heap.size _ A' L' A3 c' d' c3 (K, ps) _ (unhide HR5) b (unhide HSt) (unhide HW5) (unhide HP2) (by have := (unhide HL).1; omega) (by have := (unhide HL).2; have := unhide HP1; simp only [] at this ⊢; omega)).mono ?_
          rintro en w4 ⟨rfl, A4, c4, L4, d4, hR4⟩
          have HR4 := hide hR4
          clear hR4
          go_wp2
          go_roundw
          case rel => exact ⟨k + 1, A4, c4, L4, d4, by omega, by go_num, by rw [unhide HF]; exact unhide HR4⟩
          case measure => simp [intOf]; omega
        · have kl : ¬ (k : Int) < (t.els.length : Int) := by omega
          have hRT : Rdg W1 none b (W1.heap.size + 1) W1.heap.size (readT t) A' c' L' d' wo := by
            have := unhide HRo
            rw [List.take_of_length_le (by omega)] at this
            exact this
          have HRT := hide hRT
          have HX := hide hRT.mb
          have bo := onward (unhide HB1) (gr_none hRT.gr)
          have hlr := fold_lens t (unhide HFit) (startM t) rfl rfl t.els.length (Nat.le_refl _)
          rw [List.take_length] at hlr
          have h1e : (readT t).onw.length ≤ t.els.length := hlr.1
          have h2e : (readT t).lst.length ≤ t.els.length * 1100000 := hlr.2
          have HTo := hide ((unhide HT).keep bo)
          have HKo := hide ((unhide HK).keep bo)
          have HEo := hide ((unhide HE).keep bo)
          have HBo := hide bo
          clear hRT bo hlr HRo HL
          by_cases hv : valE (readT t) = 0
          · have HV := hide hv
            have HEnc := hide (enc_ok b (readT t) A' L' c' d' wo (Nat.lt_of_lt_of_le (unhide HBB) (unhide HBo).size) (unhide HRT).in_legs (unhide HRT).in_nums (unhide HKo) (unhide HTo) hv (fun W h1 h2 h3 h4 => unhide H66 W A' c' L' d' h1 h2 h3 hv h4 (own_le (unhide HRT).nums)))
            clear hv
            have HSm := hide (enc_small (unhide HV))
            go_wp2_with (refine wpList_loadM (unhide HX) rfl _ rfl rfl ?_)
            refine (unhide HEnc).mono ?_
            rintro e w5 ⟨A5, c5, rfl, hE5, hb5⟩
            have b6 := (Below.refl w5.heap.size w5).alloc (Nat.le_refl _) (.cells #[.string (wKind (readT t).kind), .string (wAct (readT t).act), .slice A5 (encT (readT t)).els.length c5] 25)
            have hb56 := onward hb5 b6
            have HR6 := hide ((unhide HRT).below hb56)
            have hx6 := ((gr_none (unhide HR6).gr).block _ (by have := unhide HZ1; omega)).trans (unhide HX1)
            have hr6 := ((gr_none (unhide HR6).gr).block _ (by have := unhide HZ1; omega)).trans (unhide HR1)
            have x0 := (Lib.cell_of_heap hx6 0)
            have x1 := (Lib.cell_of_heap hx6 1)
            have x2b := (Lib.cell_of_heap hx6 2)
            clear hx6 hr6 x2
            cases hs : sameT (encT (readT t)) t with
            | true =>
              have HSame := hide (show Calls Tryz.prog 25 #[.agg #[.string (wKind (readT t).kind), .string (wAct (readT t).act), .slice A5 (encT (readT t)).els.length c5], .agg #[.string t.kind, .string t.change, .slice A t.els.length c]] (w5.alloc (.cells #[.string (wKind (readT t).kind), .string (wAct (readT t).act), .slice A5 (encT (readT t)).els.length c5] 25)) fun e w' => e = .returned (.bool true) ∧ Below (w5.alloc (.cells #[.string (wKind (readT t).kind), .string (wAct (readT t).act), .slice A5 (encT (readT t)).els.length c5] 25)).heap.size (w5.alloc (.cells #[.string (wKind (readT t).kind), .string (wAct (readT t).act), .slice A5 (encT (readT t)).els.length c5] 25)) w' by
                have := same_tel b (encT (readT t)) t A5 A c5 c (w5.alloc (.cells #[.string (wKind (readT t).kind), .string (wAct (readT t).act), .slice A5 (encT (readT t)).els.length c5] 25)) (unhide HSm) (hE5.keep b6) ((unhide HEo).keep hb56)
                rwa [hs] at this)
              have HOK := hide (show okD t = true by
                unfold okD
                rw [decide_eq_true (unhide HV), Bool.true_and]
                exact decide_eq_true (sameT_iff.1 hs))
              clear hE5 hb5 b6 hb56 hs
              go_wp2_with (first | (go_at_call 25; refine (unhide HSame).mono ?_; rintro e w7 ⟨rfl, hb7⟩; have HR7 := hide ((unhide HR6).below hb7); have hr7 := ((gr_none (unhide HR7).gr).block _ (by have := unhide HZ1; omega)).trans (unhide HR1); have HM7 := hide (unhide HR7).mb; have HRR7 := hide hr7; clear hb7 hr7) | (refine wpList_loadM (unhide HM7) rfl _ rfl rfl ?_) | (refine wpList_storeM (unhide HRR7) (readT t) A' c' L' d' rfl _ _ rfl rfl rfl rfl ?_))
              have hR := setRow_heap w7 (w.heap.size + 1) zeroL (msgL (readT t) A' c' L' d') _ _ (unhide HRR7)
              have hD := unhide HD
              rw [unhide HOK, if_pos rfl, if_pos rfl] at hD
              refine bodyPost_ret (v := .tuple #[msgV (readT t) A' c' L' d', .int .i64 0]) (results_row2 rfl _ _ (w.heap.size + 1) _ _ _ _ _ rfl rfl hR undM' undM infoM) rfl ?_
              have b7 := onward (unhide HB1) (gr_none (unhide HR7).gr)
              have hg7 : w7.grownBy (w7.setRow (w.heap.size + 1) (msgL (readT t) A' c' L' d')) (some (w.heap.size + 1)) := ⟨rfl, rfl, rfl, by simp [World.setRow], fun k hk hne => setRow_other _ _ _ _ (by simpa using hne)⟩
              refine ⟨A', c', L', d', ?_, ?_, ?_, ⟨below_setRow b7 (Nat.le_succ _) _, by rw [hD.1]; exact own_le (unhide HR7).nums⟩⟩
              · rw [hD.1, hD.2]
              · rw [hD.1]; exact legs_own (owns_other (unhide HR7).legs hg7 (fun k e => by injection e with e; have := unhide HZ1; omega)) (unhide HR7).hb
              · rw [hD.1]; exact nums_own (owns_other (unhide HR7).nums hg7 (fun k e => by injection e with e; have := unhide HZ1; omega)) (unhide HR7).hb
            | false =>
              have HSame := hide (show Calls Tryz.prog 25 #[.agg #[.string (wKind (readT t).kind), .string (wAct (readT t).act), .slice A5 (encT (readT t)).els.length c5], .agg #[.string t.kind, .string t.change, .slice A t.els.length c]] (w5.alloc (.cells #[.string (wKind (readT t).kind), .string (wAct (readT t).act), .slice A5 (encT (readT t)).els.length c5] 25)) fun e w' => e = .returned (.bool false) ∧ Below (w5.alloc (.cells #[.string (wKind (readT t).kind), .string (wAct (readT t).act), .slice A5 (encT (readT t)).els.length c5] 25)).heap.size (w5.alloc (.cells #[.string (wKind (readT t).kind), .string (wAct (readT t).act), .slice A5 (encT (readT t)).els.length c5] 25)) w' by
                have := same_tel b (encT (readT t)) t A5 A c5 c (w5.alloc (.cells #[.string (wKind (readT t).kind), .string (wAct (readT t).act), .slice A5 (encT (readT t)).els.length c5] 25)) (unhide HSm) (hE5.keep b6) ((unhide HEo).keep hb56)
                rwa [hs] at this)
              have HOK := hide (show okD t = false by
                unfold okD
                rw [decide_eq_true (unhide HV), Bool.true_and]
                exact decide_eq_false (fun e => by rw [sameT_iff.2 e] at hs; cases hs))
              clear hE5 hb5 b6 hb56 hs
              go_wp2_with (first | (go_at_call 25; refine (unhide HSame).mono ?_; rintro e w7 ⟨rfl, hb7⟩; have HR7 := hide ((unhide HR6).below hb7); have hr7 := ((gr_none (unhide HR7).gr).block _ (by have := unhide HZ1; omega)).trans (unhide HR1); have HM7 := hide (unhide HR7).mb; have HRR7 := hide hr7; clear hb7 hr7) | (refine wpList_storeM (unhide HRR7) msg0 none 0 none 0 rfl _ _ rfl rfl rfl rfl ?_))
              have hR := setRow_heap w7 (w.heap.size + 1) zeroL (msgL msg0 none 0 none 0) _ _ (unhide HRR7)
              have hD := unhide HD
              rw [unhide HOK, if_neg (by decide), if_neg (by decide)] at hD
              refine bodyPost_ret (v := .tuple #[msgV msg0 none 0 none 0, .int .i64 3]) (results_row2 rfl _ _ (w.heap.size + 1) _ _ _ _ _ rfl rfl hR undM' undM infoM) rfl ?_
              have b7 := onward (unhide HB1) (gr_none (unhide HR7).gr)
              refine ⟨none, 0, none, 0, ?_, ?_, ?_, ⟨below_setRow b7 (Nat.le_succ _) _, by rw [hD.1]; exact Nat.le_refl 0⟩⟩
              · rw [hD.1, hD.2]
              · rw [hD.1]; exact LegsIn.nil _ _ _
              · rw [hD.1]; exact NumsIn.nil _ _ _
          · have HEnc := hide (enc_bad b (readT t) A' L' c' d' wo (by omega) (by omega) (unhide HRT).in_legs (unhide HRT).in_nums (unhide HKo) hv)
            have HOK := hide (show okD t = false by unfold okD; rw [decide_eq_false hv]; rfl)
            have hne : (valE (readT t) != 0) = true := by rw [bne_iff_ne]; exact hv
            clear hv
            generalize valE (readT t) = ev at *
            go_wp2_with (refine wpList_loadM (unhide HX) rfl _ rfl rfl ?_)
            refine (unhide HEnc).mono ?_
            rintro e w5 ⟨rfl, hb5⟩
            have b6 := (Below.refl w5.heap.size w5).alloc (Nat.le_refl _) (.cells #[.string ⟨#[]⟩, .string ⟨#[]⟩, .slice none 0 0] 25)
            have HR7 := hide ((unhide HRT).below (onward hb5 b6))
            have hr7 := ((gr_none (unhide HR7).gr).block _ (by have := unhide HZ1; omega)).trans (unhide HR1)
            have HRR7 := hide hr7
            clear hb5 b6 hr7
            go_wp2_with (refine wpList_storeM (unhide HRR7) msg0 none 0 none 0 rfl _ _ rfl rfl rfl rfl ?_)
            have hR := setRow_heap _ (w.heap.size + 1) zeroL (msgL msg0 none 0 none 0) _ _ (unhide HRR7)
            have hD := unhide HD
            rw [unhide HOK, if_neg (by decide), if_neg (by decide)] at hD
            refine bodyPost_ret (v := .tuple #[msgV msg0 none 0 none 0, .int .i64 3]) (results_row2 rfl _ _ (w.heap.size + 1) _ _ _ _ _ rfl rfl hR undM' undM infoM) rfl ?_
            have b7 := onward (unhide HB1) (gr_none (unhide HR7).gr)
            refine ⟨none, 0, none, 0, ?_, ?_, ?_, ⟨below_setRow b7 (Nat.le_succ _) _, by rw [hD.1]; exact Nat.le_refl 0⟩⟩
            · rw [hD.1, hD.2]
            · rw [hD.1]; exact LegsIn.nil _ _ _
            · rw [hD.1]; exact NumsIn.nil _ _ _
  -- REGION ENDS
theorem dec_ok (b : Nat) (t : Tel) (A : Option Addr) (c : Nat) (w : World) (hb : b < w.heap.size) (ht : FitT t) (hE : ElsIn b w A t.els) (hK : Keys w) (hT : Tabs w)
    (h66 : ∀ W A c L d, Tabs W → b < W.heap.size → NumsIn b W L (readT t).lst → valE (readT t) = 0 → 66 ∈ keysL (readT t).kind → (readT t).lst.length ≤ d → Calls Tryz.prog 22 #[msgV (readT t) A c L d, .int .i32 66] W (Writes b W (writeP (readT t) 66))) :
    Calls Tryz.prog 8 #[.agg #[.string t.kind, .string t.change, .slice A t.els.length c]] w (Decoded b w t) :=
  (dec_cap b t A c w hb ht hE hK hT h66).mono fun _ _ ⟨A, c, L, d, e, h1, h2, h3, _⟩ => ⟨A, c, L, d, e, h1, h2, h3⟩
end Go.Proofs.YtglgobmmmghdoaaGreatDoor
