/-
  Contracts of the reader's devices and of In.
-/
import Derived.Test.YtfddpdognelhmaaGreatDoorLayGa
import Derived.Deep.CutRange
import Derived.Test.YtfddpdognelhmaaGreatDoorLayPa

/- LayGd: Contract of the reader's devices. -/
namespace Go.Proofs.YtfddpdognelhmaaGreatDoor
open Go.RowKit

/-- What devices keeps. -/
structure GvS (B b : Nat) (w : World) (o : Obj) (l : List Nd) (v : Value) (ds : List Dv) (low : Dv → Prop) (wr : World) : Prop where
  rd : Rd w B b wr
  box : wr.heap[w.heap.size]? = some o
  row : wr.ownsRow (w.heap.size + 1) 57 3 v ds.length (dvsV ds)
  gen : GenD l ds
  low : ∀ d ∈ ds, low d
def lowD (i k : Nat) (d : Dv) : Prop := d.node < i ∨ (d.node = i ∧ d.win < k)
def lowE (i k : Nat) (d : Dv) : Prop := d.node < i ∨ (d.node = i ∧ (d.win < k ∨ (d.win = k ∧ d.kind = 2)))
theorem lowD.e {i k : Nat} {d : Dv} (h : lowD i k d) : lowE i k d := by unfold lowD at h; unfold lowE; omega
theorem lowE.d {i k : Nat} {d : Dv} (h : lowE i k d) : lowD i (k + 1) d := by unfold lowE at h; unfold lowD; omega
theorem lowD.up {i k : Nat} {d : Dv} (h : lowD i k d) : lowD (i + 1) 0 d := by unfold lowD at *; omega
theorem GvS.mono {B b : Nat} {w : World} {o : Obj} {l : List Nd} {v : Value} {ds : List Dv} {p q : Dv → Prop} {wr : World} (h : GvS B b w o l v ds p wr) (hpq : ∀ d, p d → q d) : GvS B b w o l v ds q wr := ⟨h.rd, h.box, h.row, h.gen, fun d hd => hpq d (h.low d hd)⟩
theorem GvS.lt {B b : Nat} {w : World} {o : Obj} {l : List Nd} {v : Value} {ds : List Dv} {p : Dv → Prop} {wr : World} (h : GvS B b w o l v ds p wr) : w.heap.size < wr.heap.size := (Array.getElem?_eq_some_iff.1 h.box).1
theorem GvS.read {B b : Nat} {w : World} {o : Obj} {l : List Nd} {v : Value} {ds : List Dv} {p : Dv → Prop} {wr w1 : World} (h : GvS B b w o l v ds p wr) (hb : b < w.heap.size) (hs : Src B b w1) (hg : wr.grownBy w1 (some b)) : GvS B b w o l v ds p w1 :=
  ⟨h.rd.step hs hg, (hg.block _ h.lt (by simp; omega)).trans h.box, owns_reads h.row hg (by omega), h.gen, h.low⟩
theorem GvS.alloc {B b : Nat} {w : World} {o : Obj} {l : List Nd} {v : Value} {ds : List Dv} {p : Dv → Prop} {wr : World} (h : GvS B b w o l v ds p wr) (o' : Obj) : GvS B b w o l v ds p (wr.alloc o') :=
  ⟨h.rd.alloc o', heap_below h.box (below_new (Below.refl _ _) o'), h.row.alloc o', h.gen, h.low⟩
theorem GvS.push {B b : Nat} {w : World} {o : Obj} {l : List Nd} {v v' : Value} {ds : List Dv} {p q : Dv → Prop} {d : Dv} {wr w1 : World} (h : GvS B b w o l v ds p wr) (hb : b < w.heap.size) (hg : wr.grownBy w1 v.ownBlock) (hr : w1.ownsRow (w.heap.size + 1) 57 3 v' (ds.length + 1) (dvsV ds ++ dvC d)) (hpq : ∀ d, p d → q d) (hd : q d) (hgen : GenD l (ds ++ [d])) : GvS B b w o l v' (ds ++ [d]) q w1 := by
  have hblk : ∀ k, v.ownBlock = some k → w.heap.size + 1 ≤ k := fun k e => (h.row.lt k e).1
  refine ⟨⟨h.rd.src.grown hg (fun k e => by have := hblk k e; omega), ⟨hg.os.trans h.rd.gr.os, hg.tape.trans h.rd.gr.tape, hg.output.trans h.rd.gr.output, Nat.le_trans h.rd.gr.size hg.size, fun k hk hne => (hg.block k (Nat.lt_of_lt_of_le hk h.rd.gr.size) (fun e => by have := hblk k e.symm; omega)).trans (h.rd.gr.block k hk hne)⟩⟩,
    (hg.block _ h.lt (fun e => by have := hblk _ e.symm; omega)).trans h.box, ?_, hgen, fun e he => ?_⟩
  · unfold dvsV at hr ⊢
    rw [List.length_append, List.flatMap_append]
    simpa using hr
  · rcases List.mem_append.1 he with he | he
    · exact hpq e (h.low e he)
    · rw [List.mem_singleton.1 he]; exact hd
theorem lowD.ne {i k : Nat} {kd : Int} {e : Dv} (h : lowD i k e) : sameD ⟨kd, (i : Int), (k : Int)⟩ e = false := by
  unfold lowD at h
  cases hs : sameD ⟨kd, (i : Int), (k : Int)⟩ e with
  | false => rfl
  | true =>
    unfold sameD at hs
    simp only [Bool.and_eq_true, decide_eq_true_eq] at hs
    omega
theorem lowE.ne {i k : Nat} {e : Dv} (h : lowE i k e) : sameD ⟨1, (i : Int), (k : Int)⟩ e = false := by
  unfold lowE at h
  cases hs : sameD ⟨1, (i : Int), (k : Int)⟩ e with
  | false => rfl
  | true =>
    unfold sameD at hs
    simp only [Bool.and_eq_true, decide_eq_true_eq] at hs
    omega
/-- What devices comes to. -/
def DevsTo (B b : Nat) (l : List Nd) (w : World) (e : Ending) (w' : World) : Prop :=
  ∃ (v : Value) (ds : List Dv), e = .returned v ∧ w'.ownsRow w.heap.size 57 3 v ds.length (dvsV ds) ∧ GenD l ds ∧ Src B b w' ∧ w.grownBy w' (some b)
set_option maxHeartbeats 4000000 in
set_option maxRecDepth 100000 in
theorem devices_any (B b : Nat) (l : List Nd) (A D : Option Addr) (c n d : Nat) (w : World) (hS : Src B b w) (hz : l.length ≤ 24) (hl : ∀ k, k < l.length → 0 ≤ (l.getD k nd0).len ∧ (l.getD k nd0).len ≤ 8) (h : NdsIn b w A l) :
    Calls Tryz.prog 26 #[.pointer (some ⟨b, 0, none⟩), layV A l.length c D n d] w (DevsTo B b l w) := by
  obtain ⟨j0, hj1, hy0, hy1, hy2⟩ := info_parts linfo_dev
  have Hj := hide hj1
  have Hy0 := hide hy0
  have Hy1 := hide hy1
  have Hy2 := hide hy2
  have hbl := hS.lt
  have HI := hide h
  have HL := hide hl
  have HS0 := hide (show GvS B b w (layO A l.length c D n d) l (.slice none 0 0) [] (lowD 0 0) (w.alloc (layO A l.length c D n d)) from
    ⟨(Rd.start hS).alloc _, heap_alloc_new w _, ⟨rfl, .inl ⟨rfl, rfl⟩⟩, GenD.nil l, fun _ h => (nomatch h)⟩)
  clear hj1 hy0 hy1 hy2 hS h hl
  go_enter Tryz.func26, Tryz.ntmps26
  go_wp2
  go_loopw [5, 6] (fun v i wr => ∃ (k : Nat) (ds : List Dv), k ≤ l.length ∧ i = .int .i64 k ∧ GvS B b w (layO A l.length c D n d) l v ds (lowD k 0) wr) (fun _ i _ => l.length - (intOf i).toNat)
  case atStart => exact ⟨0, [], Nat.zero_le _, rfl, unhide HS0⟩
  case round =>
    obtain ⟨i, ds, hi, rfl, hS⟩ := hrel
    obtain ⟨wo, rfl⟩ : ∃ wo : World, wo = wr := ⟨_, rfl⟩
    have l0 : wo.cell? ⟨w.heap.size, 0, none⟩ = some (.slice A l.length c) := by rw [Lib.cell_of_heap hS.box]; rfl
    have HS := hide hS
    clear hS
    by_cases hlt : i < l.length
    · have il : (i : Int) < (l.length : Int) := by omega
      have i0 : (0 : Int) ≤ (i : Int) := by omega
      have hln := unhide HL i hlt
      have HDv := hide (show ∀ kd wn : Int, (kd = 1 ∨ kd = 2) → 0 ≤ wn → wn < (l.getD i nd0).len → dvE l ⟨kd, (i : Int), wn⟩ = 0 from fun kd wn h1 h2 h3 => by
        rw [dvE_w (b := true) (wIn_iff.2 (by show (1 : Int) ≤ kd ∧ kd ≤ 2; omega))]
        · rfl
        · unfold hasW
          rw [Bool.and_eq_true]
          exact ⟨wIn_iff.2 ⟨by show (0 : Int) ≤ (i : Int); omega, by show (i : Int) ≤ (l.length : Int) - 1; omega⟩, wIn_iff.2 ⟨h2, by show wn ≤ (l.getD (Int.toNat (i : Int)) nd0).len - 1; rw [Int.toNat_natCast]; omega⟩⟩)
      have HN := hide (show ∀ W, w.grownBy W (some b) → ∃ g off, A = some ⟨g, off, none⟩ ∧ W.cell? ⟨g, off + i * 5 + 1, none⟩ = some (.int .i64 (l.getD i nd0).kind) ∧ W.cell? ⟨g, off + i * 5 + 2, none⟩ = some (.int .i64 (l.getD i nd0).len) from fun W hg => by
        obtain ⟨g, off, hA, _, hc⟩ := ((unhide HI).grown hg) (by omega)
        exact ⟨g, off, hA, (hc i hlt).c1, (hc i hlt).c2⟩)
      obtain ⟨g, off, rfl, q1, q2⟩ := unhide HN wo (unhide HS).rd.gr
      have HN := hide (show ∀ W, w.grownBy W (some b) → W.cell? ⟨g, off + i * 5 + 1, none⟩ = some (.int .i64 (l.getD i nd0).kind) ∧ W.cell? ⟨g, off + i * 5 + 2, none⟩ = some (.int .i64 (l.getD i nd0).len) from fun W hg => by
        obtain ⟨g', off', hA, h1, h2⟩ := unhide HN W hg
        injection hA with hA; injection hA with e1 e2; subst e1; subst e2
        exact ⟨h1, h2⟩)
      generalize (l.getD i nd0).kind = kd at *
      generalize (l.getD i nd0).len = ln at *
      obtain ⟨m, rfl⟩ := Int.eq_ofNat_of_zero_le hln.1
      have hm8 : m ≤ 8 := by omega
      clear hln
      go_wp2
      go_loopw [5, 7] (fun v k wr => ∃ (j : Nat) (es : List Dv), j ≤ m ∧ k = .int .i64 j ∧ GvS B b w (layO (some ⟨g, off, none⟩) l.length c D n d) l v es (lowD i j) wr) (fun _ k _ => m - (intOf k).toNat)
      case atStart => exact ⟨0, ds, Nat.zero_le _, rfl, unhide HS⟩
      case round =>
        obtain ⟨j, es, hj, rfl, hS2⟩ := hrel
        obtain ⟨wi, rfl⟩ : ∃ wi : World, wi = wr := ⟨_, rfl⟩
        have HS2 := hide hS2
        have l0 : wi.cell? ⟨w.heap.size, 0, none⟩ = some (.slice (some ⟨g, off, none⟩) l.length c) := by rw [Lib.cell_of_heap hS2.box]; rfl
        obtain ⟨q1, q2⟩ := unhide HN wi hS2.rd.gr
        have hsl := hS2.gen.few
        obtain ⟨ao, cp, rfl⟩ := own_form hS2.row
        clear hS2
        by_cases hlt2 : j < m
        · have jm : (j : Int) < (m : Int) := by omega
          have HD1 := hide (unhide HDv 1 (j : Int) (.inl rfl) (by omega) jm)
          have HD2 := hide (unhide HDv 2 (j : Int) (.inr rfl) (by omega) jm)
          go_upto_region 9 with fail
          generalize ((j : Int) == (m : Int) - 1) = last
          go_cut [54] from 16 to 74 (fun s54 wx => ∃ ok : Bool, s54 = .bool ok ∧ (ok = true → es.length < 24) ∧ GvS B b w (layO (some ⟨g, off, none⟩) l.length c D n d) l (.slice ao es.length cp) es (lowD i j) wx)
          case first =>
            by_cases hf : es.length < 24
            · have hf' : (es.length : Int) < 24 := by omega
              go_wp2_with fail
              refine (n_any B b 3 _ (unhide HS2).rd.src (by omega) (by omega)).mono ?_
              rintro e wx ⟨z, rfl, hz1, hz2, hs, hg⟩
              have hS3 := (unhide HS2).read hbl hs hg
              have l3 : wx.cell? ⟨w.heap.size, 0, none⟩ = some (.slice (some ⟨g, off, none⟩) l.length c) := by rw [Lib.cell_of_heap hS3.box]; rfl
              obtain ⟨p1, p2⟩ := unhide HN wx hS3.rd.gr
              have HS3 := hide hS3
              clear hs hg hS3 l0 q1 q2
              cases last
              all_goals go_wp2
              all_goals
                go_meet
                exact ⟨_, rfl, fun _ => hf, unhide HS3⟩
            · have hf' : ¬ (es.length : Int) < 24 := by omega
              go_wp2
              go_meet
              exact ⟨_, rfl, fun h => absurd h (by decide), unhide HS2⟩
          case rest =>
            obtain ⟨ok, rfl, hok, hS3⟩ := hcut
            have HS3 := hide hS3
            clear hS3 l0 q1 q2
            go_upto_if 54 with fail
            go_cut [5] from 16 to 74 (fun v wx => ∃ (ao2 : Option Addr) (cp2 : Nat) (fs : List Dv), v = .slice ao2 fs.length cp2 ∧ GvS B b w (layO (some ⟨g, off, none⟩) l.length c D n d) l v fs (lowE i j) wx)
            case first =>
              cases ok with
              | true =>
                have hlt3 := hok rfl
                have hsz3 := (unhide HS3).lt
                have HA3 := hide ((unhide HS3).alloc (.cells #[.int .i64 2, .int .i64 (i : Int), .int .i64 (j : Int)] 57))
                have HGn := hide ((unhide HS3).gen.snoc (unhide HD2) (fun e he => ((unhide HS3).low e he).ne) hlt3)
                go_wp2_with (first
                  | (at_builtin; refine wpList_append_own _ rfl _ _ 23 rfl (w.heap.size + 1) 57 j0 (.agg #[.int .i64 0, .int .i64 0, .int .i64 0]) 3 24 Tryz.underlying23 (unhide Hj) (unhide Hy0) (unhide Hy1) (unhide Hy2) rfl (by decide) _ _ _ rfl (unhide HA3).row ⟨wc.heap.size, 0, none⟩ 1 1 [.int .i64 2, .int .i64 (i : Int), .int .i64 (j : Int)] rfl rfl ?c1 ?c2 ?c3 ?c4 ?c5 ?_))
                case c2 => simp [Value.oneCell']
                case c3 => unfold maxLen; omega
                case c4 => omega
                case c5 => first | omega | (rw [World.size_alloc]; omega)
                intro v' w5 hown5 hgrow5 _
                obtain ⟨ao', cp', rfl⟩ := own_form hown5
                have HS5 := hide ((unhide HA3).push (d := ⟨2, (i : Int), (j : Int)⟩) hbl hgrow5 hown5 (fun d h => h.e) (.inr ⟨rfl, .inr ⟨rfl, rfl⟩⟩) (unhide HGn))
                clear hown5 hgrow5
                go_wp2
                go_meet
                exact ⟨ao', cp', es ++ [⟨2, (i : Int), (j : Int)⟩], by rw [List.length_append]; rfl, unhide HS5⟩
              | false =>
                go_wp2
                go_meet
                exact ⟨ao, cp, es, rfl, (unhide HS3).mono fun d h => h.e⟩
            case rest =>
              clear HS3 HS2 hok
              obtain ⟨ao2, cp2, fs, rfl, hS4⟩ := hcut
              have HS4 := hide hS4
              have hfs := hS4.gen.few
              have hsz3 := hS4.lt
              clear hS4
              by_cases hf : fs.length < 24
              · have hf' : (fs.length : Int) < 24 := by omega
                go_wp2_with fail
                refine (n_any B b 2 _ (unhide HS4).rd.src (by omega) (by omega)).mono ?_
                rintro e wd ⟨z, rfl, hz1, hz2, hs, hg⟩
                have HS5 := hide ((unhide HS4).read hbl hs hg)
                clear hs hg
                by_cases hzz : z = 0
                · have hzb : (z == 0) = true := by rw [beq_iff_eq]; exact hzz
                  have HA3 := hide ((unhide HS5).alloc (.cells #[.int .i64 1, .int .i64 (i : Int), .int .i64 (j : Int)] 57))
                  have HGn := hide ((unhide HS5).gen.snoc (unhide HD1) (fun e he => ((unhide HS5).low e he).ne) hf)
                  have hsz5 := (unhide HS5).lt
                  clear hzz
                  go_wp2_with (first
                    | (at_builtin; refine wpList_append_own _ rfl _ _ 23 rfl (w.heap.size + 1) 57 j0 (.agg #[.int .i64 0, .int .i64 0, .int .i64 0]) 3 24 Tryz.underlying23 (unhide Hj) (unhide Hy0) (unhide Hy1) (unhide Hy2) rfl (by decide) _ _ _ rfl (unhide HA3).row ⟨wd.heap.size, 0, none⟩ 1 1 [.int .i64 1, .int .i64 (i : Int), .int .i64 (j : Int)] rfl rfl ?e1 ?e2 ?e3 ?e4 ?e5 ?_))
                  case e1 => exact World.news_of_block (heap_alloc_new wd _)
                  case e2 => simp [Value.oneCell']
                  case e3 => unfold maxLen; omega
                  case e4 => omega
                  case e5 => first | omega | (rw [World.size_alloc]; omega)
                  intro v' w5 hown5 hgrow5 _
                  obtain ⟨ao', cp', rfl⟩ := own_form hown5
                  have HS6 := hide ((unhide HA3).push (d := ⟨1, (i : Int), (j : Int)⟩) hbl hgrow5 hown5 (fun d h => h.d) (.inr ⟨rfl, by show (j : Int) < ((j + 1 : Nat) : Int); omega⟩) (unhide HGn))
                  clear hown5 hgrow5
                  go_wp2
                  go_roundw
                  case rel => exact ⟨j + 1, fs ++ [⟨1, (i : Int), (j : Int)⟩], by omega, by go_num, unhide HS6⟩
                  case measure => simp [intOf]; omega
                · have hzb : (z == 0) = false := by rw [beq_eq_false_iff_ne]; exact hzz
                  clear hzz
                  go_wp2
                  go_roundw
                  case rel => exact ⟨j + 1, fs, by omega, by go_num, (unhide HS5).mono fun d h => h.d⟩
                  case measure => simp [intOf]; omega
              · have hf' : ¬ (fs.length : Int) < 24 := by omega
                go_wp2
                go_roundw
                case rel => exact ⟨j + 1, fs, by omega, by go_num, (unhide HS4).mono fun d h => h.d⟩
                case measure => simp [intOf]; omega
        · have jm : ¬ (j : Int) < (m : Int) := by omega
          go_wp2
          go_roundw
          case rel => exact ⟨i + 1, es, by omega, by go_num, (unhide HS2).mono fun d h => h.up⟩
          case measure => simp [intOf]; omega
    · have il : ¬ (i : Int) < (l.length : Int) := by omega
      go_wp2
      go_ret
      exact ⟨_, ds, rfl, own_base (unhide HS).row (Nat.le_succ _), (unhide HS).gen, (unhide HS).rd.src, (unhide HS).rd.gr⟩
end Go.Proofs.YtfddpdognelhmaaGreatDoor

/- LayGe: Contract of keep.In; what the reader's Layout keeps. -/
namespace Go.Proofs.YtfddpdognelhmaaGreatDoor
open Go.RowKit

theorem kin_any (b : Nat) (l : List Int) (x : Int) (A : Option Addr) (c : Nat) (w : World) (hz : l.length ≤ 1000000) (h : NumsIn b w A l) :
    Calls Tryz.prog 25 #[.slice A l.length c, .int .i64 x] w fun e w' => e = .returned (.bool (decide (x ∈ l))) ∧ w = w' := by
  have HI := hide h
  clear h
  go_enter Tryz.func25, Tryz.ntmps25
  go_wp2_with fail
  go_loop [5] (fun i => ∃ k : Nat, k ≤ l.length ∧ i = .int .i64 k ∧ Hid (∀ j, j < k → l.getD j 0 ≠ x)) (fun i => l.length - (intOf i).toNat)
  case atStart => exact ⟨0, Nat.zero_le _, rfl, Lib.hid fun j hj => absurd hj (Nat.not_lt_zero _)⟩
  case round =>
    obtain ⟨k, hk, rfl, hno⟩ := hrel
    by_cases hlt : k < l.length
    · obtain ⟨g, off, rfl, _, hc⟩ := (unhide HI) (by omega)
      have q := hc k hlt
      have HM := hide (show l.getD k 0 ∈ l by rw [at_k hlt]; exact List.getElem_mem _)
      have HP := hide fun (h : l.getD k 0 ≠ x) => upto_step (p := fun j => l.getD j 0 ≠ x) (k := k) hno.out h
      generalize l.getD k 0 = z at *
      have i1 : (k : Int) < (l.length : Int) := by omega
      have z0 : (0 : Int) ≤ (k : Int) := by omega
      clear hc hno
      by_cases e : z = x
      · have hb : (z == x) = true := by rw [beq_iff_eq]; exact e
        have HE := hide e
        clear e
        go_wp2
        go_ret
        exact ⟨ret_bool (by rw [← unhide HE]; exact (decide_eq_true (unhide HM)).symm), rfl⟩
      · have hb : (z == x) = false := by rw [beq_eq_false_iff_ne]; exact e
        have HE := hide (unhide HP e)
        clear e
        go_wp2
        go_round
        case rel => exact ⟨k + 1, by omega, by go_num, Lib.hid (unhide HE)⟩
        case measure => simp [intOf]; omega
    · have kl : ¬ (k : Int) < (l.length : Int) := by omega
      obtain rfl : k = l.length := by omega
      have HE := hide (show decide (x ∈ l) = false from decide_eq_false fun h => by
        obtain ⟨j, hj, he⟩ := List.getElem_of_mem h
        exact hno.out j hj (by rw [at_k hj]; exact he))
      clear hno
      go_wp2
      go_ret
      exact ⟨ret_bool (unhide HE).symm, rfl⟩

/-- What the reader's Layout keeps: the results, the box, the row of nodes, the exits. -/
structure GyS (B b : Nat) (w : World) (q : Nat) (A : Option Addr) (c : Nat) (us : List NdS) (wr : World) : Prop where
  rd : Rd w B b wr
  res : wr.heap[w.heap.size]? = some (.cells zL 25 (0, 0))
  box : wr.heap[q]? = some (.cells #[.slice A us.length c, .slice none 0 0] 25 (0, 0))
  nrow : wr.ownsRow (q + 1) 45 5 (.slice A us.length c) us.length (ndsV us)
  lies : ∀ u ∈ us, IntRow b wr u.P u.x.exits ∧ u.x.exits.length ≤ u.c
  qlt : w.heap.size < q
theorem GyS.lt {B b q : Nat} {w : World} {A : Option Addr} {c : Nat} {us : List NdS} {wr : World} (h : GyS B b w q A c us wr) : q < wr.heap.size := (Array.getElem?_eq_some_iff.1 h.box).1
theorem GyS.below {B b q : Nat} {w : World} {A : Option Addr} {c : Nat} {us : List NdS} {wr w1 : World} (h : GyS B b w q A c us wr) (hb : Below wr.heap.size wr w1) : GyS B b w q A c us w1 :=
  ⟨⟨h.rd.src.keep hb, Lib.grownBy_trans h.rd.gr (grown_below hb _)⟩, heap_below h.res hb, heap_below h.box hb, owns_later h.nrow hb, fun u hu => ⟨(h.lies u hu).1.step (KeepTy.below hb), (h.lies u hu).2⟩, h.qlt⟩
theorem GyS.read {B b q : Nat} {w : World} {A : Option Addr} {c : Nat} {us : List NdS} {wr w1 : World} (h : GyS B b w q A c us wr) (hb : b < w.heap.size) (hs : Src B b w1) (hg : wr.grownBy w1 (some b)) : GyS B b w q A c us w1 := by
  have hq := h.qlt
  have hl := h.lt
  exact ⟨h.rd.step hs hg, (hg.block _ (by omega) (by simp; omega)).trans h.res, (hg.block _ hl (by simp; omega)).trans h.box, owns_reads h.nrow hg (by omega), fun u hu => ⟨(h.lies u hu).1.grown hg, (h.lies u hu).2⟩, hq⟩
/-- A node box that is new is written. -/
theorem GyS.pushN {B b q : Nat} {w : World} {A A' : Option Addr} {c c' : Nat} {us : List NdS} {wr w1 : World} {u : NdS} (h : GyS B b w q A c us wr) (hb : b < w.heap.size) (hu : IntRow b wr u.P u.x.exits ∧ u.x.exits.length ≤ u.c)
    (hg : wr.grownBy w1 (Value.slice A us.length c).ownBlock) (hr : w1.ownsRow (q + 1) 45 5 (.slice A' (us.length + 1) c') (us.length + 1) (ndsV us ++ u.cs)) :
    GyS B b w q A' c' (us ++ [u]) (w1.setCell ⟨q, 0, none⟩ (.slice A' (us.length + 1) c')) := by
  have hq := h.qlt
  have hl := h.lt
  have hblk : ∀ k, (Value.slice A us.length c).ownBlock = some k → q + 1 ≤ k := fun k e => (h.nrow.lt k e).1
  have hk := KeepTy.grow (t' := 3) h.nrow (by decide) hg
  have hbx1 : w1.heap[q]? = some (.cells #[.slice A us.length c, .slice none 0 0] 25 (0, 0)) := (hg.block _ hl (fun e => by have := hblk q e.symm; omega)).trans h.box
  have hks := keepTy_set (t' := 3) (i := 0) hbx1 (by decide) (.slice A' (us.length + 1) c')
  have R1 : Rd w B b w1 := ⟨h.rd.src.grown hg (fun k e => by have := hblk k e; omega), ⟨hg.os.trans h.rd.gr.os, hg.tape.trans h.rd.gr.tape, hg.output.trans h.rd.gr.output, Nat.le_trans h.rd.gr.size hg.size, fun k hk hne => (hg.block k (Nat.lt_of_lt_of_le hk h.rd.gr.size) (fun e => by have := hblk k e.symm; omega)).trans (h.rd.gr.block k hk hne)⟩⟩
  refine ⟨R1.new (grown_set w1 q 0 _) (by omega) hb, heap_setOther ((hg.block _ (by omega) (fun e => by have := hblk _ e.symm; omega)).trans h.res) (by omega) _, ?_, ?_, fun z hz => ?_, hq⟩
  · rw [List.length_append]; exact heap_set hbx1 _
  · rw [List.length_append]
    have : ndsV (us ++ [u]) = ndsV us ++ u.cs := by unfold ndsV; rw [List.flatMap_append]; simp
    rw [this]
    exact own_setOther hr (own_low hr (Nat.lt_succ_self q))
  · rcases List.mem_append.1 hz with hz | hz
    · exact ⟨((h.lies z hz).1.step hk).step hks, (h.lies z hz).2⟩
    · rw [List.mem_singleton.1 hz]; exact ⟨(hu.1.step hk).step hks, hu.2⟩
/-- The exits of a node are written anew. -/
theorem GyS.setExits {B b q g : Nat} {w : World} {c : Nat} {us : List NdS} {wr : World} {k : Nat} {es : List Int} {P : Option Addr} {cp : Nat} (h : GyS B b w q (some ⟨g, 0, none⟩) c us wr) (hb : b < w.heap.size) (hk : k < us.length) (hu : IntRow b wr P es ∧ es.length ≤ cp) :
    GyS B b w q (some ⟨g, 0, none⟩) c (us.set k ⟨{ (us.getD k nds0).x with exits := es }, P, cp⟩) (wr.setCell ⟨g, k * 5 + 4, none⟩ (.slice P es.length cp)) := by
  have hq := h.qlt
  obtain ⟨g', cap, cur, hv, hg1, hgg, h4, h5, h6⟩ := h.nrow.2.resolve_left (fun e => by cases e.1)
  have hgq : q + 1 ≤ g := (h.nrow.lt g rfl).1
  have : g = g' := by injection hv with hv; injection hv with hv; injection hv
  subst this
  have hks := keepTy_set (t' := 3) (i := k * 5 + 4) hgg (by decide) (.slice P es.length cp)
  refine ⟨h.rd.new (grown_set wr g _ _) (by omega) hb, heap_setOther h.res (by omega) _, ?_, ?_, fun z hz => ?_, hq⟩
  · rw [List.length_set]; exact heap_setOther h.box (by omega) _
  · rw [List.length_set, ndsV_set us k hk es P cp]
    exact own_put h.nrow _
  · rcases List.mem_or_eq_of_mem_set hz with hz | hz
    · exact ⟨(h.lies z hz).1.step hks, (h.lies z hz).2⟩
    · rw [hz]; exact ⟨hu.1.step hks, hu.2⟩
theorem conv_nmG (W : World) (i : Nat) : (convert 52 9 (.slice (some ⟨W.heap.size, 0, none⟩) 1 1)).run Tryz.prog (W.alloc (.cells #[.int .u8 (65 + (i : Int))] 5)) = .ok (.string (nmG i)) (W.alloc (.cells #[.int .u8 (65 + (i : Int))] 5)) := by
  have h := run_convert_bytes_arg (P := Tryz.prog) (W.alloc (.cells #[.int .u8 (65 + (i : Int))] 5)) 52 5 Tryz.underlying52 Tryz.underlying5 W.heap.size 0 1 1 [65 + (i : Int)] rfl (fun j hj => by
    obtain rfl : j = 0 := by omega
    rw [Lib.cell_of_heap (heap_alloc_new W _)]; rfl) 9 Tryz.underlying9
  have e : strOfNums [65 + (i : Int)] = nmG i := by
    unfold strOfNums nmG
    show (⟨#[UInt8.ofNat (65 + (i : Int)).toNat]⟩ : ByteArray) = _
    rw [show (65 + (i : Int)).toNat = 65 + i by omega]
  rw [e] at h
  exact h
theorem own_setRowOther {w : World} {B q n size : Nat} {t : TypeId} {v : Value} {xs : List Value} {cs : Array Value} (h : w.ownsRow B t size v n xs) (hq : ∀ g, v.ownBlock = some g → g ≠ q) : (w.setRow q cs).ownsRow B t size v n xs := by
  refine ⟨h.1, ?_⟩
  rcases h.2 with h1 | ⟨g', cap, cur, h1, h2, h3, h4⟩
  · exact .inl h1
  · exact .inr ⟨g', cap, cur, h1, h2, setRow_keep h3 (hq g' (by rw [h1]; rfl)) cs, h4⟩
/-- The box of a node that is made is written. -/
theorem GyS.setBox {B b q p : Nat} {w : World} {A : Option Addr} {c : Nat} {us : List NdS} {wr : World} {cs cs' : Array Value} (h : GyS B b w q A c us wr) (hb : b < w.heap.size) (hp : wr.heap[p]? = some (.cells cs 45 (0, 0))) (hqp : q < p)
    (hg : ∀ g, (Value.slice A us.length c).ownBlock = some g → g ≠ p) : GyS B b w q A c us (wr.setRow p cs') := by
  have hq := h.qlt
  exact ⟨h.rd.new (grown_setRow wr p cs') (by omega) hb, setRow_keep h.res (by omega) cs', setRow_keep h.box (by omega) cs', own_setRowOther h.nrow hg, fun u hu => ⟨(h.lies u hu).1.step (keepTy_setRow hp (by decide)), (h.lies u hu).2⟩, hq⟩
theorem GyS.setBoxC {B b q p i : Nat} {w : World} {A : Option Addr} {c : Nat} {us : List NdS} {wr : World} {cs : Array Value} (h : GyS B b w q A c us wr) (hb : b < w.heap.size) (hp : wr.heap[p]? = some (.cells cs 45 (0, 0))) (hqp : q < p)
    (hg : ∀ g, (Value.slice A us.length c).ownBlock = some g → g ≠ p) (v : Value) : GyS B b w q A c us (wr.setCell ⟨p, i, none⟩ v) := by
  have hq := h.qlt
  refine ⟨h.rd.new (grown_set wr p i v) (by omega) hb, heap_setOther h.res (by omega) v, heap_setOther h.box (by omega) v, own_setOther h.nrow ?_, fun u hu => ⟨(h.lies u hu).1.step (keepTy_set hp (by decide) v), (h.lies u hu).2⟩, hq⟩
  cases e : (Value.slice A us.length c).ownBlock with
  | none => exact .inl rfl
  | some g => exact .inr fun e2 => hg g e (Option.some.inj e2)
theorem SlB.cell {q i : Nat} {w : World} {A A' : Option Addr} {n c n' c' : Nat} {t : TypeId} {fz : Nat × Nat} (h : w.heap[q]? = some (.cells #[.slice A n c, .slice A' n' c'] t fz)) (v : Value) : SlB q w (w.setCell ⟨q, i, none⟩ v) :=
  ⟨(SlB.row h #[]).only, fun g o u hg hu => by rw [World.cell?_setCell_other _ _ _ _ (fun e => by have := congrArg Addr.block e; simp at this; exact hg this.symm)]; exact hu⟩
theorem StG.mono {i : Nat} {p q : Int → Prop} {x : Nd} (h : StG i p x) (hpq : ∀ t, p t → q t) : StG i q x := by
  rcases h with ⟨h1, h2, h3, h4, t, h5, h6⟩ | ⟨h1, h2, h3, t, u, h4, h5, h6, h7⟩ | ⟨h1, h2, h3, t, h4, h5⟩
  · exact .inl ⟨h1, h2, h3, h4, t, h5, hpq t h6⟩
  · exact .inr (.inl ⟨h1, h2, h3, t, u, h4, h5, hpq t h6, hpq u h7⟩)
  · exact .inr (.inr ⟨h1, h2, h3, t, h4, hpq t h5⟩)
theorem StG.len {i : Nat} {p : Int → Prop} {x : Nd} {k : Int} (h : StG i p x) (hk : x.kind = 7) : StG i p { x with len := k } ∨ ∃ t, x.exits = [t] ∧ p t := by
  rcases h with ⟨h1, h2, h3, h4, t, h5, h6⟩ | ⟨h1, _⟩ | ⟨h1, _⟩
  · exact .inr ⟨t, h5, h6⟩
  · omega
  · omega
end Go.Proofs.YtfddpdognelhmaaGreatDoor
