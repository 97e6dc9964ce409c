/-
  Custody (layer 16): the document's own Clear and Revoke: what they give is a row of the call's own.
-/
import Derived.Test.YtbjpcajhceapkaaCusJ
import Derived.Test.YtbjpcajhceapkaaAppK
import Derived.Test.YtbjpcajhceapkaaAnyZ
import Derived.Deep.CutRange
namespace Go.Proofs.Ytbjpcajhceapkaa
open Go.RowKit

/-- Seals in a row of a call's own. -/
abbrev SesO (B : Nat) (w : World) (A : Option Addr) (c : Nat) (l : List Se) : Prop := w.ownsRow B 54 2 (.slice A l.length c) l.length (l.flatMap Se.cs)
def GivesO (w : World) (l : List Se) (er : Int) (e : Ending) (w' : World) : Prop :=
  ∃ A c, e = .returned (.tuple #[cusV A l.length c, .int .i64 er]) ∧ SesO w.heap.size w' A c l ∧ Below w.heap.size w w'
theorem givesO_no {w W : World} {b c : Nat} {l o : List Se} {A : Option Addr} {er ev : Int} (h : QS w b l A c W) (ho : o = []) (he : er = ev) : GivesO w o er (.returned (.tuple #[cusV none 0 0, .int .i64 ev])) (W.setRow (w.heap.size + 1) #[.slice none 0 0]) := by
  subst ho he
  exact ⟨none, 0, rfl, World.ownsRow_nil _ _ _ _, below_row h.bel (by omega) _⟩
theorem givesO_yes {w W : World} {B n' c' : Nat} {l' o : List Se} {A' : Option Addr} {er : Int} (ho : o = l') (he : er = 0) (bel : Below w.heap.size w W) (hB : w.heap.size + 2 ≤ B) (hn : l'.length = n')
    (own : W.ownsRow B 54 2 (.slice A' n' c') n' (l'.flatMap Se.cs)) : GivesO w o er (.returned (.tuple #[cusV A' n' c', .int .i64 0])) (W.setRow (w.heap.size + 1) #[.slice A' n' c']) := by
  subst ho he hn
  exact ⟨A', c', rfl, own_base (own.kept (grown_row W _ _) (.inr (fun e => by have := (own.lt _ e).1; omega))) (by omega), below_row bel (by omega) _⟩
theorem sesO_in {B b : Nat} {w : World} {A : Option Addr} {c : Nat} {l : List Se} (h : SesO B w A c l) (hb : b < B ∨ w.heap.size ≤ b) : SesIn b w A l := RowIn.own h hb
theorem sesO_form {B : Nat} {w : World} {A : Option Addr} {c : Nat} {l : List Se} (h : SesO B w A c l) : (A = none ∧ c = 0 ∧ l = []) ∨ ∃ g, A = some ⟨g, 0, none⟩ ∧ l.length ≤ c ∧ c ≤ 9223372036854775807 ∧ (∀ j u, (l.flatMap Se.cs)[j]? = some u → w.cell? ⟨g, j, none⟩ = some u) := by
  rcases h.2 with ⟨h1, h2⟩ | ⟨g, cap, cur, hv, hb, hg, h3, h4, h5, ht⟩
  · injection h1 with e1 e2 e3
    exact .inl ⟨e1, e3, List.eq_nil_of_length_eq_zero h2⟩
  · injection hv with e1 e2 e3
    subst e3
    refine .inr ⟨g, e1, h3, h4, fun j u hu => ?_⟩
    rw [Lib.cell_of_heap hg, ← Array.getElem?_toList]
    rw [← ht, List.getElem?_take] at hu
    split at hu
    · exact hu
    · cases hu
theorem flat_news {l : List Se} {k : Nat} (hk : k ≤ l.length) : ((l.take k).flatMap Se.cs).length = k * 2 ∧ ((l.drop k).flatMap Se.cs).length = (l.length - k) * 2 := by
  rw [flatK_len Se.cs 2 Se.cs_len, flatK_len Se.cs 2 Se.cs_len, List.length_take, List.length_drop]
  exact ⟨by rw [Nat.min_eq_left hk], rfl⟩
theorem flat_src {l : List Se} {k g : Nat} {w : World} (hk : k ≤ l.length) (hc : ∀ j u, (l.flatMap Se.cs)[j]? = some u → w.cell? ⟨g, j, none⟩ = some u) :
    (∀ j u, ((l.take k).flatMap Se.cs)[j]? = some u → w.cell? ⟨g, 0 + j, none⟩ = some u) ∧ ∀ j u, ((l.drop k).flatMap Se.cs)[j]? = some u → w.cell? ⟨g, k * 2 + j, none⟩ = some u := by
  obtain ⟨h1, h2⟩ := flat_take Se.cs 2 Se.cs_len l k hk
  refine ⟨fun j u hu => ?_, fun j u hu => ?_⟩
  · rw [← h1, List.getElem?_take] at hu
    rw [Nat.zero_add]
    split at hu
    · exact hc j u hu
    · cases hu
  · rw [← h2, List.getElem?_drop] at hu
    exact hc _ u hu

/-- Behind the first append and the built slice of one seal. -/
abbrev preC (bag im : Int) (W3 : World) (l : List Se) (k : Nat) (v1 : Value) (hb : Nat) (Z : World) : Prop :=
  Z.ownsRow W3.heap.size 54 2 v1 k ((l.take k).flatMap Se.cs) ∧ Below W3.heap.size W3 Z ∧ Z.heap[hb]? = some (.cells (Se.arr ⟨bag, im⟩) 54)

set_option maxHeartbeats 4000000 in
set_option maxRecDepth 100000 in
theorem rqclear_any (B : Nat) (l : List Se) (bag im : Int) (A : Option Addr) (c : Nat) (w : World) (hv : ValQ l) (h : SesO B w A c l) :
    Calls Try.prog 12 #[cusV A l.length c, .int .i64 bag, .int .i64 im] w (GivesO w (clearL l bag im) (clearE l bag im)) := by
  obtain ⟨W1, hW⟩ : ∃ W1 : World, (w.alloc (cusO A l.length c)).alloc (cusO none 0 0) = W1 := ⟨_, rfl⟩
  have HS := hide (show QS w w.heap.size l A c W1 from by rw [← hW]; exact QS.start (sesO_in h (.inr (Nat.le_refl _))))
  have HOw := hide (fun W (hb : Below w.heap.size w W) => owns_later h hb)
  have HBX := hide (unhide HS).bx
  have HRS := hide (unhide HS).rs
  have HV := hide hv
  have HZ := hide hv.len
  clear hv h
  by_cases h1 : 1 ≤ bag ∧ bag ≤ 40
  case neg =>
    have HE := hide (clearE_bad (l := l) (im := im) (.inl h1))
    by_cases h3 : bag < 1
    · go_enter Try.func12, Try.ntmps12
      go_wp2_with (refine wpList_storeCu (A := none) (n := 0) (c := 0) (unhide HRS) rfl _ _ rfl rfl rfl ?_)
      refine bodyPost_ret (v := .tuple #[cusV none 0 0, .int .i64 1]) (results_row2' rfl _ _ (w.heap.size + 1) _ _ _ _ _ rfl rfl (setRow_heap W1 (w.heap.size + 1) _ #[.slice none 0 0] _ _ (unhide HRS)) Try.underlying27 rfl infoCu) rfl ?_
      exact givesO_no (unhide HS) (unhide HE).2 (unhide HE).1
    · have h4 : 40 < bag := by omega
      go_enter Try.func12, Try.ntmps12
      go_wp2_with (refine wpList_storeCu (A := none) (n := 0) (c := 0) (unhide HRS) rfl _ _ rfl rfl rfl ?_)
      refine bodyPost_ret (v := .tuple #[cusV none 0 0, .int .i64 1]) (results_row2' rfl _ _ (w.heap.size + 1) _ _ _ _ _ rfl rfl (setRow_heap W1 (w.heap.size + 1) _ #[.slice none 0 0] _ _ (unhide HRS)) Try.underlying27 rfl infoCu) rfl ?_
      exact givesO_no (unhide HS) (unhide HE).2 (unhide HE).1
  have g1 : ¬ bag < 1 := by omega
  have g2 : ¬ 40 < bag := by omega
  by_cases h2 : 1 ≤ im ∧ im ≤ 1048576
  case neg =>
    have HE := hide (clearE_bad (l := l) (bag := bag) (.inr h2))
    by_cases h3 : im < 1
    · go_enter Try.func12, Try.ntmps12
      go_wp2_with (refine wpList_storeCu (A := none) (n := 0) (c := 0) (unhide HRS) rfl _ _ rfl rfl rfl ?_)
      refine bodyPost_ret (v := .tuple #[cusV none 0 0, .int .i64 1]) (results_row2' rfl _ _ (w.heap.size + 1) _ _ _ _ _ rfl rfl (setRow_heap W1 (w.heap.size + 1) _ #[.slice none 0 0] _ _ (unhide HRS)) Try.underlying27 rfl infoCu) rfl ?_
      exact givesO_no (unhide HS) (unhide HE).2 (unhide HE).1
    · have h4 : 1048576 < im := by omega
      go_enter Try.func12, Try.ntmps12
      go_wp2_with (refine wpList_storeCu (A := none) (n := 0) (c := 0) (unhide HRS) rfl _ _ rfl rfl rfl ?_)
      refine bodyPost_ret (v := .tuple #[cusV none 0 0, .int .i64 1]) (results_row2' rfl _ _ (w.heap.size + 1) _ _ _ _ _ rfl rfl (setRow_heap W1 (w.heap.size + 1) _ #[.slice none 0 0] _ _ (unhide HRS)) Try.underlying27 rfl infoCu) rfl ?_
      exact givesO_no (unhide HS) (unhide HE).2 (unhide HE).1
  have g3 : ¬ im < 1 := by omega
  have g4 : ¬ 1048576 < im := by omega
  have HC := hide (fun W (hs : QS w w.heap.size l A c W) => rqcleared_any w.heap.size l A c W (unhide HV) hs.ses)
  have H1 := hide h1
  have H2 := hide h2
  clear h1 h2
  go_enter Try.func12, Try.ntmps12
  go_wp2_with (refine wpList_loadCu (unhide HBX) rfl _ rfl rfl ?_)
  refine (unhide HC W1 (unhide HS)).mono ?_
  rintro e w2 ⟨A2, c2, rfl, hn2, hb2⟩
  have HS2 := hide ((unhide HS).below hb2)
  have HN2 := hide (hn2 w.heap.size (.inl (by have := (unhide HS).lt; omega)))
  clear hn2 hb2 HS HBX HRS hW HC
  have HIn := hide (kin_any w.heap.size (l.map Se.bag) bag A2 c2 w2 (by have := unhide HZ; rw [List.length_map]; omega) (unhide HN2))
  rw [List.length_map] at HIn
  have HIn := hide (unhide HIn)
  have HRS := hide (unhide HS2).rs
  cases hf : hasSe l bag with
  | true =>
    have HE := hide (clearE_dup (unhide H1) (unhide H2) hf)
    rw [show decide (bag ∈ l.map Se.bag) = true from hf] at HIn
    have HIn := hide (unhide HIn)
    clear hf
    go_wp2_with (first
      | (go_at_call 23; refine (unhide HIn).mono ?_; rintro e wy ⟨rfl, hwy⟩; subst wy)
      | (refine wpList_storeCu (A := none) (n := 0) (c := 0) (unhide HRS) rfl _ _ rfl rfl rfl ?_))
    refine bodyPost_ret (v := .tuple #[cusV none 0 0, .int .i64 5]) (results_row2' rfl _ _ (w.heap.size + 1) _ _ _ _ _ rfl rfl (setRow_heap w2 (w.heap.size + 1) _ #[.slice none 0 0] _ _ (unhide HRS)) Try.underlying27 rfl infoCu) rfl ?_
    exact givesO_no (unhide HS2) (unhide HE).2 (unhide HE).1
  | false =>
    have HE := hide (clearE_ok (unhide H1) (unhide H2) hf)
    rw [show decide (bag ∈ l.map Se.bag) = false from hf] at HIn
    have HIn := hide (unhide HIn)
    clear hf g1 g2 g3 g4
    have HO2 := hide (unhide HOw w2 (unhide HS2).bel)
    obtain ⟨W3, hW3⟩ : ∃ W3 : World, w2.alloc (cusO none 0 0) = W3 := ⟨_, rfl⟩
    have b3 := (Below.refl w2.heap.size w2).alloc (Nat.le_refl _) (cusO none 0 0)
    have hx3 := heap_alloc_new w2 (cusO none 0 0)
    rw [hW3] at b3 hx3
    obtain ⟨O, hO⟩ : ∃ O, w2.heap.size = O := ⟨_, rfl⟩
    have HOl := hide (show w.heap.size + 2 ≤ O by have := (unhide HS2).lt; omega)
    have HS3 := hide ((unhide HS2).below b3)
    have HO3 := hide (owns_later (unhide HO2) b3)
    rw [hO] at hx3
    have HX3 := hide hx3
    have z0 : W3.cell? ⟨w.heap.size, 0, none⟩ = some (.slice A l.length c) := by rw [Lib.cell_of_heap (unhide HS3).bx]; rfl
    clear b3 hx3 HN2 HO2 HOw HS2 HRS
    obtain ⟨i0, zz, hi0, hia, hib, hic, hid⟩ := info_size info_se
    have HI0 := hide hi0
    have HIA := hide hia
    have HIB := hide hib
    have HIC := hide hic
    have HID := hide hid
    clear hi0 hia hib hic hid
    rcases sesO_form (unhide HO3) with ⟨rfl, rfl, rfl⟩ | ⟨g, rfl, hcap, hcm, hcells⟩
    · go_wp2_with (go_at_call 23; refine (unhide HIn).mono ?_; rintro e wy ⟨rfl, hwy⟩; subst wy)
      clear hO hW3
      go_loop [9] (fun iv => iv = .int .i64 0) (fun iv => 0)
      case atStart => rfl
      case round =>
        obtain rfl := hrel
        go_upto_region 9 with fail
        refine wp_region_anyZ 18 (fun Z => Z.heap[w.heap.size]? = some (cusO (none) 0 0) ∧ Z.heap[O]? = some (cusO none 0 0)) (by kernel_rfl) ?_
        have HBd := hide (show Below W3.heap.size W3 W3.drew from (Below.refl _ _).drew)
        have HKeep := hide (fun Z (hZ : Below W3.heap.size W3 Z) => (⟨heap_below (unhide HS3).bx hZ, heap_below (unhide HX3) hZ⟩ : Z.heap[w.heap.size]? = some (cusO (none) 0 0) ∧ Z.heap[O]? = some (cusO none 0 0)))
        have HSt := hide (unhide HKeep _ (unhide HBd))
        refine anyZ_take (i := 0) (v := .pointer (some ⟨O, 0, none⟩)) rfl (by kernel_rfl) (by kernel_rfl) (by kernel_rfl) (by kernel_rfl) (fun _ _ _ h => h) (Or.inl ⟨by rfl, by intro Z _; go_simp⟩) HSt.out ?_
        refine anyZ_take (i := 1) (v := .slice none 0 0) rfl (by kernel_rfl) (by kernel_rfl) (by kernel_rfl) (by kernel_rfl) (fun _ _ _ h => h) (Or.inl ⟨by rfl, by intro Z hs; have h9 : Z.cell? ⟨O, 0, none⟩ = some (.slice none 0 0) := (by rw [Lib.cell_of_heap hs.2]; rfl); go_simp⟩) HSt.out ?_
        refine anyZ_take (i := 2) (v := .pointer (some ⟨w.heap.size, 0, none⟩)) rfl (by kernel_rfl) (by kernel_rfl) (by kernel_rfl) (by kernel_rfl) (fun _ _ _ h => h) (Or.inl ⟨by rfl, by intro Z _; go_simp⟩) HSt.out ?_
        refine anyZ_take (i := 3) (v := .slice (none) 0 0) rfl (by kernel_rfl) (by kernel_rfl) (by kernel_rfl) (by kernel_rfl) (fun _ _ _ h => h) (Or.inl ⟨by rfl, by intro Z hs; have h9 : Z.cell? ⟨w.heap.size, 0, none⟩ = some (.slice (none) 0 0) := (by rw [Lib.cell_of_heap hs.1]; rfl); go_simp⟩) HSt.out ?_
        go_simp
        refine anyZ_take (i := 4) (v := .int .i64 0) rfl (by kernel_rfl) (by kernel_rfl) (by kernel_rfl) (by kernel_rfl) (fun _ _ _ h => h) (Or.inl ⟨by rfl, by intro Z _; go_simp⟩) HSt.out ?_
        refine anyZ_take (i := 5) (v := .slice none 0 0) rfl (by kernel_rfl) (by kernel_rfl) (by kernel_rfl) (by kernel_rfl) (fun _ _ _ h => h) (Or.inl ⟨by rfl, by intro Z _; go_simp⟩) HSt.out ?_
        refine anyZ_take (i := 7) (v := .int .i64 bag) rfl (by kernel_rfl) (by kernel_rfl) (by kernel_rfl) (by kernel_rfl) (fun _ _ _ h => h) (Or.inl ⟨by rfl, by intro Z _; go_simp⟩) HSt.out ?_
        go_simp
        refine anyZ_take (i := 8) (v := .int .i64 im) rfl (by kernel_rfl) (by kernel_rfl) (by kernel_rfl) (by kernel_rfl) (fun _ _ _ h => h) (Or.inl ⟨by rfl, by intro Z _; go_simp⟩) HSt.out ?_
        refine anyZ_take (i := 9) (v := Se.v ⟨bag, im⟩) rfl (by kernel_rfl) (by kernel_rfl) (by kernel_rfl) (by kernel_rfl) (fun _ _ _ h => h) (Or.inl ⟨by rfl, by intro Z _; go_simp⟩) HSt.out ?_
        refine anyZ_take (i := 12) (v := .pointer (some ⟨w.heap.size, 0, none⟩)) rfl (by kernel_rfl) (by kernel_rfl) (by kernel_rfl) (by kernel_rfl) (fun _ _ _ h => h) (Or.inl ⟨by rfl, by intro Z _; go_simp⟩) HSt.out ?_
        go_simp
        refine anyZ_take (i := 13) (v := .slice (none) 0 0) rfl (by kernel_rfl) (by kernel_rfl) (by kernel_rfl) (by kernel_rfl) (fun _ _ _ h => h) (Or.inl ⟨by rfl, by intro Z hs; have h9 : Z.cell? ⟨w.heap.size, 0, none⟩ = some (.slice (none) 0 0) := (by rw [Lib.cell_of_heap hs.1]; rfl); go_simp⟩) HSt.out ?_
        refine anyZ_take (i := 14) (v := .int .i64 0) rfl (by kernel_rfl) (by kernel_rfl) (by kernel_rfl) (by kernel_rfl) (fun _ _ _ h => h) (Or.inl ⟨by rfl, by intro Z _; go_simp⟩) HSt.out ?_
        refine anyZ_take (i := 15) (v := .slice none 0 0) rfl (by kernel_rfl) (by kernel_rfl) (by kernel_rfl) (by kernel_rfl) (fun _ _ _ h => h) (Or.inl ⟨by rfl, by intro Z _; go_simp⟩) HSt.out ?_
        go_simp
        have HNl := hide (flat_news (l := ([] : List Se)) (k := 0) (by omega))
        refine (fun (Y : Value → Nat → World → Prop) (f : (∀ v1 hb Z, (preC bag im W3 (([] : List Se)) 0 v1 hb Z) → Y v1 hb Z) → _) (g : ∀ v1 hb Z, (preC bag im W3 (([] : List Se)) 0 v1 hb Z) → Y v1 hb Z) => f g) ?Y1 ?m1 ?r1
        case m1 =>
          intro hM
          refine anyZ_two (i := 6) (j := 10) (by kernel_rfl) rfl rfl (fun K hK => ?_) (fun K hK => ?_)
          case' refine_2 =>
            rw [if_pos (by rfl)]
            refine wp_build1 25 54 _ rfl (Se.arr ⟨bag, im⟩) i0 zz 2 Try.underlying25 (unhide HI0) (unhide HIA) (unhide HIB) (by decide) (by decide) (unhide HID) rfl rfl ?_
            have HB1 := hide (onward (unhide HBd) ((Below.refl W3.drew.heap.size W3.drew).alloc (Nat.le_refl _) (.cells (Se.arr ⟨bag, im⟩) 54)))
            have HK1 := hide (heap_alloc_new W3.drew (.cells (Se.arr ⟨bag, im⟩) 54))
            refine hK _ _ ⟨fun _ => unhide HKeep _ (unhide HB1), ?_⟩
            clear hK K
            refine anyZ_one (i := 6) (by kernel_rfl) rfl (fun K hK => ?_)
            rw [if_pos (by rfl)]
            refine wp_append_any _ _ 25 rfl W3.heap.size 54 i0 zz 2 16 Try.underlying25 (unhide HI0) (unhide HIA) (unhide HIB) (unhide HIC) (unhide HID) (by decide) (.slice none 0 0) 0 [] rfl (World.ownsRow_nil _ _ _ _) _ _ _ ((([] : List Se).take 0).flatMap Se.cs) rfl (unhide HNl).1 (fun h => absurd h (Nat.lt_irrefl 0)) se_one (by unfold maxLen; omega) (by omega) (unhide HB1).size ?_
            intro v1 w1 hown hgrow _
            have HB2 := hide ((unhide HB1).grown hgrow (unhide HB1).size (fun q e => by cases e))
            have HK2 := hide ((hgrow.block _ (Array.getElem?_eq_some_iff.1 (unhide HK1)).1 (by simp [Value.ownBlock])).trans (unhide HK1))
            refine hK _ _ ⟨fun _ => unhide HKeep _ (unhide HB2), ?_⟩
            clear hK K
            go_simp
            have HM := hide (show preC bag im W3 (([] : List Se)) 0 v1 W3.heap.size w1 from ⟨by simpa using hown, unhide HB2, unhide HK2⟩)
            clear HB1 HK1 HB2 HK2 hown hgrow
            generalize W3.heap.size = hb at HM ⊢
            exact hM v1 hb w1 (unhide HM)
          case' refine_1 =>
            rw [if_pos (by rfl)]
            refine wp_append_any _ _ 25 rfl W3.heap.size 54 i0 zz 2 16 Try.underlying25 (unhide HI0) (unhide HIA) (unhide HIB) (unhide HIC) (unhide HID) (by decide) (.slice none 0 0) 0 [] rfl (World.ownsRow_nil _ _ _ _) _ _ _ ((([] : List Se).take 0).flatMap Se.cs) rfl (unhide HNl).1 (fun h => absurd h (Nat.lt_irrefl 0)) se_one (by unfold maxLen; omega) (by omega) (unhide HBd).size ?_
            intro v1 w1 hown hgrow _
            have HB1 := hide ((unhide HBd).grown hgrow (unhide HBd).size (fun q e => by cases e))
            refine hK _ _ ⟨fun _ => unhide HKeep _ (unhide HB1), ?_⟩
            clear hK K
            refine anyZ_one (i := 10) (by kernel_rfl) rfl (fun K hK => ?_)
            rw [if_pos (by rfl)]
            refine wp_build1 25 54 _ rfl (Se.arr ⟨bag, im⟩) i0 zz 2 Try.underlying25 (unhide HI0) (unhide HIA) (unhide HIB) (by decide) (by decide) (unhide HID) rfl rfl ?_
            have bx := (Below.refl w1.heap.size w1).alloc (Nat.le_refl _) (.cells (Se.arr ⟨bag, im⟩) 54)
            have HB2 := hide (onward (unhide HB1) bx)
            refine hK _ _ ⟨fun _ => unhide HKeep _ (unhide HB2), ?_⟩
            clear hK K
            go_simp
            have HM := hide (show preC bag im W3 (([] : List Se)) 0 v1 w1.heap.size (w1.alloc (.cells (Se.arr ⟨bag, im⟩) 54)) from ⟨by simpa using owns_later hown bx, unhide HB2, heap_alloc_new w1 _⟩)
            clear bx hown hgrow HB2 HB1
            generalize w1.alloc (.cells (Se.arr ⟨bag, im⟩) 54) = Wf at HM ⊢
            generalize w1.heap.size = hb at HM ⊢
            exact hM v1 hb Wf (unhide HM)
        intro v1 hb w1 hM
        have HO1 := hide hM.1
        have HB1 := hide hM.2.1
        have HK1 := hide hM.2.2
        clear hM
        refine anyZ_one (i := 11) (by kernel_rfl) rfl (fun K hK => ?_)
        rw [if_pos (by rfl)]
        refine wp_append_any _ _ 25 rfl W3.heap.size 54 i0 zz 2 16 Try.underlying25 (unhide HI0) (unhide HIA) (unhide HIB) (unhide HIC) (unhide HID) (by decide) v1 0 _ rfl (unhide HO1) _ 1 1 (Se.cs ⟨bag, im⟩) rfl rfl (fun _ => ⟨hb, 0, rfl, fun j u hu => by rw [Nat.zero_add, Lib.cell_of_heap (unhide HK1), ← Array.getElem?_toList]; exact hu⟩) (fun u hu => by simp [Se.cs] at hu; rcases hu with rfl | rfl <;> rfl) (by unfold maxLen; omega) (by omega) (unhide HB1).size ?_
        intro v2 w2' hown hgrow _
        have HO2 := hide hown
        have HB2 := hide ((unhide HB1).grown hgrow (unhide HB1).size (fun q e => ((unhide HO1).lt q e).1))
        refine hK _ _ ⟨fun _ => unhide HKeep _ (unhide HB2), ?_⟩
        clear hK K hown hgrow
        refine anyZ_one (i := 16) (by kernel_rfl) rfl (fun K hK => ?_)
        rw [if_pos (by rfl)]
        refine wp_append_any _ _ 25 rfl W3.heap.size 54 i0 zz 2 16 Try.underlying25 (unhide HI0) (unhide HIA) (unhide HIB) (unhide HIC) (unhide HID) (by decide) v2 _ _ rfl (unhide HO2) _ _ _ ((([] : List Se).drop 0).flatMap Se.cs) rfl (unhide HNl).2 (fun h => absurd h (Nat.lt_irrefl 0)) se_one (by unfold maxLen; omega) (by omega) (unhide HB2).size ?_
        intro v3 w3' hown hgrow _
        have HB3 := hide ((unhide HB2).grown hgrow (unhide HB2).size (fun q e => ((unhide HO2).lt q e).1))
        refine hK _ _ ⟨fun _ => unhide HKeep _ (unhide HB3), ?_⟩
        clear hK K hgrow
        have hown' : w3'.ownsRow W3.heap.size 54 2 v3 (([] : List Se).take 0 ++ ⟨bag, im⟩ :: ([] : List Se).drop 0).length ((([] : List Se).take 0 ++ ⟨bag, im⟩ :: ([] : List Se).drop 0).flatMap Se.cs) := by
          have e1 : (([] : List Se).take 0 ++ ⟨bag, im⟩ :: ([] : List Se).drop 0).length = 0 + 1 + (([] : List Se).length - 0) := by rw [List.length_append, List.length_take, List.length_cons, List.length_drop]; omega
          rw [e1, List.flatMap_append, List.flatMap_cons, ← List.append_assoc]
          exact hown
        obtain ⟨N4, hN4⟩ : ∃ N4, (([] : List Se).take 0 ++ (⟨bag, im⟩ : Se) :: ([] : List Se).drop 0).length = N4 := ⟨_, rfl⟩
        rw [hN4] at hown'
        have HN4 := hide hN4
        clear hN4
        obtain ⟨A4, c4, rfl⟩ := own_form hown'
        have HO4 := hide hown'
        clear hown hown'
        go_simp
        refine anyZ_take (i := 17) (v := .pointer (some ⟨O, 0, none⟩)) rfl (by kernel_rfl) (by kernel_rfl) (by kernel_rfl) (by kernel_rfl) (fun _ _ _ h => h) (Or.inl ⟨by rfl, by intro Z _; go_simp⟩) (unhide HKeep _ (unhide HB3)) ?_
        refine anyZ_one (i := 18) (by kernel_rfl) rfl (fun K hK => ?_)
        have HX4 := hide (unhide HKeep _ (unhide HB3)).2
        have HR4 := hide (heap_below (unhide HS3).rs (unhide HB3))
        have cz := (show w3'.cell? ⟨O, 0, none⟩ = some (.slice none 0 0) by rw [Lib.cell_of_heap (unhide HX4)]; rfl)
        have fz : w3'.frozen? ⟨O, 0, none⟩ = false := frozen_of_row w3' O 0 _ _ (unhide HX4)
        go_simp
        refine hK _ _ ⟨fun h => absurd rfl h, ?_⟩
        clear hK K cz fz
        refine anyZ_done (by kernel_rfl) ?_ _
        go_simp
        have HX5 := hide (show (w3'.setCell ⟨O, 0, none⟩ (.slice A4 N4 c4)).heap[O]? = some (cusO A4 N4 c4) from heap_set (unhide HX4) _)
        have HR5 := hide (heap_setOther (i := 0) (unhide HR4) (show w.heap.size + 1 ≠ O by have := unhide HOl; omega) (.slice A4 N4 c4))
        have HO5 := hide ((unhide HO4).kept (grown_set w3' O 0 (.slice A4 N4 c4)) (.inr (fun e => by have h1 := ((unhide HO4).lt _ e).1; have h2 := (Array.getElem?_eq_some_iff.1 (unhide HX3)).1; omega)))
        have HB5 := hide ((onward (unhide HS3).bel (unhide HB3)).setCell (p := ⟨O, 0, none⟩) (by have := unhide HOl; simp only []; omega) (.slice A4 N4 c4))
        clear HX4 HR4 HO4 HB3
        generalize w3'.setCell ⟨O, 0, none⟩ (.slice A4 N4 c4) = W5 at HX5 HR5 HO5 HB5 ⊢
        go_wp2_with (first
          | (refine wpList_loadCu (unhide HX5) rfl _ rfl rfl ?_)
          | (refine wpList_storeCu (A := A4) (n := N4) (c := c4) (unhide HR5) rfl _ _ rfl rfl rfl ?_))
        refine bodyPost_ret (v := .tuple #[cusV A4 N4 c4, .int .i64 0]) (results_row2' rfl _ _ (w.heap.size + 1) _ _ _ _ _ rfl rfl (setRow_heap W5 (w.heap.size + 1) _ #[.slice A4 N4 c4] _ _ (unhide HR5)) Try.underlying27 rfl infoCu) rfl ?_
        exact givesO_yes (by rw [(unhide HE).2]; rfl) (unhide HE).1 (unhide HB5) (by have h1 := unhide HOl; have h2 := (Array.getElem?_eq_some_iff.1 (unhide HX3)).1; omega) (unhide HN4) (unhide HO5)
    · go_wp2_with (go_at_call 23; refine (unhide HIn).mono ?_; rintro e wy ⟨rfl, hwy⟩; subst wy)
      clear hO hW3
      have HCells := hide hcells
      clear hcells
      go_loop [9] (fun iv => ∃ k : Nat, k ≤ l.length ∧ iv = .int .i64 k ∧ Hid (∀ j, j < k → bagQ bag (l.getD j se0) < 0)) (fun iv => l.length - (intOf iv).toNat)
      case atStart => exact ⟨0, Nat.zero_le _, rfl, hide (fun j hj => absurd hj (Nat.not_lt_zero _))⟩
      case round =>
        obtain ⟨k, hk, rfl, HJ⟩ := hrel
        have hz40 := unhide HZ
        by_cases hlt : k < l.length
        · have kl : (k : Int) < (l.length : Int) := by omega
          have k0 : (0 : Int) ≤ (k : Int) := by omega
          have c0 : W3.cell? ⟨g, k * 2, none⟩ = some (.int .i64 (l.getD k se0).bag) := (unhide HCells) _ _ (by
            have h9 := flatK_at Se.cs 2 Se.cs_len l k hlt 0 (by omega)
            rw [Nat.add_zero] at h9
            rw [h9, at_k hlt]; rfl)
          have HN := hide (show bagQ bag (l.getD k se0) < 0 → ∀ j, j < k + 1 → bagQ bag (l.getD j se0) < 0 from fun hq j hj => by
            by_cases e : j = k
            · rw [e]; exact hq
            · exact (unhide HJ) j (by omega))
          have HM := hide (show ¬ bagQ bag (l.getD k se0) < 0 → lbF (bagQ bag) l = k from fun hq => lbF_eq (d := se0) l k hk (unhide HJ) (fun _ => by omega))
          have HQ := hide (show bagQ bag (l.getD k se0) < 0 ↔ (l.getD k se0).bag < bag from bagQ_neg)
          generalize hx : l.getD k se0 = x at *
          clear hx
          by_cases hq : x.bag < bag
          · have HN1 := hide ((unhide HN) ((unhide HQ).2 hq))
            clear hlt
            go_wp2
            go_round
            case rel => exact ⟨k + 1, by omega, by go_num, HN1⟩
            case measure => simp [intOf]; omega
          · have HLb := hide ((unhide HM) (fun h => hq ((unhide HQ).1 h)))
            clear HM HN HQ HJ hlt
            go_upto_region 9 with fail
            obtain ⟨ad, hA⟩ : ∃ ad, (if c = k then (some ⟨g, 0, none⟩ : Option Addr) else some ⟨g, k * 2, none⟩) = some ad := by
              by_cases e : c = k
              · exact ⟨_, by rw [if_pos e]⟩
              · exact ⟨_, by rw [if_neg e]⟩
            have HSrc := hide (fun Z (hZ : Below W3.heap.size W3 Z) => flat_src (l := l) (k := k) (g := g) (w := Z) hk (fun j u hu => kept hZ ((unhide HCells) j u hu)))
            have HAd := hide (show 0 < l.length - k → ad = ⟨g, k * 2, none⟩ from fun h => by
              rw [if_neg (by omega)] at hA
              injection hA with hA
              exact hA.symm)
            have k0 : (0 : Int) ≤ (k : Int) := by omega
            have kn : (k : Int) ≤ (l.length : Int) := by omega
            have kc : (k : Int) ≤ (c : Int) := by omega
            have HEQ := hide (show clearL l bag im = l.take k ++ ⟨bag, im⟩ :: l.drop k by rw [(unhide HE).2, unhide HLb])
            refine wp_region_anyZ 18 (fun Z => Z.heap[w.heap.size]? = some (cusO (some ⟨g, 0, none⟩) l.length c) ∧ Z.heap[O]? = some (cusO none 0 0)) (by kernel_rfl) ?_
            have HBd := hide (show Below W3.heap.size W3 W3.drew from (Below.refl _ _).drew)
            have HKeep := hide (fun Z (hZ : Below W3.heap.size W3 Z) => (⟨heap_below (unhide HS3).bx hZ, heap_below (unhide HX3) hZ⟩ : Z.heap[w.heap.size]? = some (cusO (some ⟨g, 0, none⟩) l.length c) ∧ Z.heap[O]? = some (cusO none 0 0)))
            have HSt := hide (unhide HKeep _ (unhide HBd))
            refine anyZ_take (i := 0) (v := .pointer (some ⟨O, 0, none⟩)) rfl (by kernel_rfl) (by kernel_rfl) (by kernel_rfl) (by kernel_rfl) (fun _ _ _ h => h) (Or.inl ⟨by rfl, by intro Z _; go_simp⟩) HSt.out ?_
            refine anyZ_take (i := 1) (v := .slice none 0 0) rfl (by kernel_rfl) (by kernel_rfl) (by kernel_rfl) (by kernel_rfl) (fun _ _ _ h => h) (Or.inl ⟨by rfl, by intro Z hs; have h9 : Z.cell? ⟨O, 0, none⟩ = some (.slice none 0 0) := (by rw [Lib.cell_of_heap hs.2]; rfl); go_simp⟩) HSt.out ?_
            refine anyZ_take (i := 2) (v := .pointer (some ⟨w.heap.size, 0, none⟩)) rfl (by kernel_rfl) (by kernel_rfl) (by kernel_rfl) (by kernel_rfl) (fun _ _ _ h => h) (Or.inl ⟨by rfl, by intro Z _; go_simp⟩) HSt.out ?_
            refine anyZ_take (i := 3) (v := .slice (some ⟨g, 0, none⟩) l.length c) rfl (by kernel_rfl) (by kernel_rfl) (by kernel_rfl) (by kernel_rfl) (fun _ _ _ h => h) (Or.inl ⟨by rfl, by intro Z hs; have h9 : Z.cell? ⟨w.heap.size, 0, none⟩ = some (.slice (some ⟨g, 0, none⟩) l.length c) := (by rw [Lib.cell_of_heap hs.1]; rfl); go_simp⟩) HSt.out ?_
            go_simp
            refine anyZ_take (i := 4) (v := .int .i64 k) rfl (by kernel_rfl) (by kernel_rfl) (by kernel_rfl) (by kernel_rfl) (fun _ _ _ h => h) (Or.inl ⟨by rfl, by intro Z _; go_simp⟩) HSt.out ?_
            refine anyZ_take (i := 5) (v := .slice (some ⟨g, 0, none⟩) k c) rfl (by kernel_rfl) (by kernel_rfl) (by kernel_rfl) (by kernel_rfl) (fun _ _ _ h => h) (Or.inl ⟨by rfl, by intro Z _; go_simp⟩) HSt.out ?_
            refine anyZ_take (i := 7) (v := .int .i64 bag) rfl (by kernel_rfl) (by kernel_rfl) (by kernel_rfl) (by kernel_rfl) (fun _ _ _ h => h) (Or.inl ⟨by rfl, by intro Z _; go_simp⟩) HSt.out ?_
            go_simp
            refine anyZ_take (i := 8) (v := .int .i64 im) rfl (by kernel_rfl) (by kernel_rfl) (by kernel_rfl) (by kernel_rfl) (fun _ _ _ h => h) (Or.inl ⟨by rfl, by intro Z _; go_simp⟩) HSt.out ?_
            refine anyZ_take (i := 9) (v := Se.v ⟨bag, im⟩) rfl (by kernel_rfl) (by kernel_rfl) (by kernel_rfl) (by kernel_rfl) (fun _ _ _ h => h) (Or.inl ⟨by rfl, by intro Z _; go_simp⟩) HSt.out ?_
            refine anyZ_take (i := 12) (v := .pointer (some ⟨w.heap.size, 0, none⟩)) rfl (by kernel_rfl) (by kernel_rfl) (by kernel_rfl) (by kernel_rfl) (fun _ _ _ h => h) (Or.inl ⟨by rfl, by intro Z _; go_simp⟩) HSt.out ?_
            go_simp
            refine anyZ_take (i := 13) (v := .slice (some ⟨g, 0, none⟩) l.length c) rfl (by kernel_rfl) (by kernel_rfl) (by kernel_rfl) (by kernel_rfl) (fun _ _ _ h => h) (Or.inl ⟨by rfl, by intro Z hs; have h9 : Z.cell? ⟨w.heap.size, 0, none⟩ = some (.slice (some ⟨g, 0, none⟩) l.length c) := (by rw [Lib.cell_of_heap hs.1]; rfl); go_simp⟩) HSt.out ?_
            refine anyZ_take (i := 14) (v := .int .i64 k) rfl (by kernel_rfl) (by kernel_rfl) (by kernel_rfl) (by kernel_rfl) (fun _ _ _ h => h) (Or.inl ⟨by rfl, by intro Z _; go_simp⟩) HSt.out ?_
            refine anyZ_take (i := 15) (v := .slice (some ad) (l.length - k) (c - k)) rfl (by kernel_rfl) (by kernel_rfl) (by kernel_rfl) (by kernel_rfl) (fun _ _ _ h => h) (Or.inl ⟨by rfl, by intro Z _; go_simp⟩) HSt.out ?_
            go_simp
            have HNl := hide (flat_news (l := l) (k := k) (by omega))
            refine (fun (Y : Value → Nat → World → Prop) (f : (∀ v1 hb Z, (preC bag im W3 (l) k v1 hb Z) → Y v1 hb Z) → _) (g : ∀ v1 hb Z, (preC bag im W3 (l) k v1 hb Z) → Y v1 hb Z) => f g) ?Y2 ?m2 ?r2
            case m2 =>
              intro hM
              refine anyZ_two (i := 6) (j := 10) (by kernel_rfl) rfl rfl (fun K hK => ?_) (fun K hK => ?_)
              case' refine_2 =>
                rw [if_pos (by rfl)]
                refine wp_build1 25 54 _ rfl (Se.arr ⟨bag, im⟩) i0 zz 2 Try.underlying25 (unhide HI0) (unhide HIA) (unhide HIB) (by decide) (by decide) (unhide HID) rfl rfl ?_
                have HB1 := hide (onward (unhide HBd) ((Below.refl W3.drew.heap.size W3.drew).alloc (Nat.le_refl _) (.cells (Se.arr ⟨bag, im⟩) 54)))
                have HK1 := hide (heap_alloc_new W3.drew (.cells (Se.arr ⟨bag, im⟩) 54))
                refine hK _ _ ⟨fun _ => unhide HKeep _ (unhide HB1), ?_⟩
                clear hK K
                refine anyZ_one (i := 6) (by kernel_rfl) rfl (fun K hK => ?_)
                rw [if_pos (by rfl)]
                refine wp_append_any _ _ 25 rfl W3.heap.size 54 i0 zz 2 16 Try.underlying25 (unhide HI0) (unhide HIA) (unhide HIB) (unhide HIC) (unhide HID) (by decide) (.slice none 0 0) 0 [] rfl (World.ownsRow_nil _ _ _ _) _ _ _ ((l.take k).flatMap Se.cs) rfl (unhide HNl).1 (fun _ => ⟨g, 0, rfl, (unhide HSrc _ (unhide HB1)).1⟩) se_one (by unfold maxLen; omega) (by omega) (unhide HB1).size ?_
                intro v1 w1 hown hgrow _
                have HB2 := hide ((unhide HB1).grown hgrow (unhide HB1).size (fun q e => by cases e))
                have HK2 := hide ((hgrow.block _ (Array.getElem?_eq_some_iff.1 (unhide HK1)).1 (by simp [Value.ownBlock])).trans (unhide HK1))
                refine hK _ _ ⟨fun _ => unhide HKeep _ (unhide HB2), ?_⟩
                clear hK K
                go_simp
                have HM := hide (show preC bag im W3 (l) k v1 W3.heap.size w1 from ⟨by simpa using hown, unhide HB2, unhide HK2⟩)
                clear HB1 HK1 HB2 HK2 hown hgrow
                generalize W3.heap.size = hb at HM ⊢
                exact hM v1 hb w1 (unhide HM)
              case' refine_1 =>
                rw [if_pos (by rfl)]
                refine wp_append_any _ _ 25 rfl W3.heap.size 54 i0 zz 2 16 Try.underlying25 (unhide HI0) (unhide HIA) (unhide HIB) (unhide HIC) (unhide HID) (by decide) (.slice none 0 0) 0 [] rfl (World.ownsRow_nil _ _ _ _) _ _ _ ((l.take k).flatMap Se.cs) rfl (unhide HNl).1 (fun _ => ⟨g, 0, rfl, (unhide HSrc _ (unhide HBd)).1⟩) se_one (by unfold maxLen; omega) (by omega) (unhide HBd).size ?_
                intro v1 w1 hown hgrow _
                have HB1 := hide ((unhide HBd).grown hgrow (unhide HBd).size (fun q e => by cases e))
                refine hK _ _ ⟨fun _ => unhide HKeep _ (unhide HB1), ?_⟩
                clear hK K
                refine anyZ_one (i := 10) (by kernel_rfl) rfl (fun K hK => ?_)
                rw [if_pos (by rfl)]
                refine wp_build1 25 54 _ rfl (Se.arr ⟨bag, im⟩) i0 zz 2 Try.underlying25 (unhide HI0) (unhide HIA) (unhide HIB) (by decide) (by decide) (unhide HID) rfl rfl ?_
                have bx := (Below.refl w1.heap.size w1).alloc (Nat.le_refl _) (.cells (Se.arr ⟨bag, im⟩) 54)
                have HB2 := hide (onward (unhide HB1) bx)
                refine hK _ _ ⟨fun _ => unhide HKeep _ (unhide HB2), ?_⟩
                clear hK K
                go_simp
                have HM := hide (show preC bag im W3 (l) k v1 w1.heap.size (w1.alloc (.cells (Se.arr ⟨bag, im⟩) 54)) from ⟨by simpa using owns_later hown bx, unhide HB2, heap_alloc_new w1 _⟩)
                clear bx hown hgrow HB2 HB1
                generalize w1.alloc (.cells (Se.arr ⟨bag, im⟩) 54) = Wf at HM ⊢
                generalize w1.heap.size = hb at HM ⊢
                exact hM v1 hb Wf (unhide HM)
            intro v1 hb w1 hM
            have HO1 := hide hM.1
            have HB1 := hide hM.2.1
            have HK1 := hide hM.2.2
            clear hM
            refine anyZ_one (i := 11) (by kernel_rfl) rfl (fun K hK => ?_)
            rw [if_pos (by rfl)]
            refine wp_append_any _ _ 25 rfl W3.heap.size 54 i0 zz 2 16 Try.underlying25 (unhide HI0) (unhide HIA) (unhide HIB) (unhide HIC) (unhide HID) (by decide) v1 k _ rfl (unhide HO1) _ 1 1 (Se.cs ⟨bag, im⟩) rfl rfl (fun _ => ⟨hb, 0, rfl, fun j u hu => by rw [Nat.zero_add, Lib.cell_of_heap (unhide HK1), ← Array.getElem?_toList]; exact hu⟩) (fun u hu => by simp [Se.cs] at hu; rcases hu with rfl | rfl <;> rfl) (by unfold maxLen; omega) (by omega) (unhide HB1).size ?_
            intro v2 w2' hown hgrow _
            have HO2 := hide hown
            have HB2 := hide ((unhide HB1).grown hgrow (unhide HB1).size (fun q e => ((unhide HO1).lt q e).1))
            refine hK _ _ ⟨fun _ => unhide HKeep _ (unhide HB2), ?_⟩
            clear hK K hown hgrow
            refine anyZ_one (i := 16) (by kernel_rfl) rfl (fun K hK => ?_)
            rw [if_pos (by rfl)]
            refine wp_append_any _ _ 25 rfl W3.heap.size 54 i0 zz 2 16 Try.underlying25 (unhide HI0) (unhide HIA) (unhide HIB) (unhide HIC) (unhide HID) (by decide) v2 _ _ rfl (unhide HO2) _ _ _ ((l.drop k).flatMap Se.cs) rfl (unhide HNl).2 (fun hp => ⟨g, k * 2, by rw [(unhide HAd) hp], (unhide HSrc _ (unhide HB2)).2⟩) se_one (by unfold maxLen; omega) (by omega) (unhide HB2).size ?_
            intro v3 w3' hown hgrow _
            have HB3 := hide ((unhide HB2).grown hgrow (unhide HB2).size (fun q e => ((unhide HO2).lt q e).1))
            refine hK _ _ ⟨fun _ => unhide HKeep _ (unhide HB3), ?_⟩
            clear hK K hgrow
            have hown' : w3'.ownsRow W3.heap.size 54 2 v3 (l.take k ++ ⟨bag, im⟩ :: l.drop k).length ((l.take k ++ ⟨bag, im⟩ :: l.drop k).flatMap Se.cs) := by
              have e1 : (l.take k ++ ⟨bag, im⟩ :: l.drop k).length = k + 1 + (l.length - k) := by rw [List.length_append, List.length_take, List.length_cons, List.length_drop]; omega
              rw [e1, List.flatMap_append, List.flatMap_cons, ← List.append_assoc]
              exact hown
            obtain ⟨N4, hN4⟩ : ∃ N4, (l.take k ++ (⟨bag, im⟩ : Se) :: l.drop k).length = N4 := ⟨_, rfl⟩
            rw [hN4] at hown'
            have HN4 := hide hN4
            clear hN4
            obtain ⟨A4, c4, rfl⟩ := own_form hown'
            have HO4 := hide hown'
            clear hown hown'
            go_simp
            refine anyZ_take (i := 17) (v := .pointer (some ⟨O, 0, none⟩)) rfl (by kernel_rfl) (by kernel_rfl) (by kernel_rfl) (by kernel_rfl) (fun _ _ _ h => h) (Or.inl ⟨by rfl, by intro Z _; go_simp⟩) (unhide HKeep _ (unhide HB3)) ?_
            refine anyZ_one (i := 18) (by kernel_rfl) rfl (fun K hK => ?_)
            have HX4 := hide (unhide HKeep _ (unhide HB3)).2
            have HR4 := hide (heap_below (unhide HS3).rs (unhide HB3))
            have cz := (show w3'.cell? ⟨O, 0, none⟩ = some (.slice none 0 0) by rw [Lib.cell_of_heap (unhide HX4)]; rfl)
            have fz : w3'.frozen? ⟨O, 0, none⟩ = false := frozen_of_row w3' O 0 _ _ (unhide HX4)
            go_simp
            refine hK _ _ ⟨fun h => absurd rfl h, ?_⟩
            clear hK K cz fz
            refine anyZ_done (by kernel_rfl) ?_ _
            go_simp
            have HX5 := hide (show (w3'.setCell ⟨O, 0, none⟩ (.slice A4 N4 c4)).heap[O]? = some (cusO A4 N4 c4) from heap_set (unhide HX4) _)
            have HR5 := hide (heap_setOther (i := 0) (unhide HR4) (show w.heap.size + 1 ≠ O by have := unhide HOl; omega) (.slice A4 N4 c4))
            have HO5 := hide ((unhide HO4).kept (grown_set w3' O 0 (.slice A4 N4 c4)) (.inr (fun e => by have h1 := ((unhide HO4).lt _ e).1; have h2 := (Array.getElem?_eq_some_iff.1 (unhide HX3)).1; omega)))
            have HB5 := hide ((onward (unhide HS3).bel (unhide HB3)).setCell (p := ⟨O, 0, none⟩) (by have := unhide HOl; simp only []; omega) (.slice A4 N4 c4))
            clear HX4 HR4 HO4 HB3
            generalize w3'.setCell ⟨O, 0, none⟩ (.slice A4 N4 c4) = W5 at HX5 HR5 HO5 HB5 ⊢
            go_wp2_with (first
              | (refine wpList_loadCu (unhide HX5) rfl _ rfl rfl ?_)
              | (refine wpList_storeCu (A := A4) (n := N4) (c := c4) (unhide HR5) rfl _ _ rfl rfl rfl ?_))
            refine bodyPost_ret (v := .tuple #[cusV A4 N4 c4, .int .i64 0]) (results_row2' rfl _ _ (w.heap.size + 1) _ _ _ _ _ rfl rfl (setRow_heap W5 (w.heap.size + 1) _ #[.slice A4 N4 c4] _ _ (unhide HR5)) Try.underlying27 rfl infoCu) rfl ?_
            exact givesO_yes (unhide HEQ) (unhide HE).1 (unhide HB5) (by have h1 := unhide HOl; have h2 := (Array.getElem?_eq_some_iff.1 (unhide HX3)).1; omega) (unhide HN4) (unhide HO5)
        · have kl : ¬ (k : Int) < (l.length : Int) := by omega
          have HLb := hide (show lbF (bagQ bag) l = k from lbF_eq (d := se0) l _ hk (unhide HJ) (fun h => absurd h hlt))
          clear HJ hlt
          go_upto_region 9 with fail
          obtain ⟨ad, hA⟩ : ∃ ad, (if c = k then (some ⟨g, 0, none⟩ : Option Addr) else some ⟨g, k * 2, none⟩) = some ad := by
            by_cases e : c = k
            · exact ⟨_, by rw [if_pos e]⟩
            · exact ⟨_, by rw [if_neg e]⟩
          have HSrc := hide (fun Z (hZ : Below W3.heap.size W3 Z) => flat_src (l := l) (k := k) (g := g) (w := Z) hk (fun j u hu => kept hZ ((unhide HCells) j u hu)))
          have HAd := hide (show 0 < l.length - k → ad = ⟨g, k * 2, none⟩ from fun h => by
            rw [if_neg (by omega)] at hA
            injection hA with hA
            exact hA.symm)
          have k0 : (0 : Int) ≤ (k : Int) := by omega
          have kn : (k : Int) ≤ (l.length : Int) := by omega
          have kc : (k : Int) ≤ (c : Int) := by omega
          have HEQ := hide (show clearL l bag im = l.take k ++ ⟨bag, im⟩ :: l.drop k by rw [(unhide HE).2, unhide HLb])
          refine wp_region_anyZ 18 (fun Z => Z.heap[w.heap.size]? = some (cusO (some ⟨g, 0, none⟩) l.length c) ∧ Z.heap[O]? = some (cusO none 0 0)) (by kernel_rfl) ?_
          have HBd := hide (show Below W3.heap.size W3 W3.drew from (Below.refl _ _).drew)
          have HKeep := hide (fun Z (hZ : Below W3.heap.size W3 Z) => (⟨heap_below (unhide HS3).bx hZ, heap_below (unhide HX3) hZ⟩ : Z.heap[w.heap.size]? = some (cusO (some ⟨g, 0, none⟩) l.length c) ∧ Z.heap[O]? = some (cusO none 0 0)))
          have HSt := hide (unhide HKeep _ (unhide HBd))
          refine anyZ_take (i := 0) (v := .pointer (some ⟨O, 0, none⟩)) rfl (by kernel_rfl) (by kernel_rfl) (by kernel_rfl) (by kernel_rfl) (fun _ _ _ h => h) (Or.inl ⟨by rfl, by intro Z _; go_simp⟩) HSt.out ?_
          refine anyZ_take (i := 1) (v := .slice none 0 0) rfl (by kernel_rfl) (by kernel_rfl) (by kernel_rfl) (by kernel_rfl) (fun _ _ _ h => h) (Or.inl ⟨by rfl, by intro Z hs; have h9 : Z.cell? ⟨O, 0, none⟩ = some (.slice none 0 0) := (by rw [Lib.cell_of_heap hs.2]; rfl); go_simp⟩) HSt.out ?_
          refine anyZ_take (i := 2) (v := .pointer (some ⟨w.heap.size, 0, none⟩)) rfl (by kernel_rfl) (by kernel_rfl) (by kernel_rfl) (by kernel_rfl) (fun _ _ _ h => h) (Or.inl ⟨by rfl, by intro Z _; go_simp⟩) HSt.out ?_
          refine anyZ_take (i := 3) (v := .slice (some ⟨g, 0, none⟩) l.length c) rfl (by kernel_rfl) (by kernel_rfl) (by kernel_rfl) (by kernel_rfl) (fun _ _ _ h => h) (Or.inl ⟨by rfl, by intro Z hs; have h9 : Z.cell? ⟨w.heap.size, 0, none⟩ = some (.slice (some ⟨g, 0, none⟩) l.length c) := (by rw [Lib.cell_of_heap hs.1]; rfl); go_simp⟩) HSt.out ?_
          go_simp
          refine anyZ_take (i := 4) (v := .int .i64 k) rfl (by kernel_rfl) (by kernel_rfl) (by kernel_rfl) (by kernel_rfl) (fun _ _ _ h => h) (Or.inl ⟨by rfl, by intro Z _; go_simp⟩) HSt.out ?_
          refine anyZ_take (i := 5) (v := .slice (some ⟨g, 0, none⟩) k c) rfl (by kernel_rfl) (by kernel_rfl) (by kernel_rfl) (by kernel_rfl) (fun _ _ _ h => h) (Or.inl ⟨by rfl, by intro Z _; go_simp⟩) HSt.out ?_
          refine anyZ_take (i := 7) (v := .int .i64 bag) rfl (by kernel_rfl) (by kernel_rfl) (by kernel_rfl) (by kernel_rfl) (fun _ _ _ h => h) (Or.inl ⟨by rfl, by intro Z _; go_simp⟩) HSt.out ?_
          go_simp
          refine anyZ_take (i := 8) (v := .int .i64 im) rfl (by kernel_rfl) (by kernel_rfl) (by kernel_rfl) (by kernel_rfl) (fun _ _ _ h => h) (Or.inl ⟨by rfl, by intro Z _; go_simp⟩) HSt.out ?_
          refine anyZ_take (i := 9) (v := Se.v ⟨bag, im⟩) rfl (by kernel_rfl) (by kernel_rfl) (by kernel_rfl) (by kernel_rfl) (fun _ _ _ h => h) (Or.inl ⟨by rfl, by intro Z _; go_simp⟩) HSt.out ?_
          refine anyZ_take (i := 12) (v := .pointer (some ⟨w.heap.size, 0, none⟩)) rfl (by kernel_rfl) (by kernel_rfl) (by kernel_rfl) (by kernel_rfl) (fun _ _ _ h => h) (Or.inl ⟨by rfl, by intro Z _; go_simp⟩) HSt.out ?_
          go_simp
          refine anyZ_take (i := 13) (v := .slice (some ⟨g, 0, none⟩) l.length c) rfl (by kernel_rfl) (by kernel_rfl) (by kernel_rfl) (by kernel_rfl) (fun _ _ _ h => h) (Or.inl ⟨by rfl, by intro Z hs; have h9 : Z.cell? ⟨w.heap.size, 0, none⟩ = some (.slice (some ⟨g, 0, none⟩) l.length c) := (by rw [Lib.cell_of_heap hs.1]; rfl); go_simp⟩) HSt.out ?_
          refine anyZ_take (i := 14) (v := .int .i64 k) rfl (by kernel_rfl) (by kernel_rfl) (by kernel_rfl) (by kernel_rfl) (fun _ _ _ h => h) (Or.inl ⟨by rfl, by intro Z _; go_simp⟩) HSt.out ?_
          refine anyZ_take (i := 15) (v := .slice (some ad) (l.length - k) (c - k)) rfl (by kernel_rfl) (by kernel_rfl) (by kernel_rfl) (by kernel_rfl) (fun _ _ _ h => h) (Or.inl ⟨by rfl, by intro Z _; go_simp⟩) HSt.out ?_
          go_simp
          have HNl := hide (flat_news (l := l) (k := k) (by omega))
          refine (fun (Y : Value → Nat → World → Prop) (f : (∀ v1 hb Z, (preC bag im W3 (l) k v1 hb Z) → Y v1 hb Z) → _) (g : ∀ v1 hb Z, (preC bag im W3 (l) k v1 hb Z) → Y v1 hb Z) => f g) ?Y3 ?m3 ?r3
          case m3 =>
            intro hM
            refine anyZ_two (i := 6) (j := 10) (by kernel_rfl) rfl rfl (fun K hK => ?_) (fun K hK => ?_)
            case' refine_2 =>
              rw [if_pos (by rfl)]
              refine wp_build1 25 54 _ rfl (Se.arr ⟨bag, im⟩) i0 zz 2 Try.underlying25 (unhide HI0) (unhide HIA) (unhide HIB) (by decide) (by decide) (unhide HID) rfl rfl ?_
              have HB1 := hide (onward (unhide HBd) ((Below.refl W3.drew.heap.size W3.drew).alloc (Nat.le_refl _) (.cells (Se.arr ⟨bag, im⟩) 54)))
              have HK1 := hide (heap_alloc_new W3.drew (.cells (Se.arr ⟨bag, im⟩) 54))
              refine hK _ _ ⟨fun _ => unhide HKeep _ (unhide HB1), ?_⟩
              clear hK K
              refine anyZ_one (i := 6) (by kernel_rfl) rfl (fun K hK => ?_)
              rw [if_pos (by rfl)]
              refine wp_append_any _ _ 25 rfl W3.heap.size 54 i0 zz 2 16 Try.underlying25 (unhide HI0) (unhide HIA) (unhide HIB) (unhide HIC) (unhide HID) (by decide) (.slice none 0 0) 0 [] rfl (World.ownsRow_nil _ _ _ _) _ _ _ ((l.take k).flatMap Se.cs) rfl (unhide HNl).1 (fun _ => ⟨g, 0, rfl, (unhide HSrc _ (unhide HB1)).1⟩) se_one (by unfold maxLen; omega) (by omega) (unhide HB1).size ?_
              intro v1 w1 hown hgrow _
              have HB2 := hide ((unhide HB1).grown hgrow (unhide HB1).size (fun q e => by cases e))
              have HK2 := hide ((hgrow.block _ (Array.getElem?_eq_some_iff.1 (unhide HK1)).1 (by simp [Value.ownBlock])).trans (unhide HK1))
              refine hK _ _ ⟨fun _ => unhide HKeep _ (unhide HB2), ?_⟩
              clear hK K
              go_simp
              have HM := hide (show preC bag im W3 (l) k v1 W3.heap.size w1 from ⟨by simpa using hown, unhide HB2, unhide HK2⟩)
              clear HB1 HK1 HB2 HK2 hown hgrow
              generalize W3.heap.size = hb at HM ⊢
              exact hM v1 hb w1 (unhide HM)
            case' refine_1 =>
              rw [if_pos (by rfl)]
              refine wp_append_any _ _ 25 rfl W3.heap.size 54 i0 zz 2 16 Try.underlying25 (unhide HI0) (unhide HIA) (unhide HIB) (unhide HIC) (unhide HID) (by decide) (.slice none 0 0) 0 [] rfl (World.ownsRow_nil _ _ _ _) _ _ _ ((l.take k).flatMap Se.cs) rfl (unhide HNl).1 (fun _ => ⟨g, 0, rfl, (unhide HSrc _ (unhide HBd)).1⟩) se_one (by unfold maxLen; omega) (by omega) (unhide HBd).size ?_
              intro v1 w1 hown hgrow _
              have HB1 := hide ((unhide HBd).grown hgrow (unhide HBd).size (fun q e => by cases e))
              refine hK _ _ ⟨fun _ => unhide HKeep _ (unhide HB1), ?_⟩
              clear hK K
              refine anyZ_one (i := 10) (by kernel_rfl) rfl (fun K hK => ?_)
              rw [if_pos (by rfl)]
              refine wp_build1 25 54 _ rfl (Se.arr ⟨bag, im⟩) i0 zz 2 Try.underlying25 (unhide HI0) (unhide HIA) (unhide HIB) (by decide) (by decide) (unhide HID) rfl rfl ?_
              have bx := (Below.refl w1.heap.size w1).alloc (Nat.le_refl _) (.cells (Se.arr ⟨bag, im⟩) 54)
              have HB2 := hide (onward (unhide HB1) bx)
              refine hK _ _ ⟨fun _ => unhide HKeep _ (unhide HB2), ?_⟩
              clear hK K
              go_simp
              have HM := hide (show preC bag im W3 (l) k v1 w1.heap.size (w1.alloc (.cells (Se.arr ⟨bag, im⟩) 54)) from ⟨by simpa using owns_later hown bx, unhide HB2, heap_alloc_new w1 _⟩)
              clear bx hown hgrow HB2 HB1
              generalize w1.alloc (.cells (Se.arr ⟨bag, im⟩) 54) = Wf at HM ⊢
              generalize w1.heap.size = hb at HM ⊢
              exact hM v1 hb Wf (unhide HM)
          intro v1 hb w1 hM
          have HO1 := hide hM.1
          have HB1 := hide hM.2.1
          have HK1 := hide hM.2.2
          clear hM
          refine anyZ_one (i := 11) (by kernel_rfl) rfl (fun K hK => ?_)
          rw [if_pos (by rfl)]
          refine wp_append_any _ _ 25 rfl W3.heap.size 54 i0 zz 2 16 Try.underlying25 (unhide HI0) (unhide HIA) (unhide HIB) (unhide HIC) (unhide HID) (by decide) v1 k _ rfl (unhide HO1) _ 1 1 (Se.cs ⟨bag, im⟩) rfl rfl (fun _ => ⟨hb, 0, rfl, fun j u hu => by rw [Nat.zero_add, Lib.cell_of_heap (unhide HK1), ← Array.getElem?_toList]; exact hu⟩) (fun u hu => by simp [Se.cs] at hu; rcases hu with rfl | rfl <;> rfl) (by unfold maxLen; omega) (by omega) (unhide HB1).size ?_
          intro v2 w2' hown hgrow _
          have HO2 := hide hown
          have HB2 := hide ((unhide HB1).grown hgrow (unhide HB1).size (fun q e => ((unhide HO1).lt q e).1))
          refine hK _ _ ⟨fun _ => unhide HKeep _ (unhide HB2), ?_⟩
          clear hK K hown hgrow
          refine anyZ_one (i := 16) (by kernel_rfl) rfl (fun K hK => ?_)
          rw [if_pos (by rfl)]
          refine wp_append_any _ _ 25 rfl W3.heap.size 54 i0 zz 2 16 Try.underlying25 (unhide HI0) (unhide HIA) (unhide HIB) (unhide HIC) (unhide HID) (by decide) v2 _ _ rfl (unhide HO2) _ _ _ ((l.drop k).flatMap Se.cs) rfl (unhide HNl).2 (fun hp => ⟨g, k * 2, by rw [(unhide HAd) hp], (unhide HSrc _ (unhide HB2)).2⟩) se_one (by unfold maxLen; omega) (by omega) (unhide HB2).size ?_
          intro v3 w3' hown hgrow _
          have HB3 := hide ((unhide HB2).grown hgrow (unhide HB2).size (fun q e => ((unhide HO2).lt q e).1))
          refine hK _ _ ⟨fun _ => unhide HKeep _ (unhide HB3), ?_⟩
          clear hK K hgrow
          have hown' : w3'.ownsRow W3.heap.size 54 2 v3 (l.take k ++ ⟨bag, im⟩ :: l.drop k).length ((l.take k ++ ⟨bag, im⟩ :: l.drop k).flatMap Se.cs) := by
            have e1 : (l.take k ++ ⟨bag, im⟩ :: l.drop k).length = k + 1 + (l.length - k) := by rw [List.length_append, List.length_take, List.length_cons, List.length_drop]; omega
            rw [e1, List.flatMap_append, List.flatMap_cons, ← List.append_assoc]
            exact hown
          obtain ⟨N4, hN4⟩ : ∃ N4, (l.take k ++ (⟨bag, im⟩ : Se) :: l.drop k).length = N4 := ⟨_, rfl⟩
          rw [hN4] at hown'
          have HN4 := hide hN4
          clear hN4
          obtain ⟨A4, c4, rfl⟩ := own_form hown'
          have HO4 := hide hown'
          clear hown hown'
          go_simp
          refine anyZ_take (i := 17) (v := .pointer (some ⟨O, 0, none⟩)) rfl (by kernel_rfl) (by kernel_rfl) (by kernel_rfl) (by kernel_rfl) (fun _ _ _ h => h) (Or.inl ⟨by rfl, by intro Z _; go_simp⟩) (unhide HKeep _ (unhide HB3)) ?_
          refine anyZ_one (i := 18) (by kernel_rfl) rfl (fun K hK => ?_)
          have HX4 := hide (unhide HKeep _ (unhide HB3)).2
          have HR4 := hide (heap_below (unhide HS3).rs (unhide HB3))
          have cz := (show w3'.cell? ⟨O, 0, none⟩ = some (.slice none 0 0) by rw [Lib.cell_of_heap (unhide HX4)]; rfl)
          have fz : w3'.frozen? ⟨O, 0, none⟩ = false := frozen_of_row w3' O 0 _ _ (unhide HX4)
          go_simp
          refine hK _ _ ⟨fun h => absurd rfl h, ?_⟩
          clear hK K cz fz
          refine anyZ_done (by kernel_rfl) ?_ _
          go_simp
          have HX5 := hide (show (w3'.setCell ⟨O, 0, none⟩ (.slice A4 N4 c4)).heap[O]? = some (cusO A4 N4 c4) from heap_set (unhide HX4) _)
          have HR5 := hide (heap_setOther (i := 0) (unhide HR4) (show w.heap.size + 1 ≠ O by have := unhide HOl; omega) (.slice A4 N4 c4))
          have HO5 := hide ((unhide HO4).kept (grown_set w3' O 0 (.slice A4 N4 c4)) (.inr (fun e => by have h1 := ((unhide HO4).lt _ e).1; have h2 := (Array.getElem?_eq_some_iff.1 (unhide HX3)).1; omega)))
          have HB5 := hide ((onward (unhide HS3).bel (unhide HB3)).setCell (p := ⟨O, 0, none⟩) (by have := unhide HOl; simp only []; omega) (.slice A4 N4 c4))
          clear HX4 HR4 HO4 HB3
          generalize w3'.setCell ⟨O, 0, none⟩ (.slice A4 N4 c4) = W5 at HX5 HR5 HO5 HB5 ⊢
          go_wp2_with (first
            | (refine wpList_loadCu (unhide HX5) rfl _ rfl rfl ?_)
            | (refine wpList_storeCu (A := A4) (n := N4) (c := c4) (unhide HR5) rfl _ _ rfl rfl rfl ?_))
          refine bodyPost_ret (v := .tuple #[cusV A4 N4 c4, .int .i64 0]) (results_row2' rfl _ _ (w.heap.size + 1) _ _ _ _ _ rfl rfl (setRow_heap W5 (w.heap.size + 1) _ #[.slice A4 N4 c4] _ _ (unhide HR5)) Try.underlying27 rfl infoCu) rfl ?_
          exact givesO_yes (unhide HEQ) (unhide HE).1 (unhide HB5) (by have h1 := unhide HOl; have h2 := (Array.getElem?_eq_some_iff.1 (unhide HX3)).1; omega) (unhide HN4) (unhide HO5)
end Go.Proofs.Ytbjpcajhceapkaa
