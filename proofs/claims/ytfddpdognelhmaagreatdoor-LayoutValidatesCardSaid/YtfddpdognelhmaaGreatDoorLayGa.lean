/-
  Made layouts are valid; contracts of the reader's other and strip.
-/
import Derived.Test.YtfddpdognelhmaaGreatDoorNumR
import Derived.Test.YtfddpdognelhmaaGreatDoorLayH
import Derived.Test.YtfddpdognelhmaaGreatDoorLayU
import Derived.Test.YtfddpdognelhmaaGreatDoorLayZ

/- LayGm: Layouts as the reader of numbers makes them: plain mathematics; they are valid. -/
namespace Go.Proofs.YtfddpdognelhmaaGreatDoor

/-- Where all exits lead to greater indices, the order has all nodes. -/
theorem next_some {l : List Nd} (h : ∀ k j, k < l.length → leadB l k j = true → k < j) {out : List Nat} (_ho : Ord l out) (hl : out.length < l.length) : ∃ i, nextO l out = some i := by
  cases hn : nextO l out with
  | some i => exact ⟨i, rfl⟩
  | none =>
    exfalso
    have h0 := nextO_none hn
    have all : ∀ j, j < l.length → j ∈ out := by
      intro j
      induction j using Nat.strongRecOn with
      | _ j ih =>
        intro hj
        by_cases hm : j ∈ out
        · exact hm
        · exfalso
          refine h0 j hj ?_
          unfold wtF
          have hc : out.contains j = false := by simpa using hm
          rw [if_pos ⟨hj, hc⟩]
          have : cntM l out l.length j = 0 := by
            unfold cntM
            rw [List.length_eq_zero_iff, List.filter_eq_nil_iff]
            intro k hk hb
            have hk' : k < l.length := by simpa using hk
            rw [Bool.and_eq_true] at hb
            have h1 := ih k (h k j hk' hb.1) hk'
            have h2 : out.contains k = true := List.contains_iff_mem.2 h1
            rw [h2] at hb
            exact absurd hb.2 (by decide)
          rw [this]; rfl
    have : (List.range l.length).length ≤ out.length := List.nodup_range.length_le_of_subset fun i hi => all i (by simpa using hi)
    rw [List.length_range] at this
    omega
theorem ordG_full {l : List Nd} (h : ∀ k j, k < l.length → leadB l k j = true → k < j) : ∀ (f : Nat) (out : List Nat), Ord l out → f + out.length = l.length → (ordG l f out).length = l.length
  | 0, out, _, e => by show out.length = _; omega
  | f + 1, out, ho, e => by
    obtain ⟨i, hi⟩ := next_some h ho (by omega)
    rw [ordG_go hi]
    exact ordG_full h f _ (ho.snoc hi) (by rw [List.length_append, List.length_singleton]; omega)
theorem ordN_full {l : List Nd} (h : ∀ k j, k < l.length → leadB l k j = true → k < j) : (ordF l).length = l.length := by
  rw [ordF_len]
  exact ordG_full h _ _ (Ord.nil l) rfl

/-- The sizes of a layout. -/
structure GSz where
  a : Nat
  b : Nat
  c : Nat
def GSz.n (z : GSz) : Nat := z.a + 1 + z.b + z.c + 2
structure GSz.Ok (z : GSz) : Prop where
  a1 : 1 ≤ z.a
  a2 : z.a ≤ 3
  b2 : z.b ≤ 3
  c1 : 1 ≤ z.c
  c2 : z.c ≤ 2
def toZ (z : GSz) (i : Nat) (t : Int) : Prop := ((i : Int) < t ∧ t ≤ z.a) ∨ t = z.n - 2
def toO (z : GSz) (i : Nat) (t : Int) : Prop := ((i : Int) < t ∧ (z.a : Int) < t ∧ t < z.n - 2) ∨ t = z.n - 1
def nmG (i : Nat) : ByteArray := ⟨#[UInt8.ofNat (65 + i)]⟩
/-- A strip with exits of some kind. -/
def StG (i : Nat) (ok : Int → Prop) (x : Nd) : Prop :=
  (x.kind ≠ 4 ∧ x.kind ≠ 5 ∧ 1 ≤ x.len ∧ x.len ≤ 3 ∧ ∃ t, x.exits = [t] ∧ ok t) ∨ (x.kind = 4 ∧ 1 ≤ x.len ∧ x.len ≤ 3 ∧ ∃ t u, x.exits = [t, u] ∧ t ≠ u ∧ ok t ∧ ok u) ∨ (x.kind = 5 ∧ 2 ≤ x.len ∧ x.len ≤ 4 ∧ ∃ t, x.exits = [(i : Int), t] ∧ ok t)
/-- A node as it is made. -/
def GenN (z : GSz) (i : Nat) (x : Nd) : Prop :=
  x.name = nmG i ∧
  ((i = 0 ∧ x.zone = 0 ∧ x.kind = 1 ∧ StG i (toZ z i) x)
  ∨ (0 < i ∧ i < z.a ∧ x.zone = 0 ∧ (x.kind = 2 ∨ x.kind = 3 ∨ x.kind = 4 ∨ x.kind = 5) ∧ StG i (toZ z i) x)
  ∨ (i = z.a ∧ x.zone = 0 ∧ x.kind = 6 ∧ 1 ≤ x.len ∧ x.len ≤ 3 ∧ ∃ t, x.exits = [(z.n : Int) - 2, t] ∧ toO z i t)
  ∨ (z.a < i ∧ i < z.a + 1 + z.b ∧ x.zone = 1 ∧ (x.kind = 2 ∨ x.kind = 4 ∨ x.kind = 5) ∧ StG i (toO z i) x)
  ∨ (z.a < i ∧ i < z.a + 1 + z.b ∧ x.zone = 1 ∧ x.kind = 7 ∧ x.len = 0 ∧ ∃ t, x.exits = [t] ∧ toO z i t)
  ∨ (z.a + 1 + z.b ≤ i ∧ i + 2 < z.n ∧ x.zone = 1 ∧ x.kind = 8 ∧ x.len = 0 ∧ x.exits = [])
  ∨ (z.n ≤ i + 2 ∧ i < z.n ∧ x.zone = (i : Int) + 2 - z.n ∧ x.kind = 9 ∧ x.len = 0 ∧ x.exits = []))
def zoG (z : GSz) (i : Nat) : Int := if i ≤ z.a ∨ i + 2 = z.n then 0 else 1

theorem exOk_nil {N i : Nat} {x : Nd} (h : x.exits = []) (hk : exN x.kind = 0) : exOk N i x = true :=
  exOk_yes (by rw [h, hk]; rfl) fun k hk => by rw [h] at hk; exact absurd hk (Nat.not_lt_zero _)
theorem exOk_one {N i : Nat} {x : Nd} {t : Int} (h : x.exits = [t]) (hk : exN x.kind = 1) (h5 : x.kind ≠ 5) (h1 : 0 ≤ t ∧ t < N) (h2 : t ≠ i) : exOk N i x = true :=
  exOk_yes (by rw [h, hk]; rfl) fun k hk => by
    rw [h] at hk
    obtain rfl : k = 0 := by simpa using hk
    unfold exOk1 ownB
    rw [h]
    show (wIn t 0 ((N : Int) - 1) && ((decide (t = (i : Int)) == (decide (x.kind = 5) && decide ((0 : Nat) = 0))) && !(List.take 0 [t]).contains t)) = true
    rw [wIn_iff.2 ⟨h1.1, by omega⟩, decide_eq_false h2, decide_eq_false h5]; rfl
theorem exOk_two {N i : Nat} {x : Nd} {t u : Int} (h : x.exits = [t, u]) (hk : exN x.kind = 2) (h0 : decide (t = (i : Int)) = decide (x.kind = 5)) (h1 : 0 ≤ t ∧ t < N) (h2 : 0 ≤ u ∧ u < N) (h3 : u ≠ i) (h4 : t ≠ u) : exOk N i x = true :=
  exOk_yes (by rw [h, hk]; rfl) fun k hk => by
    rw [h] at hk
    have : k = 0 ∨ k = 1 := by have : k < 2 := hk
                               omega
    unfold exOk1 ownB
    rw [h]
    rcases this with rfl | rfl
    · show (wIn t 0 ((N : Int) - 1) && ((decide (t = (i : Int)) == (decide (x.kind = 5) && decide ((0 : Nat) = 0))) && !(List.take 0 [t, u]).contains t)) = true
      rw [wIn_iff.2 ⟨h1.1, by omega⟩, h0]
      cases decide (x.kind = 5) <;> rfl
    · show (wIn u 0 ((N : Int) - 1) && ((decide (u = (i : Int)) == (decide (x.kind = 5) && decide ((1 : Nat) = 0))) && !([t] : List Int).contains u)) = true
      have h5 : ([t] : List Int).contains u = false := by
        cases h6 : ([t] : List Int).contains u
        · rfl
        · exact absurd (List.mem_singleton.1 (List.contains_iff_mem.1 h6)) fun e => h4 e.symm
      rw [wIn_iff.2 ⟨h2.1, by omega⟩, decide_eq_false h3, h5]
      cases decide (x.kind = 5) <;> rfl

theorem toZ.rng {z : GSz} (_hz : z.Ok) {i : Nat} (hi : i < z.a) {t : Int} (h : toZ z i t) : (i : Int) < t ∧ t < z.n ∧ 0 ≤ t ∧ t ≠ 0 ∧ zoG z t.toNat = 0 := by
  have e : z.n = z.a + 1 + z.b + z.c + 2 := rfl
  have h1 : (i : Int) < t ∧ t < z.n ∧ 0 ≤ t ∧ t ≠ 0 := by rcases h with h | h <;> omega
  refine ⟨h1.1, h1.2.1, h1.2.2.1, h1.2.2.2, ?_⟩
  unfold zoG
  rw [if_pos]
  rcases h with h | h <;> omega
theorem toO.rng {z : GSz} (_hz : z.Ok) {i : Nat} (hi : i + 2 < z.n) {t : Int} (h : toO z i t) : (i : Int) < t ∧ t < z.n ∧ 0 ≤ t ∧ t ≠ 0 ∧ zoG z t.toNat = 1 ∧ t ≠ (z.n : Int) - 2 := by
  have e : z.n = z.a + 1 + z.b + z.c + 2 := rfl
  have h1 : (i : Int) < t ∧ t < z.n ∧ 0 ≤ t ∧ t ≠ 0 ∧ t ≠ (z.n : Int) - 2 := by rcases h with h | h <;> omega
  refine ⟨h1.1, h1.2.1, h1.2.2.1, h1.2.2.2.1, ?_, h1.2.2.2.2⟩
  unfold zoG
  rw [if_neg]
  rcases h with h | h <;> omega

/-- What holds of each node. -/
structure GenU (z : GSz) (i : Nat) (x : Nd) : Prop where
  name : x.name = nmG i
  kind : 1 ≤ x.kind ∧ x.kind ≤ 9
  en : x.kind = 1 ↔ i = 0
  zone : x.zone = zoG z i
  fit : fitZ x = true
  len : 0 ≤ x.len ∧ x.len ≤ 4
  lenok : lenOk x = true
  ex : exOk z.n i x = true
  up : ∀ t ∈ x.exits, t ≠ (i : Int) → (i : Int) < t
  own : ∀ t ∈ x.exits, t = (i : Int) → x.kind = 5
  beh : ∀ k, k < x.exits.length → 0 ≤ x.exits.getD k 0 ∧ x.exits.getD k 0 < z.n ∧ x.exits.getD k 0 ≠ 0 ∧ zoG z (x.exits.getD k 0).toNat = zBeh x (k : Int)
  none : x.exits = [] → x.kind = 8 ∨ x.kind = 9
  loop : x.kind = 5 → ∃ t, x.exits = [(i : Int), t] ∧ (i : Int) < t

theorem GSz.eq (z : GSz) : z.n = z.a + 1 + z.b + z.c + 2 := rfl
theorem st_gen {z : GSz} {i : Nat} {x : Nd} {ok : Int → Prop} (hn : x.name = nmG i) (hs : StG i ok x) (hk : x.kind = 1 ∨ x.kind = 2 ∨ x.kind = 3 ∨ x.kind = 4 ∨ x.kind = 5) (he : x.kind = 1 ↔ i = 0) (hzo : x.zone = zoG z i) (hf : fitZ x = true)
    (hok : ∀ t, ok t → (i : Int) < t ∧ t < z.n ∧ 0 ≤ t ∧ t ≠ 0 ∧ zoG z t.toNat = x.zone) (hi : i < z.n) : GenU z i x := by
  have hzb : ∀ k : Int, zBeh x k = x.zone := fun k => by unfold zBeh; rw [if_neg (by omega)]
  rcases hs with ⟨k4, k5, l1, l2, t, ht, o⟩ | ⟨k4, l1, l2, t, u, ht, htu, o1, o2⟩ | ⟨k5, l1, l2, t, ht, o⟩
  · have q := hok t o
    refine ⟨hn, by omega, he, hzo, hf, by omega, ?_, exOk_one ht ?_ k5 ⟨q.2.2.1, q.2.1⟩ (by omega), ?_, ?_, ?_, ?_, fun h => absurd h k5⟩
    · unfold lenOk; rw [if_neg (by omega), if_neg k5, wIn_iff]; omega
    · unfold exN; rw [if_neg (by omega), if_neg (by omega)]
    · intro s hs _; rw [ht] at hs; rw [List.mem_singleton.1 hs]; exact q.1
    · intro s hs e; rw [ht] at hs; rw [List.mem_singleton.1 hs] at e; omega
    · intro k hk; rw [ht] at hk ⊢
      obtain rfl : k = 0 := by simpa using hk
      exact ⟨q.2.2.1, q.2.1, q.2.2.2.1, q.2.2.2.2.trans (hzb _).symm⟩
    · intro e; rw [ht] at e; cases e
  · have q1 := hok t o1
    have q2 := hok u o2
    refine ⟨hn, by omega, he, hzo, hf, by omega, ?_, exOk_two ht ?_ ?_ ⟨q1.2.2.1, q1.2.1⟩ ⟨q2.2.2.1, q2.2.1⟩ (by omega) htu, ?_, ?_, ?_, ?_, fun h => by omega⟩
    · unfold lenOk; rw [if_neg (by omega), if_neg (by omega), wIn_iff]; omega
    · unfold exN; rw [if_pos (by omega)]
    · rw [decide_eq_false (by omega), decide_eq_false (by omega)]
    · intro s hs _; rw [ht] at hs
      rcases List.mem_cons.1 hs with e | hs
      · rw [e]; exact q1.1
      · rw [List.mem_singleton.1 hs]; exact q2.1
    · intro s hs e; rw [ht] at hs
      rcases List.mem_cons.1 hs with e2 | hs
      · omega
      · have := List.mem_singleton.1 hs; omega
    · intro k hk; rw [ht] at hk ⊢
      have : k = 0 ∨ k = 1 := by have : k < 2 := hk
                                 omega
      rcases this with rfl | rfl
      · exact ⟨q1.2.2.1, q1.2.1, q1.2.2.2.1, q1.2.2.2.2.trans (hzb _).symm⟩
      · exact ⟨q2.2.2.1, q2.2.1, q2.2.2.2.1, q2.2.2.2.2.trans (hzb _).symm⟩
    · intro e; rw [ht] at e; cases e
  · have q := hok t o
    refine ⟨hn, by omega, he, hzo, hf, by omega, ?_, exOk_two ht ?_ ?_ ⟨by omega, by omega⟩ ⟨q.2.2.1, q.2.1⟩ (by omega) (by omega), ?_, ?_, ?_, ?_, fun _ => ⟨t, ht, q.1⟩⟩
    · unfold lenOk; rw [if_neg (by omega), if_pos k5, wIn_iff]; omega
    · unfold exN; rw [if_pos (by omega)]
    · rw [decide_eq_true rfl, decide_eq_true k5]
    · intro s hs e; rw [ht] at hs
      rcases List.mem_cons.1 hs with e2 | hs
      · exact absurd e2 e
      · rw [List.mem_singleton.1 hs]; exact q.1
    · intro s hs e; exact k5
    · intro k hk; rw [ht] at hk ⊢
      have : k = 0 ∨ k = 1 := by have : k < 2 := hk
                                 omega
      rcases this with rfl | rfl
      · exact ⟨by show (0 : Int) ≤ (i : Int); omega, by show (i : Int) < _; omega, by show (i : Int) ≠ 0; omega, by show zoG z (Int.toNat (i : Int)) = _; rw [Int.toNat_natCast, hzb, hzo]⟩
      · exact ⟨q.2.2.1, q.2.1, q.2.2.2.1, q.2.2.2.2.trans (hzb _).symm⟩
    · intro e; rw [ht] at e; cases e
theorem gen_u {z : GSz} (hz : z.Ok) {i : Nat} (hi : i < z.n) {x : Nd} (h : GenN z i x) : GenU z i x := by
  obtain ⟨hn, h⟩ := h
  have en := z.eq
  obtain ⟨za1, za2, zb2, zc1, zc2⟩ := hz
  have hz : z.Ok := ⟨za1, za2, zb2, zc1, zc2⟩
  have z0 : i ≤ z.a → zoG z i = 0 := fun h => by unfold zoG; rw [if_pos (Or.inl h)]
  have z1 : z.a < i → i + 2 ≠ z.n → zoG z i = 1 := fun h h2 => by unfold zoG; rw [if_neg (by omega)]
  rcases h with ⟨h0, hzo, hk, hs⟩ | ⟨h0, h1, hzo, hk, hs⟩ | ⟨h0, hzo, hk, l1, l2, t, ht, o⟩ | ⟨h0, h1, hzo, hk, hs⟩ | ⟨h0, h1, hzo, hk, hl, t, ht, o⟩ | ⟨h0, h1, hzo, hk, hl, ht⟩ | ⟨h0, h1, hzo, hk, hl, ht⟩
  · refine st_gen hn hs (.inl hk) ⟨fun _ => h0, fun _ => hk⟩ (by rw [hzo, z0 (by omega)]) (by unfold fitZ; rw [if_pos (.inl hk), decide_eq_true hzo]) (fun t ht => ?_) hi
    have := toZ.rng hz (by omega) ht
    rw [hzo]; exact this
  · refine st_gen hn hs (.inr hk) ⟨fun e => by omega, fun e => by omega⟩ (by rw [hzo, z0 (by omega)]) ?_ (fun t ht => ?_) hi
    · unfold fitZ
      split
      · exact decide_eq_true hzo
      · rw [if_neg (by omega)]
    · have := toZ.rng hz (by omega) ht
      rw [hzo]; exact this
  · have q := toO.rng hz (by omega) o
    have hzm : zoG z (((z.n : Int) - 2).toNat) = 0 := by unfold zoG; rw [if_pos (by omega)]
    refine ⟨hn, by omega, ⟨fun e => by omega, fun e => by omega⟩, by rw [hzo, z0 (by omega)], by unfold fitZ; rw [if_pos (by omega), decide_eq_true hzo], by omega, ?_, exOk_two ht ?_ ?_ ⟨by omega, by omega⟩ ⟨q.2.2.1, q.2.1⟩ (by omega) (by omega), ?_, ?_, ?_, ?_, fun e => by omega⟩
    · unfold lenOk; rw [if_neg (by omega), if_neg (by omega), wIn_iff]; omega
    · unfold exN; rw [if_pos (by omega)]
    · rw [decide_eq_false (by omega), decide_eq_false (by omega)]
    · intro s hs _; rw [ht] at hs
      rcases List.mem_cons.1 hs with e | hs
      · omega
      · rw [List.mem_singleton.1 hs]; exact q.1
    · intro s hs e; rw [ht] at hs
      rcases List.mem_cons.1 hs with e2 | hs
      · omega
      · have := List.mem_singleton.1 hs; omega
    · intro k hk'; rw [ht] at hk' ⊢
      have : k = 0 ∨ k = 1 := by have : k < 2 := hk'
                                 omega
      rcases this with rfl | rfl
      · exact ⟨by show (0 : Int) ≤ (z.n : Int) - 2; omega, by show (z.n : Int) - 2 < _; omega, by show (z.n : Int) - 2 ≠ 0; omega, by show zoG z (((z.n : Int) - 2).toNat) = _; rw [hzm]; unfold zBeh; rw [if_neg (by omega), hzo]⟩
      · exact ⟨q.2.2.1, q.2.1, q.2.2.2.1, by show zoG z t.toNat = _; rw [q.2.2.2.2.1]; unfold zBeh; rw [if_pos ⟨hk, rfl⟩]⟩
    · intro e; rw [ht] at e; cases e
  · refine st_gen hn hs (by omega) ⟨fun e => by omega, fun e => by omega⟩ (by rw [hzo, z1 (by omega) (by omega)]) ?_ (fun t ht => ?_) hi
    · unfold fitZ; rw [if_neg (by omega), if_neg (by omega)]
    · have := toO.rng hz (by omega) ht
      rw [hzo]; exact ⟨this.1, this.2.1, this.2.2.1, this.2.2.2.1, this.2.2.2.2.1⟩
  · have q := toO.rng hz (by omega) o
    refine ⟨hn, by omega, ⟨fun e => by omega, fun e => by omega⟩, by rw [hzo, z1 (by omega) (by omega)], by unfold fitZ; rw [if_neg (by omega), if_pos (by omega), decide_eq_true hzo], by omega, ?_, exOk_one ht ?_ (by omega) ⟨q.2.2.1, q.2.1⟩ (by omega), ?_, ?_, ?_, ?_, fun e => by omega⟩
    · unfold lenOk; rw [if_pos (by omega), decide_eq_true hl]
    · unfold exN; rw [if_neg (by omega), if_neg (by omega)]
    · intro s hs _; rw [ht] at hs; rw [List.mem_singleton.1 hs]; exact q.1
    · intro s hs e; rw [ht] at hs; rw [List.mem_singleton.1 hs] at e; omega
    · intro k hk'; rw [ht] at hk' ⊢
      obtain rfl : k = 0 := by simpa using hk'
      exact ⟨q.2.2.1, q.2.1, q.2.2.2.1, by show zoG z t.toNat = _; rw [q.2.2.2.2.1]; unfold zBeh; rw [if_neg (by omega), hzo]⟩
    · intro e; rw [ht] at e; cases e
  · refine ⟨hn, by omega, ⟨fun e => by omega, fun e => by omega⟩, by rw [hzo, z1 (by omega) (by omega)], by unfold fitZ; rw [if_neg (by omega), if_pos (by omega), decide_eq_true hzo], by omega, ?_, exOk_nil ht ?_, ?_, ?_, ?_, fun _ => .inl hk, fun e => by omega⟩
    · unfold lenOk; rw [if_pos (by omega), decide_eq_true hl]
    · unfold exN; rw [if_neg (by omega), if_pos (by omega)]
    · intro s hs; rw [ht] at hs; cases hs
    · intro s hs; rw [ht] at hs; cases hs
    · intro k hk'; rw [ht] at hk'; exact absurd hk' (Nat.not_lt_zero _)
  · refine ⟨hn, by omega, ⟨fun e => by omega, fun e => by omega⟩, ?_, by unfold fitZ; rw [if_neg (by omega), if_neg (by omega)], by omega, ?_, exOk_nil ht ?_, ?_, ?_, ?_, fun _ => .inr hk, fun e => by omega⟩
    · rw [hzo]; unfold zoG; split <;> omega
    · unfold lenOk; rw [if_pos (by omega), decide_eq_true hl]
    · unfold exN; rw [if_neg (by omega), if_pos (by omega)]
    · intro s hs; rw [ht] at hs; cases hs
    · intro s hs; rw [ht] at hs; cases hs
    · intro k hk'; rw [ht] at hk'; exact absurd hk' (Nat.not_lt_zero _)

/-- Devices that are made: each watches a window, none stands twice. -/
structure GenD (l : List Nd) (ds : List Dv) : Prop where
  ok : ∀ d ∈ ds, dvE l d = 0
  dif : ds.Pairwise fun d e => sameD e d = false
  few : ds.length ≤ 24
theorem GenD.nil (l : List Nd) : GenD l [] := ⟨fun _ h => (nomatch h), List.Pairwise.nil, Nat.zero_le _⟩
theorem GenD.snoc {l : List Nd} {ds : List Dv} {d : Dv} (h : GenD l ds) (h1 : dvE l d = 0) (h2 : ∀ e ∈ ds, sameD d e = false) (h3 : ds.length < 24) : GenD l (ds ++ [d]) :=
  ⟨fun e he => by
    rcases List.mem_append.1 he with he | he
    · exact h.ok e he
    · rw [List.mem_singleton.1 he]; exact h1,
   List.pairwise_append.2 ⟨h.dif, List.pairwise_singleton _ _, fun e he e' he' => by rw [List.mem_singleton.1 he']; exact h2 e he⟩, by rw [List.length_append, List.length_singleton]; omega⟩
theorem GenD.zero {l : List Nd} {ds : List Dv} (h : GenD l ds) : dvsE l ds = 0 := by
  rw [dvsE_d fun j hj => by show dvE l (ds.getD j dv0) = 0; rw [at_k hj]; exact h.ok _ (List.getElem_mem _)]
  have : difD ds = true := by
    unfold difD
    rw [List.all_eq_true]
    intro i hi
    have hi' : i < ds.length := by simpa using hi
    rw [decide_eq_true_eq, at_k hi']
    rcases Nat.lt_or_ge (ds.findIdx (sameD ds[i])) i with hlt | hge
    · exfalso
      have h1 : ds.findIdx (sameD ds[i]) < ds.length := by omega
      have h2 := List.findIdx_getElem (w := h1)
      have h3 := List.pairwise_iff_getElem.1 h.dif _ _ h1 hi' hlt
      rw [h3] at h2; exact Bool.noConfusion h2
    · exact hge
  rw [this]; rfl

/-- A layout that is made. -/
structure GenL (z : GSz) (x : Lay) : Prop where
  ok : z.Ok
  len : x.nodes.length = z.n
  nd : ∀ i, i < z.n → GenN z i (x.nodes.getD i nd0)
  dv : GenD x.nodes x.devs
theorem GenL.u {z : GSz} {x : Lay} (h : GenL z x) {i : Nat} (hi : i < z.n) : GenU z i (x.nodes.getD i nd0) := gen_u h.ok hi (h.nd i hi)
theorem nmG_ok {i : Nat} (h : i < 11) : nameB (nmG i) = true := by
  have : i = 0 ∨ i = 1 ∨ i = 2 ∨ i = 3 ∨ i = 4 ∨ i = 5 ∨ i = 6 ∨ i = 7 ∨ i = 8 ∨ i = 9 ∨ i = 10 := by omega
  rcases this with rfl | rfl | rfl | rfl | rfl | rfl | rfl | rfl | rfl | rfl | rfl <;> decide +kernel
theorem nmG_inj {i j : Nat} (hi : i < 11) (hj : j < 11) (h : nmG i = nmG j) : i = j := by
  unfold nmG at h
  injection h with h
  have h1 := congrArg Array.toList h
  have h2 : UInt8.ofNat (65 + i) = UInt8.ofNat (65 + j) := by simpa using h1
  have h3 := congrArg UInt8.toNat h2
  rw [UInt8.toNat_ofNat', UInt8.toNat_ofNat'] at h3
  omega
theorem winN_four {l : List Nd} (h : ∀ k, k < l.length → (l.getD k nd0).len ≤ 4) : ∀ k, k ≤ l.length → winN (l.take k) ≤ 4 * k := by
  intro k
  induction k with
  | zero => intro _; simp [winN]
  | succ k ih =>
    intro hk
    have := ih (by omega)
    have := h k (by omega)
    rw [winN_step (by omega)]
    omega
theorem GenL.zero {z : GSz} {x : Lay} (h : GenL z x) : layE x = 0 := by
  have hn : z.n ≤ 11 := by have := z.eq; have := h.ok.a2; have := h.ok.b2; have := h.ok.c2; omega
  have hn1 : 1 ≤ z.n := by have := z.eq; omega
  have hN : nodesE x.nodes = 0 := by
    have n0 : ndsE x.nodes = 0 := nds_all fun i hi => by
      have hi' : i < z.n := by rw [← h.len]; exact hi
      have u := h.u hi'
      show ndE x.nodes.length i (x.nodes.getD i nd0) = 0
      rw [ndE_x (by rw [u.name]; exact nmG_ok (by omega)) (wIn_iff.2 u.kind) u.lenok (b := true) (c := true) (wIn_iff.2 (by rw [u.zone]; unfold zoG; split <;> omega)) (by rw [h.len]; exact u.ex)]
      rfl
    have n1 : winN x.nodes ≤ 80 := by
      have := winN_four (l := x.nodes) (fun k hk => (h.u (by rw [← h.len]; exact hk)).len.2) x.nodes.length (Nat.le_refl _)
      rw [List.take_length, h.len] at this
      omega
    have n2 : difB x.nodes = true := by
      unfold difB
      rw [List.all_eq_true]
      intro i hi
      have hi' : i < x.nodes.length := by simpa using hi
      rw [decide_eq_true_eq, findI_hit hi' (fun j hj e => ?_) rfl]
      · exact Int.le_refl _
      · rw [(h.u (by rw [← h.len]; omega)).name, (h.u (by rw [← h.len]; exact hi')).name] at e
        have := nmG_inj (by rw [h.len] at hi'; omega) (by rw [h.len] at hi'; omega) e
        omega
    have n3 : zonB x.nodes = true := all_of (d := nd0) fun i hi => by
      have hi' : i < z.n := by rw [← h.len]; exact hi
      have u := h.u hi'
      refine zoN_yes u.fit fun k hk => ?_
      obtain ⟨b1, b2, b3, b4⟩ := u.beh k hk
      have hj : ((x.nodes.getD i nd0).exits.getD k 0).toNat < z.n := by omega
      have uj := h.u hj
      unfold zoOk atE
      rw [Bool.and_eq_true]
      refine ⟨?_, decide_eq_true (by rw [uj.zone]; exact b4)⟩
      unfold isEn
      rw [decide_eq_false fun e => by have := uj.en.1 e; omega]; rfl
    have n4 : (ordF x.nodes).length = x.nodes.length := ordN_full fun k j hk hl => by
      have u := h.u (i := k) (by rw [← h.len]; exact hk)
      unfold leadB at hl
      rw [Bool.and_eq_true, decide_eq_true_eq] at hl
      have := u.up _ (List.contains_iff_mem.1 hl.2) (by omega)
      omega
    rw [nodesE_o n0 (by omega) n2 n3, if_neg (by omega)]
  rw [layE_m (by rw [h.len]; omega) (by have := h.dv.few; omega) hN h.dv.zero, if_pos]
  have u := h.u (i := 0) (by omega)
  rw [List.any_eq_true]
  refine ⟨x.nodes.getD 0 nd0, ?_, ?_⟩
  · rw [at_k (by rw [h.len]; omega)]; exact List.getElem_mem _
  · unfold isEn; exact decide_eq_true (u.en.2 rfl)
end Go.Proofs.YtfddpdognelhmaaGreatDoor

/- LayGa: Contracts of the reader's other and strip: a node with exits among some numbers. -/
namespace Go.Proofs.YtfddpdognelhmaaGreatDoor
open Go.RowKit

theorem IntRow.grown {b : Nat} {w w1 : World} {A : Option Addr} {l : List Int} (h : IntRow b w A l) (hg : w.grownBy w1 (some b)) : IntRow b w1 A l := fun hn => by
  obtain ⟨g, cs, fz, hA, hb, hgg, hc⟩ := h hn
  exact ⟨g, cs, fz, hA, hb, (hg.block g (Array.getElem?_eq_some_iff.1 hgg).1 (by simpa using hb)).trans hgg, hc⟩
def othL (l : List Int) (x0 : Int) (k : Nat) : List Int := (l.take k).filter fun y => !decide (y = x0)
theorem othL_yes {l : List Int} {x0 : Int} {k : Nat} (h : k < l.length) (h1 : l.getD k 0 ≠ x0) : othL l x0 (k + 1) = othL l x0 k ++ [l.getD k 0] := by
  unfold othL
  rw [List.take_succ_eq_append_getElem h, List.filter_append, at_k h]
  rw [at_k h] at h1
  rw [List.filter_cons_of_pos (by simpa using h1)]; rfl
theorem othL_no {l : List Int} {x0 : Int} {k : Nat} (h : k < l.length) (h1 : l.getD k 0 = x0) : othL l x0 (k + 1) = othL l x0 k := by
  unfold othL
  rw [List.take_succ_eq_append_getElem h, List.filter_append]
  rw [at_k h] at h1
  rw [List.filter_cons_of_neg (by simpa using h1)]; simp
theorem othL_len (l : List Int) (x0 : Int) (k : Nat) : (othL l x0 k).length ≤ l.length := by
  unfold othL
  refine Nat.le_trans (List.length_filter_le _ _) ?_
  rw [List.length_take]; omega
theorem othL_mem {l : List Int} {x0 y : Int} {k : Nat} (h : y ∈ othL l x0 k) : y ∈ l ∧ y ≠ x0 := by
  unfold othL at h
  obtain ⟨h1, h2⟩ := List.mem_filter.1 h
  exact ⟨List.mem_of_mem_take h1, by simpa using h2⟩
theorem othL_nil {l : List Int} {x0 : Int} (h : (othL l x0 l.length).length = 0) : ∀ y ∈ l, y = x0 := fun y hy => by
  have h1 := List.length_eq_zero_iff.1 h
  unfold othL at h1
  rw [List.take_length, List.filter_eq_nil_iff] at h1
  simpa using h1 y hy
/-- One of some numbers that is not a certain one, or -1. -/
def OthTo (B b : Nat) (l : List Int) (x0 : Int) (w : World) (e : Ending) (w' : World) : Prop :=
  ∃ x, e = .returned (.int .i64 x) ∧ ((x ∈ l ∧ x ≠ x0) ∨ (x = -1 ∧ ∀ y ∈ l, y = x0)) ∧ Src B b w' ∧ w.grownBy w' (some b)
theorem grown_below {w w1 : World} (h : Below w.heap.size w w1) (row : Option Nat) : w.grownBy w1 row := ⟨h.os, h.tape, h.output, h.size, fun i hi _ => h.block i hi⟩
set_option maxHeartbeats 2000000 in
theorem other_any (B b : Nat) (l : List Int) (x0 : Int) (A : Option Addr) (c : Nat) (w : World) (hS : Src B b w) (hz : l.length ≤ 1000) (h : NumsIn b w A l) :
    Calls Tryz.prog 48 #[.pointer (some ⟨b, 0, none⟩), .slice A l.length c, .int .i64 x0] w (OthTo B b l x0 w) := by
  obtain ⟨i0, hi1, hz0, hz1, hz2'⟩ := info_parts linfo_int
  have Hi := hide hi1
  have Hz0 := hide hz0
  have Hz1 := hide hz1
  have Hz2 := hide hz2'
  have HI := hide h
  have hbl := hS.lt
  have HSr := hide hS
  clear hi1 hz0 hz1 hz2' h hS
  go_enter Tryz.func48, Tryz.ntmps48
  go_wp2
  go_loopw [7, 8] (fun v i wr => ∃ k : Nat, k ≤ l.length ∧ i = .int .i64 k ∧ Hid (wr.ownsRow w.heap.size 3 1 v (othL l x0 k).length ((othL l x0 k).map (Value.int .i64))) ∧ Hid (Below w.heap.size w wr)) (fun _ i _ => l.length - (intOf i).toNat)
  case atStart => exact ⟨0, Nat.zero_le _, rfl, Lib.hid ⟨rfl, .inl ⟨rfl, rfl⟩⟩, Lib.hid (Below.refl _ _)⟩
  case round =>
    obtain ⟨k, hk, rfl, ho, hb⟩ := hrel
    obtain ⟨wo, rfl⟩ : ∃ wo : World, wo = wr := ⟨_, rfl⟩
    by_cases hlt : k < l.length
    · obtain ⟨g', off', rfl, _, hc'⟩ := ((unhide HI).keep hb.out) (by omega)
      have y0 := hc' k hlt
      clear hc'
      have HO := hide ho.out
      have HY := hide fun h => othL_yes (x0 := x0) hlt h
      have HN := hide fun h => othL_no (x0 := x0) hlt h
      have hbs := hb.out.size
      have hol := othL_len l x0 k
      generalize othL l x0 k = xs at *
      generalize l.getD k 0 = y at *
      have kl : (k : Int) < (l.length : Int) := by omega
      have k0 : (0 : Int) ≤ (k : Int) := by omega
      clear ho
      by_cases e : y = x0
      · have hne : (y != x0) = false := by rw [bne_eq_false_iff_eq]; exact e
        have HE := hide (unhide HN e)
        clear e
        go_wp2
        go_roundw
        case rel => exact ⟨k + 1, by omega, by go_num, Lib.hid (by rw [unhide HE]; exact unhide HO), Lib.hid hb.out⟩
        case measure => simp [intOf]; omega
      · have hne : (y != x0) = true := by rw [bne_iff_ne]; exact e
        have HE := hide (unhide HY e)
        have q0 := kept ((Below.refl wo.heap.size wo).alloc (Nat.le_refl _) (.cells #[.int .i64 y] 3)) y0
        have HL := hide (show (xs ++ [y]).length = xs.length + 1 by simp)
        clear e
        go_wp2_with (first
          | (at_builtin; refine wpList_append_own _ rfl _ _ 26 rfl w.heap.size 3 i0 (.int .i64 0) 1 8 Tryz.underlying26 (unhide Hi) (unhide Hz0) (unhide Hz1) (unhide Hz2) rfl (by decide) _ _ _ rfl ((unhide HO).alloc _) ⟨wo.heap.size, 0, none⟩ 1 1 [.int .i64 y] rfl rfl ?c1 ?c2 ?c3 ?c4 ?c5 ?_))
        case c1 => exact lone_new wo _ _
        case c2 =>
          intro u hu
          simp at hu
          subst hu
          rfl
        case c3 => unfold maxLen; omega
        case c4 => omega
        case c5 => rw [World.size_alloc]; omega
        intro v' w2 hown2 hgrow _
        have HR2 := hide hown2
        have HB2 := hide ((hb.out.alloc hbs _).grown hgrow (by rw [World.size_alloc]; omega) (fun g hg => ((unhide HO).lt g hg).1))
        clear hown2 hgrow
        go_wp2
        go_roundw
        case rel => exact ⟨k + 1, by omega, by go_num, Lib.hid (by rw [unhide HE, unhide HL, List.map_append]; exact unhide HR2), Lib.hid (unhide HB2)⟩
        case measure => simp [intOf]; omega
    · have kl : ¬ (k : Int) < (l.length : Int) := by omega
      obtain rfl : k = l.length := by omega
      have HO := hide ho.out
      have hol := othL_len l x0 l.length
      have HMem := hide fun y h => othL_mem (l := l) (x0 := x0) (y := y) (k := l.length) h
      have HNil := hide fun h => othL_nil (l := l) (x0 := x0) h
      generalize othL l x0 l.length = xs at *
      have hsr := (unhide HSr).keep hb.out
      have HSo := hide hsr
      have hbs := hb.out.size
      obtain ⟨ao, cp, rfl⟩ := own_form ho.out
      clear ho hsr
      by_cases hx : xs.length = 0
      · have hx0 : ((xs.length : Int) == 0) = true := by rw [beq_iff_eq]; omega
        have HE := hide (unhide HNil hx)
        clear hx
        go_wp2
        go_ret
        exact ⟨-1, rfl, .inr ⟨rfl, unhide HE⟩, unhide HSo, grown_below hb.out _⟩
      · have hx0 : ((xs.length : Int) == 0) = false := by rw [beq_eq_false_iff_ne]; omega
        have h1 : (1 : Int) ≤ (xs.length : Int) := by omega
        have hx1 : 0 < xs.length := by omega
        clear hx
        go_wp2_with fail
        refine (n_any B b (xs.length : Int) _ (unhide HSo) h1 (by omega)).mono ?_
        rintro e w1 ⟨x, rfl, hx1', hx2, hs1, hg1⟩
        obtain ⟨j, rfl⟩ := Int.eq_ofNat_of_zero_le hx1'
        have hj : j < xs.length := by omega
        have hown1 := owns_reads (unhide HO) hg1 hbl
        obtain ⟨gg, rfl, -, hcell⟩ := own_cell hown1 hx1
        have q := hcell j _ (by rw [List.getElem?_map, List.getElem?_eq_getElem hj]; rfl)
        have j0 : (j : Int) < (xs.length : Int) := by omega
        have HMm := hide (unhide HMem _ (List.getElem_mem hj))
        have HS1 := Lib.hid hs1
        have HG1 := Lib.hid hg1
        clear hs1 hg1 hown1 hcell
        go_wp2
        go_ret
        exact ⟨_, rfl, .inl (unhide HMm), HS1.out, Lib.grownBy_trans (grown_below hb.out _) HG1.out⟩
/-- What strip comes to. -/
def StripTo (B b : Nat) (f : Nat → Int) (m i : Nat) (zo : Int) (tos : List Int) (w : World) (e : Ending) (w' : World) : Prop :=
  ∃ (x : Nd) (P : Option Addr) (cp : Nat), e = .returned (ndV x P cp) ∧ x.name = ⟨#[]⟩ ∧ x.zone = zo ∧ StG i (· ∈ tos) x ∧ (∃ j, j < m ∧ (x.kind = f j ∨ (f j = 4 ∧ x.kind = 2))) ∧ IntRow b w' P x.exits ∧ x.exits.length ≤ cp ∧ Src B b w' ∧ w.grownBy w' (some b)
theorem nd_cells {W : World} {q : Nat} {n : ByteArray} {a b c : Int} {v : Value} {t : TypeId} {fz : Nat × Nat} (h : W.heap[q]? = some (.cells #[.string n, .int .i64 a, .int .i64 b, .int .i64 c, v] t fz)) :
    W.cell? ⟨q, 0, none⟩ = some (.string n) ∧ W.cell? ⟨q, 1, none⟩ = some (.int .i64 a) ∧ W.cell? ⟨q, 2, none⟩ = some (.int .i64 b) ∧ W.cell? ⟨q, 3, none⟩ = some (.int .i64 c) ∧ W.cell? ⟨q, 4, none⟩ = some v :=
  ⟨by rw [Lib.cell_of_heap h]; rfl, by rw [Lib.cell_of_heap h]; rfl, by rw [Lib.cell_of_heap h]; rfl, by rw [Lib.cell_of_heap h]; rfl, by rw [Lib.cell_of_heap h]; rfl⟩
theorem introw_two {b : Nat} {W : World} (hb : b < W.heap.size) (x y : Int) : IntRow b (W.alloc (.cells #[.int .i64 x, .int .i64 y] 3)) (some ⟨W.heap.size, 0, none⟩) [x, y] := fun _ =>
  ⟨W.heap.size, _, _, rfl, by omega, heap_alloc_new W _, fun i hi => by
    have : i = 0 ∨ i = 1 := by have : i < 2 := hi
                               omega
    rcases this with rfl | rfl <;> rfl⟩
theorem introw_one {b : Nat} {W : World} (hb : b < W.heap.size) (x : Int) : IntRow b (W.alloc (.cells #[.int .i64 x] 3)) (some ⟨W.heap.size, 0, none⟩) [x] := fun _ =>
  ⟨W.heap.size, _, _, rfl, by omega, heap_alloc_new W _, fun i hi => by
    obtain rfl : i = 0 := by have : i < 1 := hi
                             omega
    rfl⟩
abbrev ndZ : Array Value := #[.string ⟨#[]⟩, .int .i64 0, .int .i64 0, .int .i64 0, .slice none 0 0]
end Go.Proofs.YtfddpdognelhmaaGreatDoor

/- LayGb: Contract of the reader's strip: a node with exits among some numbers. -/
namespace Go.Proofs.YtfddpdognelhmaaGreatDoor
open Go.RowKit

theorem loom_nd {W : World} {q : Nat} {cs : Array Value} {t : TypeId} {fz : Nat × Nat} (h : W.heap[q]? = some (.cells cs t fz)) (o : Obj) : (W.alloc o).heap[q]? = some (.cells cs t fz) :=
  (heap_alloc_old W o (Array.getElem?_eq_some_iff.1 h).1).trans h
theorem grown_setRow (w : World) (q : Nat) (cs : Array Value) : w.grownBy (w.setRow q cs) (some q) :=
  ⟨rfl, rfl, rfl, by rw [size_setRow]; exact Nat.le_refl _, fun k _ hne => setRow_other w q k cs (fun e => hne (by rw [e]))⟩
theorem Rd.new {w0 : World} {B b q : Nat} {w w1 : World} (h : Rd w0 B b w) (hg : w.grownBy w1 (some q)) (hq : w0.heap.size ≤ q) (hb : b < w0.heap.size) : Rd w0 B b w1 :=
  ⟨h.src.grown hg (fun k e => by have := Option.some.inj e; omega), ⟨hg.os.trans h.gr.os, hg.tape.trans h.gr.tape, hg.output.trans h.gr.output, Nat.le_trans h.gr.size hg.size, fun k hk hne => (hg.block k (Nat.lt_of_lt_of_le hk h.gr.size) (fun e => by have := Option.some.inj e; omega)).trans (h.gr.block k hk hne)⟩⟩
theorem linfo_node5 : (Tryz.prog.info? 45).map (·.size) = some 5 := by kernel_rfl
abbrev ndA (x : Nd) (P : Option Addr) (cp : Nat) : Array Value := #[.string x.name, .int .i64 x.kind, .int .i64 x.len, .int .i64 x.zone, .slice P x.exits.length cp]
theorem strip_end {B b m i : Nat} {f : Nat → Int} {zo : Int} {tos : List Int} {w V : World} {x : Nd} {P : Option Addr} {cp : Nat} (R : Rd w B b V) (hb : b < w.heap.size) (hres : V.heap[w.heap.size]? = some (.cells ndZ 45 (0, 0)))
    (h1 : x.name = ⟨#[]⟩) (h2 : x.zone = zo) (h3 : StG i (· ∈ tos) x) (h4 : ∃ j, j < m ∧ (x.kind = f j ∨ (f j = 4 ∧ x.kind = 2))) (h5 : IntRow b V P x.exits) (h6 : x.exits.length ≤ cp) :
    StripTo B b f m i zo tos w (.returned (ndV x P cp)) (V.setRow w.heap.size (ndA x P cp)) := by
  have R1 := R.new (grown_setRow V w.heap.size (ndA x P cp)) (Nat.le_refl _) hb
  exact ⟨x, P, cp, rfl, h1, h2, h3, h4, h5.step (keepTy_setRow hres (by decide)), h6, R1.src, R1.gr⟩
set_option maxHeartbeats 4000000 in
set_option maxRecDepth 100000 in
theorem strip_any (B b g m i : Nat) (f : Nat → Int) (zo : Int) (tos : List Int) (A : Option Addr) (c : Nat) (w : World) (hS : Src B b w) (h1 : 1 ≤ m) (h2 : m ≤ 1000) (hne : g ≠ b) (hc : ∀ j, j < m → w.cell? ⟨g, j, none⟩ = some (.int .i64 (f j)))
    (hz : tos.length ≤ 1000) (hp : 0 < tos.length) (h0 : ∀ t ∈ tos, 0 ≤ t) (ht : NumsIn b w A tos) :
    Calls Tryz.prog 23 #[.pointer (some ⟨b, 0, none⟩), .int .i64 (i : Int), .int .i64 zo, .slice (some ⟨g, 0, none⟩) m m, .slice A tos.length c] w (StripTo B b f m i zo tos w) := by
  have bA := (Below.refl w.heap.size w).alloc (Nat.le_refl _) (.cells ndZ 45)
  have R0 := (Rd.start hS).alloc (.cells ndZ 45)
  have hres0 := heap_alloc_new w (.cells ndZ 45)
  have HC := hide fun j hj => kept bA (hc j hj)
  have HT := hide ht
  have hbl := hS.lt
  have hgne : some g ≠ some b := by simpa using hne
  have HR0 := hide R0
  have HRes0 := hide hres0
  clear hS hc ht bA R0 hres0
  go_enter Tryz.func23, Tryz.ntmps23
  go_wp2_with fail
  refine (pick_any B b g m f _ (unhide HR0).src h1 h2 hgne (unhide HC)).mono ?_
  rintro e w1 ⟨j, hj, rfl, hs1, hg1⟩
  have HR1 := hide ((unhide HR0).step hs1 hg1)
  have HRes1 := hide ((hg1.block _ (Array.getElem?_eq_some_iff.1 (unhide HRes0)).1 (by simp; omega)).trans (unhide HRes0))
  clear hs1 hg1 HR0 HRes0
  go_wp2_with fail
  refine (range_any B b 1 3 _ (unhide HR1).src (by omega) (by omega) (by omega)).mono ?_
  rintro e w2 ⟨ln, rfl, hl1, hl2, hs2, hg2⟩
  have HR2 := hide (((unhide HR1).step hs2 hg2).alloc (.cells #[.string ⟨#[]⟩, .int .i64 (f j), .int .i64 ln, .int .i64 zo, .slice none 0 0] 45))
  have HRes2 := hide (loom_nd ((hg2.block _ (Array.getElem?_eq_some_iff.1 (unhide HRes1)).1 (by simp; omega)).trans (unhide HRes1)) (.cells #[.string ⟨#[]⟩, .int .i64 (f j), .int .i64 ln, .int .i64 zo, .slice none 0 0] 45))
  have HBx2 := hide (heap_alloc_new w2 (.cells #[.string ⟨#[]⟩, .int .i64 (f j), .int .i64 ln, .int .i64 zo, .slice none 0 0] 45))
  have hq : w.heap.size < w2.heap.size := by
    have h3 := hg2.size
    have h4 := (Array.getElem?_eq_some_iff.1 (unhide HRes1)).1
    omega
  clear hs2 hg2 HR1 HRes1
  have HO := hide (other_any B b tos (-1) A c _ (unhide HR2).src hz ((unhide HT).grown (unhide HR2).gr))
  go_wp2_with fail
  refine (unhide HO).mono ?_
  rintro e w3 ⟨t1, rfl, ht1, hs3, hg3⟩
  have hm1 : t1 ∈ tos := by
    rcases ht1 with h | ⟨_, h⟩
    · exact h.1
    · have hx := List.getElem_mem (l := tos) hp
      have := h0 _ hx
      have := h _ hx
      omega
  have hR3 := (unhide HR2).step hs3 hg3
  have hres3 := (hg3.block _ (Array.getElem?_eq_some_iff.1 (unhide HRes2)).1 (by simp; omega)).trans (unhide HRes2)
  have hbx3 := (hg3.block _ (Array.getElem?_eq_some_iff.1 (unhide HBx2)).1 (by simp; omega)).trans (unhide HBx2)
  obtain ⟨y0, y1, y2, y3, y4⟩ := nd_cells hbx3
  have fz3 : ∀ n, w3.frozen? ⟨w2.heap.size, n, none⟩ = false := fun n => Lib.frozen_of_heap hbx3 n
  have f1 := fz3 1
  have f2 := fz3 2
  have f4 := fz3 4
  have hq3 : w2.heap.size < w3.heap.size := (Array.getElem?_eq_some_iff.1 hbx3).1
  have HM1 := hide hm1
  have HR3 := hide hR3
  have HRes3 := hide hres3
  have HBx3 := hide hbx3
  have HJ := hide (show j < m from hj)
  generalize hk : f j = k at *
  have HK := hide hk
  clear ht1 hs3 hg3 hm1 hR3 hres3 hbx3 fz3 HO hk
  by_cases k5 : k = 5
  · have b5 : (k == 5) = true := by rw [beq_iff_eq]; exact k5
    have hsum : IntKind.i64.wrap (ln + 1) = ln + 1 := IntWalk.i64_in _ (by omega)
    have hresV : (((w3.setCell ⟨w2.heap.size, 2, none⟩ (.int .i64 (ln + 1))).setCell ⟨w2.heap.size, 4, none⟩ (.slice (some ⟨w3.heap.size, 0, none⟩) 2 2)).alloc (.cells #[.int .i64 (i : Int), .int .i64 t1] 3)).heap[w.heap.size]? = some (.cells ndZ 45 (0, 0)) :=
      loom_nd (heap_setOther (heap_setOther (unhide HRes3) (by omega) _) (by omega) _) _
    have hR := setRow_heap _ w.heap.size _ (ndA ⟨⟨#[]⟩, 5, ln + 1, zo, [(i : Int), t1]⟩ (some ⟨w3.heap.size, 0, none⟩) 2) _ _ hresV
    have RV := ((((unhide HR3).new (grown_set w3 w2.heap.size 2 (.int .i64 (ln + 1))) (by omega) hbl).new (grown_set _ w2.heap.size 4 (.slice (some ⟨w3.heap.size, 0, none⟩) 2 2)) (by omega) hbl).alloc (.cells #[.int .i64 (i : Int), .int .i64 t1] 3))
    have hrw : IntRow b (((w3.setCell ⟨w2.heap.size, 2, none⟩ (.int .i64 (ln + 1))).setCell ⟨w2.heap.size, 4, none⟩ (.slice (some ⟨w3.heap.size, 0, none⟩) 2 2)).alloc (.cells #[.int .i64 (i : Int), .int .i64 t1] 3)) (some ⟨w3.heap.size, 0, none⟩) [(i : Int), t1] := by
      have := introw_two (b := b) (W := ((w3.setCell ⟨w2.heap.size, 2, none⟩ (.int .i64 (ln + 1))).setCell ⟨w2.heap.size, 4, none⟩ (.slice (some ⟨w3.heap.size, 0, none⟩) 2 2))) (by simp [World.setCell]; omega) (i : Int) t1
      simpa [World.setCell] using this
    have HResV := hide hresV
    have HR := hide hR
    have HEnd := hide (strip_end (f := f) (m := m) (i := i) (tos := tos) (x := ⟨⟨#[]⟩, 5, ln + 1, zo, [(i : Int), t1]⟩) (cp := 2) RV hbl hresV rfl rfl (.inr (.inr ⟨rfl, by show 2 ≤ ln + 1; omega, by show ln + 1 ≤ 4; omega, t1, rfl, unhide HM1⟩)) ⟨j, unhide HJ, .inl (by rw [unhide HK, k5])⟩ hrw (Nat.le_refl _))
    clear hresV hR RV hrw
    go_wp2_with (first
      | (refine wpList_store_row rfl _ _ _ rfl w.heap.size (ndA ⟨⟨#[]⟩, 5, ln + 1, zo, [(i : Int), t1]⟩ (some ⟨w3.heap.size, 0, none⟩) 2) rfl rfl 45 _ (unhide HResV) linfo_node5 rfl (by simp [Value.oneCell']) ?_))
    obtain ⟨z0, z1, z2, z3, z4⟩ := nd_cells (unhide HR)
    exact bodyPost_ret (v := ndV ⟨⟨#[]⟩, 5, ln + 1, zo, [(i : Int), t1]⟩ (some ⟨w3.heap.size, 0, none⟩) 2) (by simp [results, go_sem, z0, z1, z2, z3, z4]) rfl (unhide HEnd)
  · have b5 : (k == 5) = false := by rw [beq_eq_false_iff_ne]; exact k5
    by_cases k4 : k = 4
    · have b4 : (k == 4) = true := by rw [beq_iff_eq]; exact k4
      have HO2 := hide (other_any B b tos t1 A c _ (unhide HR3).src hz ((unhide HT).grown (unhide HR3).gr))
      go_wp2_with fail
      refine (unhide HO2).mono ?_
      rintro e w4 ⟨t2, rfl, ht2, hs4, hg4⟩
      have hR4 := (unhide HR3).step hs4 hg4
      have hres4 := (hg4.block _ (Array.getElem?_eq_some_iff.1 (unhide HRes3)).1 (by simp; omega)).trans (unhide HRes3)
      have hbx4 := (hg4.block _ (Array.getElem?_eq_some_iff.1 (unhide HBx3)).1 (by simp; omega)).trans (unhide HBx3)
      have hq4 : w2.heap.size < w4.heap.size := (Array.getElem?_eq_some_iff.1 hbx4).1
      have HR4 := hide hR4
      have HRes4 := hide hres4
      have HT2 := hide ht2
      clear y0 y1 y2 y3 y4 f1 f2 f4
      obtain ⟨y0, y1, y2, y3, y4⟩ := nd_cells hbx4
      have fz4 : ∀ n, w4.frozen? ⟨w2.heap.size, n, none⟩ = false := fun n => Lib.frozen_of_heap hbx4 n
      have f1 := fz4 1
      have f4 := fz4 4
      clear ht2 hs4 hg4 hR4 hres4 hbx4 fz4
      by_cases hneg : t2 < 0
      · have hresV : (((w4.setCell ⟨w2.heap.size, 1, none⟩ (.int .i64 2)).setCell ⟨w2.heap.size, 4, none⟩ (.slice (some ⟨w4.heap.size, 0, none⟩) 1 1)).alloc (.cells #[.int .i64 t1] 3)).heap[w.heap.size]? = some (.cells ndZ 45 (0, 0)) :=
          loom_nd (heap_setOther (heap_setOther (unhide HRes4) (by omega) _) (by omega) _) _
        have hR := setRow_heap _ w.heap.size _ (ndA ⟨⟨#[]⟩, 2, ln, zo, [t1]⟩ (some ⟨w4.heap.size, 0, none⟩) 1) _ _ hresV
        have RV := ((((unhide HR4).new (grown_set w4 w2.heap.size 1 (.int .i64 2)) (by omega) hbl).new (grown_set _ w2.heap.size 4 (.slice (some ⟨w4.heap.size, 0, none⟩) 1 1)) (by omega) hbl).alloc (.cells #[.int .i64 t1] 3))
        have hrw : IntRow b (((w4.setCell ⟨w2.heap.size, 1, none⟩ (.int .i64 2)).setCell ⟨w2.heap.size, 4, none⟩ (.slice (some ⟨w4.heap.size, 0, none⟩) 1 1)).alloc (.cells #[.int .i64 t1] 3)) (some ⟨w4.heap.size, 0, none⟩) [t1] := by
          have := introw_one (b := b) (W := ((w4.setCell ⟨w2.heap.size, 1, none⟩ (.int .i64 2)).setCell ⟨w2.heap.size, 4, none⟩ (.slice (some ⟨w4.heap.size, 0, none⟩) 1 1))) (by simp [World.setCell]; omega) t1
          simpa [World.setCell] using this
        have HResV := hide hresV
        have HR := hide hR
        have HEnd := hide (strip_end (f := f) (m := m) (i := i) (tos := tos) (x := ⟨⟨#[]⟩, 2, ln, zo, [t1]⟩) (cp := 1) RV hbl hresV rfl rfl (.inl ⟨by show (2 : Int) ≠ 4; omega, by show (2 : Int) ≠ 5; omega, hl1, hl2, t1, rfl, unhide HM1⟩) ⟨j, unhide HJ, .inr ⟨by rw [unhide HK, k4], rfl⟩⟩ hrw (Nat.le_refl _))
        clear hresV hR RV hrw
        go_wp2_with (first
          | (refine wpList_store_row rfl _ _ _ rfl w.heap.size (ndA ⟨⟨#[]⟩, 2, ln, zo, [t1]⟩ (some ⟨w4.heap.size, 0, none⟩) 1) rfl rfl 45 _ (unhide HResV) linfo_node5 rfl (by simp [Value.oneCell']) ?_))
        obtain ⟨z0, z1, z2, z3, z4⟩ := nd_cells (unhide HR)
        exact bodyPost_ret (v := ndV ⟨⟨#[]⟩, 2, ln, zo, [t1]⟩ (some ⟨w4.heap.size, 0, none⟩) 1) (by simp [results, go_sem, z0, z1, z2, z3, z4]) rfl (unhide HEnd)
      · have HM2 := hide (show t2 ∈ tos ∧ t2 ≠ t1 by
          rcases unhide HT2 with h | h
          · exact h
          · omega)
        have hresV : ((w4.setCell ⟨w2.heap.size, 4, none⟩ (.slice (some ⟨w4.heap.size, 0, none⟩) 2 2)).alloc (.cells #[.int .i64 t1, .int .i64 t2] 3)).heap[w.heap.size]? = some (.cells ndZ 45 (0, 0)) :=
          loom_nd (heap_setOther (unhide HRes4) (by omega) _) _
        have hR := setRow_heap _ w.heap.size _ (ndA ⟨⟨#[]⟩, 4, ln, zo, [t1, t2]⟩ (some ⟨w4.heap.size, 0, none⟩) 2) _ _ hresV
        have RV := (((unhide HR4).new (grown_set w4 w2.heap.size 4 (.slice (some ⟨w4.heap.size, 0, none⟩) 2 2)) (by omega) hbl).alloc (.cells #[.int .i64 t1, .int .i64 t2] 3))
        have hrw : IntRow b ((w4.setCell ⟨w2.heap.size, 4, none⟩ (.slice (some ⟨w4.heap.size, 0, none⟩) 2 2)).alloc (.cells #[.int .i64 t1, .int .i64 t2] 3)) (some ⟨w4.heap.size, 0, none⟩) [t1, t2] := by
          have := introw_two (b := b) (W := (w4.setCell ⟨w2.heap.size, 4, none⟩ (.slice (some ⟨w4.heap.size, 0, none⟩) 2 2))) (by simp [World.setCell]; omega) t1 t2
          simpa [World.setCell] using this
        have HResV := hide hresV
        have HR := hide hR
        have HEnd := hide (strip_end (f := f) (m := m) (i := i) (tos := tos) (x := ⟨⟨#[]⟩, 4, ln, zo, [t1, t2]⟩) (cp := 2) RV hbl hresV rfl rfl (.inr (.inl ⟨rfl, hl1, hl2, t1, t2, rfl, fun e => (unhide HM2).2 e.symm, unhide HM1, (unhide HM2).1⟩)) ⟨j, unhide HJ, .inl (by rw [unhide HK, k4])⟩ hrw (Nat.le_refl _))
        clear hresV hR RV hrw
        go_wp2_with (first
          | (refine wpList_store_row rfl _ _ _ rfl w.heap.size (ndA ⟨⟨#[]⟩, 4, ln, zo, [t1, t2]⟩ (some ⟨w4.heap.size, 0, none⟩) 2) rfl rfl 45 _ (unhide HResV) linfo_node5 rfl (by simp [Value.oneCell']) ?_))
        obtain ⟨z0, z1, z2, z3, z4⟩ := nd_cells (unhide HR)
        exact bodyPost_ret (v := ndV ⟨⟨#[]⟩, 4, ln, zo, [t1, t2]⟩ (some ⟨w4.heap.size, 0, none⟩) 2) (by simp [results, go_sem, z0, z1, z2, z3, z4]) rfl (unhide HEnd)
    · have b4 : (k == 4) = false := by rw [beq_eq_false_iff_ne]; exact k4
      have hresV : ((w3.setCell ⟨w2.heap.size, 4, none⟩ (.slice (some ⟨w3.heap.size, 0, none⟩) 1 1)).alloc (.cells #[.int .i64 t1] 3)).heap[w.heap.size]? = some (.cells ndZ 45 (0, 0)) :=
        loom_nd (heap_setOther (unhide HRes3) (by omega) _) _
      have hR := setRow_heap _ w.heap.size _ (ndA ⟨⟨#[]⟩, k, ln, zo, [t1]⟩ (some ⟨w3.heap.size, 0, none⟩) 1) _ _ hresV
      have RV := (((unhide HR3).new (grown_set w3 w2.heap.size 4 (.slice (some ⟨w3.heap.size, 0, none⟩) 1 1)) (by omega) hbl).alloc (.cells #[.int .i64 t1] 3))
      have hrw : IntRow b ((w3.setCell ⟨w2.heap.size, 4, none⟩ (.slice (some ⟨w3.heap.size, 0, none⟩) 1 1)).alloc (.cells #[.int .i64 t1] 3)) (some ⟨w3.heap.size, 0, none⟩) [t1] := by
        have := introw_one (b := b) (W := (w3.setCell ⟨w2.heap.size, 4, none⟩ (.slice (some ⟨w3.heap.size, 0, none⟩) 1 1))) (by simp [World.setCell]; omega) t1
        simpa [World.setCell] using this
      have HResV := hide hresV
      have HR := hide hR
      have HEnd := hide (strip_end (f := f) (m := m) (i := i) (tos := tos) (x := ⟨⟨#[]⟩, k, ln, zo, [t1]⟩) (cp := 1) RV hbl hresV rfl rfl (.inl ⟨k4, k5, hl1, hl2, t1, rfl, unhide HM1⟩) ⟨j, unhide HJ, .inl (unhide HK).symm⟩ hrw (Nat.le_refl _))
      clear hresV hR RV hrw
      go_wp2_with (first
        | (refine wpList_store_row rfl _ _ _ rfl w.heap.size (ndA ⟨⟨#[]⟩, k, ln, zo, [t1]⟩ (some ⟨w3.heap.size, 0, none⟩) 1) rfl rfl 45 _ (unhide HResV) linfo_node5 rfl (by simp [Value.oneCell']) ?_))
      obtain ⟨z0, z1, z2, z3, z4⟩ := nd_cells (unhide HR)
      exact bodyPost_ret (v := ndV ⟨⟨#[]⟩, k, ln, zo, [t1]⟩ (some ⟨w3.heap.size, 0, none⟩) 1) (by simp [results, go_sem, z0, z1, z2, z3, z4]) rfl (unhide HEnd)
end Go.Proofs.YtfddpdognelhmaaGreatDoor
