/-
  Contract of awake of the inbox's statements.
-/
import Derived.Test.YtcjdjdganaokfaaDoorInbN
import Derived.Test.YtcjdjdganaokfaaDoorInbJ
namespace Go.Proofs.YtcjdjdganaokfaaDoor
open Go.RowKit

theorem mono_one {α : Type} (f : α → Int) (x d : α) : MonoF f [x] d := fun a b hab hb h => by
  obtain rfl : b = 0 := by simpa using hb
  obtain rfl : a = 0 := by omega
  exact h
theorem mono_nil {α : Type} (f : α → Int) (d : α) : MonoF f [] d := fun _ _ _ hb => absurd hb (Nat.not_lt_zero _)
theorem ibx_nil (b : Nat) (w : World) (win : Int) (A : Option Addr) (m : Msg) (h0 : 0 ≤ win) (h1 : win ≤ 1000) : Ibx b w win A [] m :=
  ⟨SndsIn.nil _ _ _, Nat.zero_le _, (fun _ h => by cases h), mono_nil _ _, (fun _ h => by cases h), (fun _ h => by cases h), h0, h1⟩
/-- The one sender of an inbox that knows one. -/
theorem mod_one {ss : List SnS} {t : Snd} (h : ss.map SnS.mod = [t]) : ∃ s, ss = [s] ∧ s.mod = t := by
  match ss, h with
  | [s], h => exact ⟨s, rfl, (List.cons.inj h).1⟩
theorem one_of {α β : Type} (f : α → β) : ∀ (l : List α) (b : β), l.map f = [b] → ∃ y, l = [y] ∧ f y = b
  | [], _, h => by simp at h
  | [y], _, h => ⟨y, rfl, (List.cons.inj h).1⟩
  | _ :: _ :: _, _, h => by simp at h
theorem held_one {s : SnS} {m : Msg} {p : ByteArray} {n : Int} (h : s.mod = ⟨p, n, [m]⟩) : s.port = p ∧ s.next = n ∧ ∃ y, s.held = [y] ∧ y.m = m := by
  have h1 : s.port = p := congrArg Snd.port h
  have h2 : s.next = n := congrArg Snd.next h
  have h3 : s.held.map (·.m) = [m] := congrArg Snd.held h
  obtain ⟨y, hy, hm⟩ := one_of (fun x : MsS => x.m) s.held m h3
  exact ⟨h1, h2, y, hy, hm⟩
def sA : Snd := ⟨ARN, 1, [nbd ARN 2]⟩
theorem rcv_A : insL ([] : List Snd) (lbF (portM ARN) ([] : List Snd)) (rcvS (sns0 ARN).mod (nbd ARN 2)) = [sA] := by
  have h : rcvK (sns0 ARN).mod (nbd ARN 2) = 0 := by decide +kernel
  show [rcvS (sns0 ARN).mod (nbd ARN 2)] = [sA]
  unfold rcvS
  rw [h]
  rfl
theorem rcvO_A : rcvO (sns0 ARN).mod (nbd ARN 2) = [] := by
  have h : rcvK (sns0 ARN).mod (nbd ARN 2) = 0 := by decide +kernel
  unfold rcvO
  rw [h]; rfl
theorem rcvO_A2 : rcvO sA (nbd ARN 1) = [nbd ARN 1, nbd ARN 2] := by
  have h : rcvK sA (nbd ARN 1) = 2 := by decide +kernel
  have hl : lbF (numM (nbd ARN 1).num) sA.held = 0 := by decide +kernel
  unfold rcvO
  rw [h]
  unfold rcvH
  rw [hl]
  rfl
theorem missL_A : missL sA = [1] := by decide +kernel
theorem few_nbd (p : ByteArray) (n : Int) : (nbd p n).onw.length = 0 ∧ (nbd p n).lst.length = 0 := ⟨rfl, rfl⟩
theorem ibx_A {b : Nat} {w : World} {A : Option Addr} {s : SnS} (h : SndsIn b w A [s]) (hs : s.mod = sA) (m : Msg) : Ibx b w 3 A [s] m := by
  obtain ⟨h1, h2, y, hy, hm⟩ := held_one hs
  refine ⟨h, by simp, fun u hu => ?_, mono_one _ _ _, fun u hu => ?_, fun u hu => ?_, by decide, by decide⟩
  · rw [List.mem_singleton.1 hu, hy]
    refine ⟨⟨by simp, fun v hv => ?_⟩, by simp⟩
    rw [List.mem_singleton.1 hv, hm]
    exact ⟨Nat.zero_le _, Nat.zero_le _⟩
  · rw [List.mem_singleton.1 hu, hy]; exact mono_one _ _ _
  · rw [List.mem_singleton.1 hu, h2]; exact ⟨by decide, by decide⟩
theorem lb_A {s : SnS} (hs : s.mod = sA) : lbF (portC ARN) [s] = 0 ∧ hasF (portC ARN) [s] = true := by
  have h1 : s.port = ARN := congrArg Snd.port hs
  have e : portC ARN s = 0 := by unfold portC; rw [h1]; decide +kernel
  have hl : lbF (portC ARN) [s] = 0 := by unfold lbF; rw [List.takeWhile_cons_of_neg (by rw [e]; decide)]; rfl
  refine ⟨hl, ?_⟩
  unfold hasF
  rw [hl]
  show decide (portC ARN s = 0) = true
  rw [e]; rfl
theorem dec_A {s : SnS} (hs : s.mod = sA) : decR s 3 (nbd ARN 1) = 1 := by
  obtain ⟨h1, h2, y, hy, hm⟩ := held_one hs
  have e : numC 1 y = 1 := by unfold numC; rw [hm]; decide +kernel
  have hl : lbF (numC 1) [y] = 0 := by unfold lbF; rw [List.takeWhile_cons_of_neg (by rw [e]; decide)]; rfl
  have hh : hasF (numC 1) [y] = false := by
    unfold hasF
    rw [hl]
    show decide (numC 1 y = 0) = false
    rw [e]; rfl
  unfold decR
  rw [h2, hy]
  show (if (1 : Int) < 1 then (3 : Int) else if (1 : Int) + 3 ≤ 1 then 4 else if hasF (numC 1) [y] = true then _ else if (1 : Int) < 1 then 2 else 1) = 1
  rw [hh, if_neg (by decide), if_neg (by decide), if_neg Bool.false_ne_true, if_neg (by decide)]
/-- The first Receive of awake. -/
theorem awk_1 (b : Nat) (w : World) (hK : Keys w) (hb : b < w.heap.size) :
    Calls Tryd.prog 18 #[ibV 3 none 0 0, (nbS ARN 2).v] w fun e w' => ∃ (A' : Option Addr) (c' : Nat) (s : SnS) (Ao : Option Addr) (co : Nat),
      e = .returned (.tuple #[ibV 3 A' 1 c', .slice Ao 0 co, .int .i64 2, .int .i64 0]) ∧ s.mod = sA ∧ SndsIn b w' A' [s] ∧ Below w.heap.size w w' := by
  refine (rcv_new2 b 3 none 0 [] (nbS ARN 2) w (ibx_nil b w 3 none _ (by decide) (by decide)) hK hb (nbS_lies b w ARN 2) (nbd_arn 2 (by decide) (by decide)) (Nat.zero_le _) (Nat.zero_le _) rfl (by decide +kernel) (by simp)).mono ?_
  rintro e w' ⟨A', c', ss', Ao, co, out, rfl, h1, h2, h3, _, h4⟩
  have h1' : ss'.map SnS.mod = [sA] := h1.trans rcv_A
  obtain ⟨s, rfl, hs⟩ := mod_one h1'
  have h2' : out.map (·.m) = [] := h2.trans rcvO_A
  obtain rfl : out = [] := by simpa using h2'
  exact ⟨A', c', s, Ao, co, rfl, hs, h3 b hb, h4⟩
/-- The second Receive of awake. -/
theorem awk_2 (b c : Nat) (A : Option Addr) (s : SnS) (w : World) (hs : s.mod = sA) (h : SndsIn b w A [s]) (hK : Keys w) (hb : b < w.heap.size) :
    Calls Tryd.prog 18 #[ibV 3 A 1 c, (nbS ARN 1).v] w fun e w' => ∃ (A' : Option Addr) (n' c' : Nat) (g off co : Nat), g ≠ b ∧
      e = .returned (.tuple #[ibV 3 A' n' c', .slice (some ⟨g, off, none⟩) 2 co, .int .i64 1, .int .i64 0]) ∧ w'.cell? ⟨g, off + 1 * 30 + 3, none⟩ = some (.int .i64 2) ∧ Below w.heap.size w w' := by
  obtain ⟨hl, hh⟩ := lb_A hs
  have e0 : ([s] : List SnS).getD (lbF (portC (nbS ARN 1).m.port) [s]) sn0 = s := by
    show ([s] : List SnS).getD (lbF (portC ARN) [s]) sn0 = s
    rw [hl]; rfl
  refine (rcv_old1 b 3 A c [s] (nbS ARN 1) w (ibx_A h hs _) hK hb (nbS_lies b w ARN 1) (nbd_arn 1 (by decide) (by decide)) (Nat.zero_le _) (Nat.zero_le _) hh (by rw [e0]; exact dec_A hs)).mono ?_
  rintro e w' ⟨A', c', ss', Ao, co, out, rfl, h1, h2, h3, h5, h4⟩
  have h2' : out.map (·.m) = [nbd ARN 1, nbd ARN 2] := by rw [h2, e0, hs]; exact rcvO_A2
  have hlen : out.length = 2 := by have := congrArg List.length h2'; simpa using this
  obtain ⟨g, off, hA, hgb, hc, -⟩ := (h5 b hb).at (i := 1) (by omega)
  have e1 : (out.getD 1 ms0).m = nbd ARN 2 := by
    have := List.getElem_of_eq h2' (i := 1) (by simp; omega)
    rw [List.getElem_map] at this
    rw [at_k (by omega)]
    exact this
  subst hA
  refine ⟨A', ss'.length, c', g, off, co, hgb, by rw [hlen], ?_, h4⟩
  have := hc 3 (.int .i64 (out.getD 1 ms0).m.num) rfl
  rw [e1] at this
  exact this
/-- Missing, in awake. -/
theorem awk_3 (b c : Nat) (A : Option Addr) (s : SnS) (w : World) (hs : s.mod = sA) (h : SndsIn b w A [s]) (hb : b < w.heap.size) :
    Calls Tryd.prog 21 #[ibV 3 A 1 c, .string ARN] w fun e w' => ∃ (A' : Option Addr) (c' : Nat), e = .returned (.slice A' 1 c') ∧ Below w.heap.size w w' := by
  obtain ⟨hl, hh⟩ := lb_A hs
  obtain ⟨h1, h2, y, hy, hm⟩ := held_one hs
  have e0 : ([s] : List SnS).getD (lbF (portC ARN) [s]) sn0 = s := by rw [hl]; rfl
  have hH : holdsF [s] ARN = true := by unfold holdsF; rw [hh, e0, hy]; rfl
  refine (imiss_some b 3 A c [s] ARN w h (by simp) (mono_one _ _ _) hH hb (by rw [e0, hy]; simp) (fun t => by rw [e0, hy]; exact mono_one _ _ _) (by rw [e0, h2]; decide) (by rw [e0, h2]; decide)).mono ?_
  rintro e w' ⟨A', c', rfl, _, h4⟩
  refine ⟨A', c', ?_, h4⟩
  rw [e0, hs, missL_A]; rfl
theorem MsgsIn.other {b b' : Nat} {w : World} {A : Option Addr} {xs : List MsS} (h : MsgsIn b w A xs) (hb : w.heap.size ≤ b') : MsgsIn b' w A xs := fun hn => by
  obtain ⟨g, off, hA, _, hc, hl⟩ := h hn
  have hg : g < w.heap.size := World.block_lt_of_cell? w _ (hc 0 _ (by
    rw [show (0 : Nat) = 0 * 30 + 0 from rfl, flatK_at MsS.cs 30 MsS.cs_len xs 0 hn 0 (by omega)]
    rfl))
  exact ⟨g, off, hA, by omega, hc, fun x hx => ⟨(hl x hx).1.other hb, (hl x hx).2.other hb⟩⟩
theorem SndsIn.other {b b' : Nat} {w : World} {A : Option Addr} {xs : List SnS} (h : SndsIn b w A xs) (hb : w.heap.size ≤ b') : SndsIn b' w A xs := fun hn => by
  obtain ⟨g, off, hA, _, hc, hl⟩ := h hn
  have hg : g < w.heap.size := World.block_lt_of_cell? w _ (hc 0 _ (by
    rw [show (0 : Nat) = 0 * 3 + 0 from rfl, flatK_at SnS.cs 3 SnS.cs_len xs 0 hn 0 (by omega)]
    rfl))
  exact ⟨g, off, hA, by omega, hc, fun x hx => (hl x hx).other hb⟩
end Go.Proofs.YtcjdjdganaokfaaDoor
