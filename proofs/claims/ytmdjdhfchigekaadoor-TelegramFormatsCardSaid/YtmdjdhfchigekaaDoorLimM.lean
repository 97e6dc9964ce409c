/-
  The telegrams of TelegramLimits: what they come to; mathematics alone.
-/
import Derived.Test.YtmdjdhfchigekaaDoorTelA
import Derived.Test.YtmdjdhfchigekaaDoorParU
namespace Go.Proofs.YtmdjdhfchigekaaDoor

def bsm : ByteArray := ⟨#[66, 83, 77]⟩
def eA : El := (⟨#[65]⟩, [⟨#[66]⟩])
def tA (N : Nat) : Tel := ⟨bsm, ⟨#[]⟩, List.replicate N eA⟩
def tB (M : Nat) : Tel := ⟨bsm, ⟨#[]⟩, [(⟨#[65]⟩, List.replicate M ByteArray.empty)]⟩
def digS : ByteArray := ⟨#[48, 49, 50, 51, 52, 53, 54, 55, 56, 57, 65, 66, 67, 68, 69, 70, 71, 72, 73, 74, 75]⟩
def tC (L : Nat) : Tel := ⟨bsm, ⟨#[]⟩, [(⟨#[65]⟩, [digS.extract 0 L])]⟩
def bodyX (k : Nat) : List UInt8 := (List.replicate k [46, 65, 47, 66, 10]).flatten
theorem bodyX_step (k : Nat) : bodyX (k + 1) = bodyX k ++ [46, 65, 47, 66, 10] := by
  unfold bodyX; rw [List.replicate_succ', List.flatten_append]; rfl
def wholeX (k : Nat) : ByteArray := ⟨([66, 83, 77, 10] ++ bodyX k ++ [69, 78, 68, 66, 83, 77, 10]).toArray⟩
/-- What the error is. -/
def limE (k : Int) : Int := if k ≤ 0 then 0 else 2
theorem lim_A {k : Int} (h : k = -1 ∨ k = 0 ∨ k = 1) : telE (tA (24 + k).toNat) = limE k := by
  rcases h with rfl | rfl | rfl <;> decide +kernel
theorem lim_B {k : Int} (h : k = -1 ∨ k = 0 ∨ k = 1) : telE (tB (8 + k).toNat) = limE k := by
  rcases h with rfl | rfl | rfl <;> decide +kernel
theorem lim_C {k : Int} (h : k = -1 ∨ k = 0 ∨ k = 1) : telE (tC (20 + k).toNat) = limE k := by
  rcases h with rfl | rfl | rfl <;> decide +kernel
theorem lineA : lineX eA = [46, 65, 47, 66] := rfl
theorem bodyX_cons (k : Nat) : bodyX (k + 1) = lineX eA ++ 10 :: bodyX k := by
  unfold bodyX; rw [List.replicate_succ, List.flatten_cons]; rfl
theorem rstep_A {q : St} (he : q.ended = false) (hl : q.lines ≠ 0) : rstep q (B (lineX eA)) = estep q (B (lineX eA)) := by
  have hne : B (lineX eA) ≠ endS q.kind := line_ne_end _ _
  have hch : chB (B (lineX eA)) = false := ch_46 _
  exact rstep_6 he hl (by rintro ⟨_, h2⟩; rw [hch] at h2; cases h2) hne
theorem run_As (rest : List UInt8) : ∀ (n : Nat) (q : St), q.ended = false → q.lines ≠ 0 → q.els.length + (n + 1) = 25 → run q (B (bodyX (n + 1) ++ rest)) = ⟨tel0, q.lines + ((n + 1 : Nat) : Int), 2⟩ := by
  intro n
  induction n with
  | zero =>
    intro q he hl h
    rw [bodyX_cons, List.append_assoc, List.cons_append]
    have hst : rstep q (B (lineX eA)) = (2, q) := by
      rw [rstep_A he hl, estep_3 (by decide +kernel) (by omega)]
    rw [run_line (p := lineX eA) (r := bodyX 0 ++ rest) (by rw [lineA]; decide) rfl, hst]
    rfl
  | succ n ih =>
    intro q he hl h
    rw [bodyX_cons, List.append_assoc, List.cons_append]
    have e1 : peEl (B (lineX eA)) = eA := (pe_line (e := eA) (by decide +kernel)).1
    have hst : rstep q (B (lineX eA)) = (0, { q with els := q.els ++ [eA] }) := by
      rw [rstep_A he hl, estep_4 (by decide +kernel) (by rw [e1]; decide +kernel) (by omega), e1]
    rw [run_line (p := lineX eA) (r := bodyX (n + 1) ++ rest) (by rw [lineA]; decide) rfl, hst, if_pos rfl]
    have := ih ({ q with els := q.els ++ [eA] } : St).next he (Nat.succ_ne_zero _) (by show (q.els ++ [eA]).length + (n + 1) = 25; rw [List.length_append, List.length_singleton]; omega)
    rw [this]
    show (⟨tel0, ((q.lines + 1 : Nat) : Int) + _, 2⟩ : Res) = _
    congr 1
    omega
theorem lim_P1 : parse (wholeX 25) = ⟨tel0, 26, 2⟩ := by
  rw [parse_run (by decide +kernel)]
  have e : wholeX 25 = B ([66, 83, 77] ++ 10 :: (bodyX 25 ++ [69, 78, 68, 66, 83, 77, 10])) := by
    unfold wholeX; rw [List.append_assoc]; rfl
  rw [e, run_line (p := [66, 83, 77]) (r := bodyX 25 ++ [69, 78, 68, 66, 83, 77, 10]) (by decide) rfl]
  have hst : rstep st0 (B [66, 83, 77]) = (0, { st0 with kind := B [66, 83, 77] }) := rstep_2 rfl rfl (by decide +kernel)
  rw [hst, if_pos rfl, run_As _ 24 _ rfl (Nat.succ_ne_zero _) rfl]
  rfl
theorem lim_P0 {N : Nat} (h : telE (tA N) = 0) (h2 : telX (tA N) = [66, 83, 77, 10] ++ bodyX N ++ [69, 78, 68, 66, 83, 77, 10]) : parse (wholeX N) = ⟨tA N, 0, 0⟩ := by
  have := parse_text h
  rw [telS_0 h, h2] at this
  exact this
theorem lim_P {k : Int} (h : k = -1 ∨ k = 0 ∨ k = 1) : (parse (wholeX (24 + k).toNat)).err = limE k ∧ (0 < k → (parse (wholeX (24 + k).toNat)).line = 26) := by
  rcases h with rfl | rfl | rfl
  · have := lim_P0 (N := 23) (lim_A (k := -1) (.inl rfl)) (by decide +kernel)
    exact ⟨by rw [show ((24 : Int) + -1).toNat = 23 from rfl, this]; rfl, fun h => absurd h (by decide)⟩
  · have := lim_P0 (N := 24) (lim_A (k := 0) (.inr (.inl rfl))) (by decide +kernel)
    exact ⟨by rw [show ((24 : Int) + 0).toNat = 24 from rfl, this]; rfl, fun h => absurd h (by decide)⟩
  · exact ⟨by rw [show ((24 : Int) + 1).toNat = 25 from rfl, lim_P1]; rfl, fun _ => by rw [show ((24 : Int) + 1).toNat = 25 from rfl, lim_P1]⟩
theorem small_A (N : Nat) (h : N ≤ 30) : SmallT (tA N) := by
  have z : (tA N).els.length = N := List.length_replicate
  refine ⟨by omega, (by decide : bsm.size ≤ 3000), Nat.zero_le _, fun e he => ?_⟩
  have : e = eA := List.eq_of_mem_replicate he
  subst this
  refine ⟨by decide, by decide, fun p hp => ?_⟩
  rcases List.mem_singleton.1 hp with rfl
  decide
theorem small_B (M : Nat) (h : M ≤ 30) : SmallT (tB M) := by
  refine ⟨(by decide : 1 ≤ 3000), (by decide : bsm.size ≤ 3000), Nat.zero_le _, fun e he => ?_⟩
  rcases List.mem_singleton.1 he with rfl
  refine ⟨by simp; omega, (by decide : 1 ≤ 3000), fun p hp => ?_⟩
  have : p = ByteArray.empty := List.eq_of_mem_replicate hp
  subst this
  decide
theorem small_C (L : Nat) : SmallT (tC L) := by
  refine ⟨(by decide : 1 ≤ 3000), (by decide : bsm.size ≤ 3000), Nat.zero_le _, fun e he => ?_⟩
  rcases List.mem_singleton.1 he with rfl
  refine ⟨(by decide : 1 ≤ 3000), (by decide : 1 ≤ 3000), fun p hp => ?_⟩
  rcases List.mem_singleton.1 hp with rfl
  rw [ByteArray.size_extract]
  have : digS.size = 21 := by decide
  omega
end Go.Proofs.YtmdjdhfchigekaaDoor
