/-
  What Parse of a telegram comes to, as functions on byte strings.
-/
import Derived.Test.YtglgobmmmghdoaaGreatDoorTelA
import Derived.Test.YtglgobmmmghdoaaGreatDoorLibS
namespace Go.Proofs.YtglgobmmmghdoaaGreatDoor

/-- The head of a line and what follows its first slash. -/
def peHead (s : ByteArray) : ByteArray := if cutC 47 s = -1 then s else s.extract 0 (cutC 47 s).toNat
def peRest (s : ByteArray) : ByteArray := if cutC 47 s = -1 then ByteArray.empty else s.extract ((cutC 47 s).toNat + 1) s.size
def peCut (s : ByteArray) : Bool := !(cutC 47 s == -1)
def peDot (s : ByteArray) : Bool := Lib.hasPrefix (peHead s).data.toList [46]
def peEl (s : ByteArray) : El := (⟨(Lib.trimPrefix (peHead s).data.toList [46]).toArray⟩, splitC 47 (peRest s))
def peOk (s : ByteArray) : Bool := peDot s && (peCut s && felB (peEl s))
theorem peOk_1 {s : ByteArray} (h : peDot s = false) : peOk s = false := by unfold peOk; rw [h]; rfl
theorem peOk_2 {s : ByteArray} (h : peCut s = false) : peOk s = false := by unfold peOk; rw [h]; simp
theorem peOk_3 {s : ByteArray} (h : peDot s = true) (h2 : peCut s = true) : peOk s = felB (peEl s) := by unfold peOk; rw [h, h2]; rfl
theorem pe_miss {s : ByteArray} (h : cutC 47 s = -1) : peHead s = s ∧ peRest s = ByteArray.empty ∧ peCut s = false := by
  unfold peHead peRest peCut; rw [h]; exact ⟨rfl, rfl, rfl⟩
theorem pe_hit {s : ByteArray} {k : Nat} (h : cutC 47 s = (k : Int)) : peHead s = s.extract 0 k ∧ peRest s = s.extract (k + 1) s.size ∧ peCut s = true := by
  have hn : ¬ ((k : Int) = -1) := by omega
  unfold peHead peRest peCut
  rw [h, if_neg hn, if_neg hn, Int.toNat_natCast]
  refine ⟨rfl, rfl, ?_⟩
  have : ((k : Int) == -1) = false := by rw [beq_eq_false_iff_ne]; exact hn
  rw [this]; rfl

/-- What the reader knows. -/
structure St where
  kind : ByteArray
  change : ByteArray
  els : List El
  lines : Nat
  ended : Bool
def St.tel (q : St) : Tel := ⟨q.kind, q.change, q.els⟩
def endS (K : ByteArray) : ByteArray := ⟨#[69, 78, 68]⟩ ++ K
/-- The error of a line, and what is known behind it. -/
def rstep (q : St) (l : ByteArray) : Int × St :=
  if q.ended then (3, q)
  else if q.lines = 0 then (if letN l 3 then (0, { q with kind := l }) else (3, q))
  else if q.lines = 1 ∧ chB l = true then (0, { q with change := l })
  else if l = endS q.kind then (0, { q with ended := true })
  else if peOk l then (if belB (peEl l) = true ∧ q.els.length ≠ 24 then (0, { q with els := q.els ++ [peEl l] }) else (2, q))
  else (3, q)
def St.next (q : St) : St := { q with lines := q.lines + 1 }
/-- The error of an element line. -/
def estep (q : St) (l : ByteArray) : Int × St :=
  if peOk l then (if belB (peEl l) = true ∧ q.els.length ≠ 24 then (0, { q with els := q.els ++ [peEl l] }) else (2, q)) else (3, q)
def tel0 : Tel := ⟨ByteArray.empty, ByteArray.empty, []⟩
/-- A result: the telegram, the number of the line, the error. -/
structure Res where
  tel : Tel
  line : Int
  err : Int
def pfin (q : St) : Res := if q.ended then ⟨q.tel, 0, 0⟩ else ⟨tel0, q.lines + 1, 3⟩
def prun : Nat → St → ByteArray → Res
  | 0, q, _ => pfin q
  | n + 1, q, s => if s.size = 0 then pfin q else
    if cutC 10 s = -1 then ⟨tel0, q.lines + 1, 3⟩ else
    if (rstep q (s.extract 0 (cutC 10 s).toNat)).1 = 0 then prun n (rstep q (s.extract 0 (cutC 10 s).toNat)).2.next (s.extract ((cutC 10 s).toNat + 1) s.size)
    else ⟨tel0, q.lines + 1, (rstep q (s.extract 0 (cutC 10 s).toNat)).1⟩
def st0 : St := ⟨ByteArray.empty, ByteArray.empty, [], 0, false⟩
def parse (s : ByteArray) : Res := if 2048 < s.size then ⟨tel0, 0, 2⟩ else prun s.size st0 s
theorem prun_end {n : Nat} {q : St} {s : ByteArray} (h : s.size = 0) : prun n q s = pfin q := by
  cases n with
  | zero => rfl
  | succ n => unfold prun; rw [if_pos h]
theorem prun_miss {n : Nat} {q : St} {s : ByteArray} (hn : s.size ≤ n) (h0 : s.size ≠ 0) (h : cutC 10 s = -1) : prun n q s = ⟨tel0, q.lines + 1, 3⟩ := by
  obtain ⟨m, rfl⟩ : ∃ m, n = m + 1 := ⟨n - 1, by omega⟩
  unfold prun; rw [if_neg h0, if_pos h]
theorem prun_hit {n k : Nat} {q : St} {s : ByteArray} (hn : s.size ≤ n) (hk : k + 1 ≤ s.size) (h : cutC 10 s = (k : Int)) :
    prun n q s = if (rstep q (s.extract 0 k)).1 = 0 then prun (n - 1) (rstep q (s.extract 0 k)).2.next (s.extract (k + 1) s.size) else ⟨tel0, q.lines + 1, (rstep q (s.extract 0 k)).1⟩ := by
  obtain ⟨m, rfl⟩ : ∃ m, n = m + 1 := ⟨n - 1, by omega⟩
  rw [Nat.add_sub_cancel]
  conv => lhs; unfold prun
  rw [if_neg (by omega), h, if_neg (by omega), Int.toNat_natCast]
end Go.Proofs.YtglgobmmmghdoaaGreatDoor
