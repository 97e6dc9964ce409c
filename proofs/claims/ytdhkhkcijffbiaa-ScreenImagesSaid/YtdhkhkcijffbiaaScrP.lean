/-
  Screening (layer 15): what the laws want of the program's functions (a structure of contracts; the program's own proofs fill it).
-/
import Derived.Test.YtdhkhkcijffbiaaScrB
namespace Go.Proofs.Ytdhkhkcijffbiaa
open Go.RowKit

/-- Pending checks have images of their own. -/
def ImD (s : Scr) : Prop := ∀ x ∈ s.l, ∀ y ∈ s.l, x.st = 1 → y.st = 1 → x.im = y.im → x = y
def GivesV3 (w : World) (o : Scr) (bag er : Int) (e : Ending) (w' : World) : Prop :=
  ∃ A c, e = .returned (.tuple #[scrV o A c, .int .i64 bag, .int .i64 er]) ∧ (∀ b, b < w.heap.size → CksIn b w' A o.l) ∧ Below w.heap.size w w' ∧ o.l.length ≤ c
def Al.cs (x : Al) : List Value := [.int .i64 x.im, .int .i64 x.bag, .int .i64 x.lv, .int .i64 x.dl]
abbrev AlsIn (b : Nat) (w : World) (A : Option Addr) (l : List Al) : Prop := RowIn Al.cs b w A l
structure ScrOk : Prop where
  new : ∀ (a b c d : Int) (w : World), Calls Try.prog 8 #[.agg #[.int .i64 a, .int .i64 b, .int .i64 c, .int .i64 d]] w fun e w' => ∃ A k, e = .returned (.tuple #[scrV (newS a b c d) A k, .int .i64 (newE a b c d)]) ∧ Below w.heap.size w w'
  start : ∀ (b : Nat) (s : Scr) (bag now : Int) (A : Option Addr) (c : Nat) (w : World), ValS s → CksIn b w A s.l → s.l.length ≤ c → Calls Try.prog 15 #[scrV s A c, .int .i64 bag, .int .i64 now] w (GivesS w (startS s bag now) (startE s bag now))
  expire : ∀ (b : Nat) (s : Scr) (now : Int) (A : Option Addr) (c : Nat) (w : World), ValS s → CksIn b w A s.l → s.l.length ≤ c → Calls Try.prog 17 #[scrV s A c, .int .i64 now] w (GivesS w (expS s now) (expE s now))
  verdict : ∀ (b : Nat) (s : Scr) (image : Int) (clear : Bool) (now : Int) (A : Option Addr) (c : Nat) (w : World), ValS s → CksIn b w A s.l → s.l.length ≤ c → Calls Try.prog 19 #[scrV s A c, .int .i64 image, .bool clear, .int .i64 now] w (GivesV3 w (verS s image clear now) (verBag s image clear now) (verE s image clear now))
  find : ∀ (b : Nat) (s : Scr) (bag : Int) (A : Option Addr) (c : Nat) (w : World), ValS s → CksIn b w A s.l → s.l.length ≤ c → Calls Try.prog 21 #[scrV s A c, .int .i64 bag] w fun e w' => e = .returned (.tuple #[(findX s bag).v, .bool (findB s bag)]) ∧ Below w.heap.size w w'
  alarms : ∀ (b : Nat) (s : Scr) (A : Option Addr) (c : Nat) (w : World), ValS s → ImD s → CksIn b w A s.l → s.l.length ≤ c → Calls Try.prog 27 #[scrV s A c] w fun e w' => ∃ A c, e = .returned (.slice A (alL s).length c) ∧ (∀ b, b < w.heap.size → AlsIn b w' A (alL s)) ∧ Below w.heap.size w w'
  cleared : ∀ (b : Nat) (s : Scr) (A : Option Addr) (c : Nat) (w : World), ValS s → CksIn b w A s.l → s.l.length ≤ c → Calls Try.prog 24 #[scrV s A c] w fun e w' => ∃ A c, e = .returned (.slice A (clrL s).length c) ∧ (∀ b, b < w.heap.size → NumsIn b w' A (clrL s)) ∧ Below w.heap.size w w'
end Go.Proofs.Ytdhkhkcijffbiaa
