/-
  Messages: plain mathematics, messages in memory, contracts of the smallest functions.
-/
import Derived.Test.YtglgobmmmghdoaaGreatDoorNumR
import Derived.Test.YtglgobmmmghdoaaGreatDoorTelA
import Derived.Test.YtglgobmmmghdoaaGreatDoorLibF
import Derived.Test.YtglgobmmmghdoaaGreatDoorLibP
import Derived.Lib.ItoaNum
import Derived.Lib.Strings
import Derived.Test.YtglgobmmmghdoaaGreatDoorLibG
import Derived.Laws.StructEq

/- MsgM: Plain mathematics of messages: what is valid, the telegram of a message, what is read from a telegram; no program, no world. -/
namespace Go.Proofs.YtglgobmmmghdoaaGreatDoor

/-- A leg. -/
structure Lg where
  c : ByteArray
  n : Int
  s : ByteArray
  d : Int
  p : ByteArray
  k : ByteArray
def lg0 : Lg := ⟨ByteArray.empty, 0, ByteArray.empty, 0, ByteArray.empty, ByteArray.empty⟩
theorem Lg.ext_iff' {a b : Lg} : a = b ↔ (a.c = b.c ∧ a.n = b.n ∧ a.s = b.s ∧ a.d = b.d ∧ a.p = b.p ∧ a.k = b.k) := by
  cases a; cases b; simp
instance : DecidableEq Lg := fun _ _ => decidable_of_iff _ Lg.ext_iff'.symm
def lgB (g : Lg) : Bool := legB g.c g.n g.s g.d g.p g.k

/-- A message. -/
structure Msg where
  kind : Int
  act : Int
  port : ByteArray
  num : Int
  inn : Lg
  out : Lg
  onw : List Lg
  pl : Int
  pa : Int
  ps : Int
  cnt : Int
  load : Bool
  sta : Int
  sq : Int
  wgt : Int
  sur : ByteArray
  giv : ByteArray
  exc : Int
  node : ByteArray
  lst : List Int
def msg0 : Msg := ⟨0, 0, ByteArray.empty, 0, lg0, lg0, [], 0, 0, 0, 0, false, 0, 0, 0, ByteArray.empty, ByteArray.empty, 0, ByteArray.empty, []⟩
theorem Msg.ext_iff' {a b : Msg} : a = b ↔ (a.kind = b.kind ∧ a.act = b.act ∧ a.port = b.port ∧ a.num = b.num ∧ a.inn = b.inn ∧ a.out = b.out ∧ a.onw = b.onw ∧ (a.pl = b.pl ∧ a.pa = b.pa ∧ a.ps = b.ps) ∧ a.cnt = b.cnt ∧ a.load = b.load ∧ a.sta = b.sta ∧ a.sq = b.sq ∧ a.wgt = b.wgt ∧ a.sur = b.sur ∧ a.giv = b.giv ∧ a.exc = b.exc ∧ a.node = b.node ∧ a.lst = b.lst) := by
  cases a; cases b; simp [and_assoc]
instance : DecidableEq Msg := fun _ _ => decidable_of_iff _ Msg.ext_iff'.symm
/-- Equal messages. -/
def sameM (a b : Msg) : Bool := decide (a = b)

/-- A message with the fields of its kind alone. -/
def ownM (m : Msg) : Msg :=
  if m.kind = 1 then { m with inn := lg0, node := ByteArray.empty, lst := [] }
  else if m.kind = 2 then { m with node := ByteArray.empty, lst := [] }
  else if m.kind = 3 then { msg0 with kind := m.kind, port := m.port, num := m.num, pl := m.pl, pa := m.pa, ps := m.ps, cnt := m.cnt, node := m.node }
  else if m.kind = 4 then { msg0 with kind := m.kind, port := m.port, num := m.num, out := m.out, pl := m.pl, pa := m.pa, ps := m.ps, cnt := m.cnt }
  else if m.kind = 5 then { msg0 with kind := m.kind, port := m.port, num := m.num, out := m.out, lst := m.lst }
  else { msg0 with kind := m.kind, port := m.port, num := m.num }

/-- The keys of the elements of a kind: V 86, I 73, F 70, O 79, N 78, S 83, W 87, P 80, X 88, J 74, B 66. -/
def keysL (k : Int) : List Int :=
  if k = 1 then [86, 70, 79, 78, 83, 87, 80, 88] else if k = 2 then [86, 73, 70, 79, 78, 83, 87, 80, 88] else if k = 3 then [86, 78, 74] else if k = 4 then [86, 70, 78] else if k = 5 then [86, 70, 66] else []

/-- Letters that fit into a part. -/
def lettB (s : ByteArray) : Bool := decide (s.size ≤ 20) && allLet s.data.toList
def ldU (c : UInt8) : Bool := isLe (c.toNat : Int) || isD (c.toNat : Int)
/-- The name of a node. -/
def nameB (s : ByteArray) : Bool := decide (1 ≤ s.size ∧ s.size ≤ 12) && (isLe (bat s 0) && s.data.toList.all ldU)
def inB (n lo hi : Int) : Bool := decide (lo ≤ n ∧ n ≤ hi)
def seqB (n : Int) : Bool := inB n 1 999
/-- The texts and legs of an element are valid. -/
def formB (m : Msg) (key : Int) : Bool :=
  if key = 86 then portB m.port else if key = 73 then lgB m.inn else if key = 70 then lgB m.out else if key = 79 then m.onw.all lgB
  else if key = 80 then !m.sur.toList.isEmpty && (lettB m.sur && lettB m.giv) else if key = 74 then nameB m.node else true
/-- The numbers and plates of an element are in their ranges. -/
def rangB (m : Msg) (key : Int) : Bool :=
  if key = 86 then inB m.num 1 9999 else if key = 78 then vld m.pl m.pa m.ps && inB m.cnt 1 99 else if key = 83 then inB m.sta 1 4 && inB m.sq 1 999
  else if key = 87 then inB m.wgt 0 999 else if key = 88 then inB m.exc 0 3 else if key = 66 then m.lst.all seqB else true
def ascB : List Int → Bool
  | [] => true
  | [_] => true
  | x :: y :: l => decide (x < y) && ascB (y :: l)
def kindB (m : Msg) : Bool := inB m.kind 1 5
def limB (m : Msg) : Bool := decide (m.onw.length ≤ 3) && decide (m.lst.length ≤ 40)
/-- The error of a message. -/
def valE (m : Msg) : Int :=
  if kindB m then if sameM m (ownM m) then if limB m then if (keysL m.kind).all (formB m) then if inB m.act 0 2 && (keysL m.kind).all (rangB m) then if ascB m.lst then 0 else 9 else 1 else 3 else 2 else 7 else 4

/-- A number in decimal, without leading zeros. -/
def decS (n : Int) : ByteArray := strOfNums (dgs n (if n < 10 then 1 else if n < 100 then 2 else if n < 1000 then 3 else 4))
def three (n : Int) : ByteArray := strOfNums (dgs n 3)
def wBSM : ByteArray := ⟨#[66, 83, 77]⟩
def wBTM : ByteArray := ⟨#[66, 84, 77]⟩
def wBPM : ByteArray := ⟨#[66, 80, 77]⟩
def wBUM : ByteArray := ⟨#[66, 85, 77]⟩
def wBBM : ByteArray := ⟨#[66, 66, 77]⟩
def wKind (k : Int) : ByteArray := if k = 1 then wBSM else if k = 2 then wBTM else if k = 3 then wBPM else if k = 4 then wBUM else if k = 5 then wBBM else ByteArray.empty
def wAct (k : Int) : ByteArray := if k = 1 then chg else if k = 2 then del else ByteArray.empty
def wSta (k : Int) : ByteArray := if k = 1 then ⟨#[67]⟩ else if k = 2 then ⟨#[83]⟩ else if k = 3 then ⟨#[78]⟩ else if k = 4 then ⟨#[66]⟩ else ByteArray.empty
def wExc (k : Int) : ByteArray := if k = 1 then ⟨#[82, 85, 83, 72]⟩ else if k = 2 then ⟨#[67, 82, 69, 87]⟩ else if k = 3 then ⟨#[67, 65, 82, 71, 79]⟩ else ByteArray.empty
def wLoad (b : Bool) : ByteArray := if b then ⟨#[89]⟩ else ⟨#[78]⟩
def one (k : Int) : ByteArray := strOfNums [k]
/-- The parts of a leg. -/
def legP (g : Lg) : List ByteArray := [fdes g.c g.n g.s g.d, strOfNums (dgs g.d 2), g.p, g.k]
/-- Parts of eight at a time. -/
def chunks {α : Type} : Nat → List α → List (List α)
  | 0, _ => []
  | f + 1, l => if l.length = 0 then [] else l.take 8 :: chunks f (l.drop 8)
def lstP (l : List Int) : List (List ByteArray) := (chunks l.length l).map fun x => x.map three
/-- The parts of each element with a key. -/
def writeP (m : Msg) (key : Int) : List (List ByteArray) :=
  if key = 86 then [[⟨#[49, 76]⟩ ++ m.port, decS m.num]] else if key = 73 then [legP m.inn] else if key = 70 then [legP m.out] else if key = 79 then m.onw.map legP
  else if key = 78 then [[txt m.pl m.pa m.ps, three m.cnt]] else if key = 83 then [[wLoad m.load, wSta m.sta, three m.sq]] else if key = 87 then [[⟨#[75]⟩, decS m.wgt]]
  else if key = 80 then [[m.sur, m.giv]] else if key = 88 then (if m.exc = 0 then [] else [[wExc m.exc]]) else if key = 74 then [[m.node]] else if key = 66 then lstP m.lst else []
def elsK (m : Msg) (key : Int) : List El := (writeP m key).map fun ps => (one key, ps)
/-- The telegram of a message. -/
def encT (m : Msg) : Tel := ⟨wKind m.kind, wAct m.act, (keysL m.kind).flatMap (elsK m)⟩

theorem Tel.ext_iff' {a b : Tel} : a = b ↔ (a.kind = b.kind ∧ a.change = b.change ∧ a.els = b.els) := by cases a; cases b; simp
instance : DecidableEq Tel := fun _ _ => decidable_of_iff _ Tel.ext_iff'.symm
/-- The part at a place, if there is one. -/
def pt (e : El) (k : Nat) : ByteArray := e.2.getD k ByteArray.empty
/-- The number that a word stands for in a row of words, or z. -/
def findW (w : Int → ByteArray) (z : Int) (s : ByteArray) : Int := if s = w 0 then 0 else if s = w 1 then 1 else if s = w 2 then 2 else if s = w 3 then 3 else if s = w 4 then 4 else if s = w 5 then 5 else z
def trim1L (s : ByteArray) : ByteArray := ⟨(Lib.trimPrefix s.data.toList [49, 76]).toArray⟩
def slash2 (x y : ByteArray) : ByteArray := x ++ ⟨#[47]⟩ ++ y
def readLg (a b c d : ByteArray) : Lg := ⟨fC (slash2 a b), fN (slash2 a b), fS (slash2 a b), fD (slash2 a b), c, d⟩
/-- What is read from an element: num a number of a text, lg a leg of an element, z what an unknown word is, prt a sender's port. -/
def readG (num : ByteArray → Int) (lg : El → Lg) (z : Int) (prt : Msg → El → ByteArray) (m : Msg) (e : El) : Msg :=
  if e.1 = one 86 then { m with port := prt m e, num := num (pt e 1) }
  else if e.1 = one 73 then { m with inn := lg e }
  else if e.1 = one 70 then { m with out := lg e }
  else if e.1 = one 79 then { m with onw := m.onw ++ [lg e] }
  else if e.1 = one 78 then { m with pl := pL (pt e 0), pa := pA (pt e 0), ps := pS (pt e 0), cnt := num (pt e 1) }
  else if e.1 = one 83 then { m with load := decide (pt e 0 = ⟨#[89]⟩), sta := findW wSta z (pt e 1), sq := num (pt e 2) }
  else if e.1 = one 87 then { m with wgt := num (pt e 1) }
  else if e.1 = one 80 then { m with sur := pt e 0, giv := pt e 1 }
  else if e.1 = one 88 then { m with exc := findW wExc z (pt e 0) }
  else if e.1 = one 74 then { m with node := pt e 0 }
  else if e.1 = one 66 then { m with lst := m.lst ++ e.2.map num }
  else m
def lgE (e : El) : Lg := readLg (pt e 0) (pt e 1) (pt e 2) (pt e 3)
/-- What the program reads from an element. -/
def readE (m : Msg) (e : El) : Msg := readG numV lgE (-1) (fun _ e => trim1L (pt e 0)) m e
def startM (t : Tel) : Msg := { msg0 with kind := findW wKind (-1) t.kind, act := findW wAct (-1) t.change }
def readT (t : Tel) : Msg := t.els.foldl readE (startM t)
/-- The message of a telegram, and the error. -/
def okD (t : Tel) : Bool := decide (valE (readT t) = 0) && decide (encT (readT t) = t)
def decE (t : Tel) : Int := if findW wKind (-1) t.kind < 1 then 4 else if okD t then 0 else 3
def decM (t : Tel) : Msg := if findW wKind (-1) t.kind < 1 then msg0 else if okD t then readT t else msg0

/-- What the reference reads. -/
def numR (s : ByteArray) : Int := if s.size ≤ 4 ∧ allDig s.data.toList = true then valN s.data.toList else 0
def legR (e : El) : Lg := if e.2.length = 4 then lgE e else lg0
def prtR (m : Msg) (e : El) : ByteArray := if (pt e 0).size = 5 then (pt e 0).extract 2 (pt e 0).size else m.port
def readR (m : Msg) (e : El) : Msg := readG numR legR 0 prtR m e
def startR (t : Tel) : Msg := { msg0 with kind := findW wKind 0 t.kind, act := findW wAct 0 t.change }
def readTR (t : Tel) : Msg := t.els.foldl readR (startR t)
def okR (t : Tel) : Bool := decide (t.els.length ≤ 24) && (t.els.all (fun e => decide (e.2.length ≤ 8)) && (decide (valE (readTR t) = 0) && decide (encT (readTR t) = t)))
end Go.Proofs.YtglgobmmmghdoaaGreatDoor

/- MsgN: Plain mathematics of messages: a valid message is read back from its telegram, by the program's reading and by the reference's; the telegrams are valid. -/
namespace Go.Proofs.YtglgobmmmghdoaaGreatDoor

theorem valE_ok {m : Msg} : valE m = 0 ↔ kindB m = true ∧ m = ownM m ∧ limB m = true ∧ (keysL m.kind).all (formB m) = true ∧ inB m.act 0 2 = true ∧ (keysL m.kind).all (rangB m) = true ∧ ascB m.lst = true := by
  unfold valE sameM
  by_cases h1 : kindB m = true
  · by_cases h2 : m = ownM m
    · by_cases h3 : limB m = true
      · by_cases h4 : (keysL m.kind).all (formB m) = true
        · by_cases h5 : inB m.act 0 2 = true ∧ (keysL m.kind).all (rangB m) = true
          · by_cases h6 : ascB m.lst = true
            · rw [if_pos h1, if_pos (decide_eq_true h2), if_pos h3, if_pos h4, if_pos (by rw [h5.1, h5.2]; rfl), if_pos h6]
              exact ⟨fun _ => ⟨h1, h2, h3, h4, h5.1, h5.2, h6⟩, fun _ => rfl⟩
            · rw [if_pos h1, if_pos (decide_eq_true h2), if_pos h3, if_pos h4, if_pos (by rw [h5.1, h5.2]; rfl), if_neg h6]
              exact ⟨fun h => absurd h (by decide), fun h => absurd h.2.2.2.2.2.2 h6⟩
          · rw [if_pos h1, if_pos (decide_eq_true h2), if_pos h3, if_pos h4, if_neg (by rw [Bool.and_eq_true]; exact h5)]
            exact ⟨fun h => absurd h (by decide), fun h => absurd ⟨h.2.2.2.2.1, h.2.2.2.2.2.1⟩ h5⟩
        · rw [if_pos h1, if_pos (decide_eq_true h2), if_pos h3, if_neg h4]
          exact ⟨fun h => absurd h (by decide), fun h => absurd h.2.2.2.1 h4⟩
      · rw [if_pos h1, if_pos (decide_eq_true h2), if_neg h3]
        exact ⟨fun h => absurd h (by decide), fun h => absurd h.2.2.1 h3⟩
    · rw [if_pos h1, if_neg (by rw [decide_eq_true_eq]; exact h2)]
      exact ⟨fun h => absurd h (by decide), fun h => absurd h.2.1 h2⟩
  · rw [if_neg h1]
    exact ⟨fun h => absurd h (by decide), fun h => absurd h.1 h1⟩

theorem inB_iff {n lo hi : Int} : inB n lo hi = true ↔ lo ≤ n ∧ n ≤ hi := by simp [inB]
theorem three_size (n : Int) : (three n).size = 3 := size_str n 3
theorem three_dig (n : Int) : allDig (three n).data.toList = true := dig_str n 3
theorem three_val {n : Int} (h0 : 0 ≤ n) (h1 : n ≤ 999) : valN (three n).data.toList = n := val_str n 3 h0 (by omega)
theorem decS_size (n : Int) : 1 ≤ (decS n).size ∧ (decS n).size ≤ 4 := by
  unfold decS; rw [size_str]; split <;> (try split) <;> (try split) <;> omega
theorem decS_dig (n : Int) : allDig (decS n).data.toList = true := dig_str n _
theorem decS_val {n : Int} (h0 : 0 ≤ n) (h1 : n ≤ 9999) : valN (decS n).data.toList = n := by
  unfold decS
  split
  · exact val_str n 1 h0 (by omega)
  · split
    · exact val_str n 2 h0 (by omega)
    · split
      · exact val_str n 3 h0 (by omega)
      · exact val_str n 4 h0 (by omega)

theorem u8_num {k : Nat} (_h : k < 10) (n : Int) (e : (48 + n : Int) = ((48 + k : Nat) : Int)) : UInt8.ofNat (48 + n).toNat = UInt8.ofNat (48 + k) := by rw [e]; rfl
theorem itoa_dec {n : Int} (h0 : 0 ≤ n) (h1 : n ≤ 9999) : (⟨(Lib.itoa n).toArray⟩ : ByteArray) = decS n := by
  obtain ⟨u, rfl⟩ := Int.eq_ofNat_of_zero_le h0
  have hu : u ≤ 9999 := by omega
  apply ByteArray.ext
  rw [← Array.toList_inj]
  show Lib.itoa (u : Int) = _
  have e0 : Lib.itoa (u : Int) = Lib.decDigits u := by unfold Lib.itoa; rw [if_neg (by omega)]; simp
  rw [e0]
  unfold decS
  rw [strOfNums_data]
  by_cases a1 : u < 10
  · rw [if_pos (by omega), Lib.decDigits, dif_pos a1]
    show [UInt8.ofNat (48 + u)] = [UInt8.ofNat (48 + (u : Int) % 10).toNat]
    rw [u8_num a1 _ (by omega)]
  · rw [if_neg (by omega), Lib.decDigits, dif_neg a1]
    have z1 : u % 10 < 10 := Nat.mod_lt _ (by omega)
    by_cases a2 : u < 100
    · rw [if_pos (by omega), Lib.decDigits, dif_pos (by omega)]
      have z2 : u / 10 < 10 := by omega
      show [UInt8.ofNat (48 + u / 10)] ++ [UInt8.ofNat (48 + u % 10)] = [UInt8.ofNat (48 + (u : Int) / 10 % 10).toNat, UInt8.ofNat (48 + (u : Int) % 10).toNat]
      rw [u8_num z1 ((u : Int) % 10) (by omega), u8_num z2 ((u : Int) / 10 % 10) (by omega)]
      rfl
    · rw [if_neg (by omega), Lib.decDigits, dif_neg (by omega)]
      have z2 : u / 10 % 10 < 10 := Nat.mod_lt _ (by omega)
      by_cases a3 : u < 1000
      · rw [if_pos (by omega), Lib.decDigits, dif_pos (by omega)]
        have z3 : u / 10 / 10 < 10 := by omega
        show [UInt8.ofNat (48 + u / 10 / 10)] ++ [UInt8.ofNat (48 + u / 10 % 10)] ++ [UInt8.ofNat (48 + u % 10)] = [UInt8.ofNat (48 + (u : Int) / 10 / 10 % 10).toNat, UInt8.ofNat (48 + (u : Int) / 10 % 10).toNat, UInt8.ofNat (48 + (u : Int) % 10).toNat]
        rw [u8_num z1 ((u : Int) % 10) (by omega), u8_num z2 ((u : Int) / 10 % 10) (by omega), u8_num z3 ((u : Int) / 10 / 10 % 10) (by omega)]
        rfl
      · rw [if_neg (by omega), Lib.decDigits, dif_neg (by omega)]
        have z3 : u / 10 / 10 % 10 < 10 := Nat.mod_lt _ (by omega)
        have z4 : u / 10 / 10 / 10 < 10 := by omega
        rw [Lib.decDigits, dif_pos z4]
        show [UInt8.ofNat (48 + u / 10 / 10 / 10)] ++ [UInt8.ofNat (48 + u / 10 / 10 % 10)] ++ [UInt8.ofNat (48 + u / 10 % 10)] ++ [UInt8.ofNat (48 + u % 10)] = [UInt8.ofNat (48 + (u : Int) / 10 / 10 / 10 % 10).toNat, UInt8.ofNat (48 + (u : Int) / 10 / 10 % 10).toNat, UInt8.ofNat (48 + (u : Int) / 10 % 10).toNat, UInt8.ofNat (48 + (u : Int) % 10).toNat]
        rw [u8_num z1 ((u : Int) % 10) (by omega), u8_num z2 ((u : Int) / 10 % 10) (by omega), u8_num z3 ((u : Int) / 10 / 10 % 10) (by omega), u8_num z4 ((u : Int) / 10 / 10 / 10 % 10) (by omega)]
        rfl

/-- What a reading of numbers must do. -/
structure NumOk (num : ByteArray → Int) : Prop where
  dec : ∀ n, 0 ≤ n → n ≤ 9999 → num (decS n) = n
  thr : ∀ n, 0 ≤ n → n ≤ 999 → num (three n) = n
theorem numV_ok : NumOk numV where
  dec := fun n h0 h1 => by
    have h := decS_size n
    rw [numV_yes (by rw [numB_of (by omega)]; exact decS_dig n), decS_val h0 h1]
  thr := fun n h0 h1 => by
    have h := three_size n
    rw [numV_yes (by rw [numB_of (by omega)]; exact three_dig n), three_val h0 h1]
theorem numR_ok : NumOk numR where
  dec := fun n h0 h1 => by
    have h := decS_size n
    unfold numR
    rw [if_pos ⟨h.2, decS_dig n⟩, decS_val h0 h1]
  thr := fun n h0 h1 => by
    have h := three_size n
    unfold numR
    rw [if_pos ⟨by omega, three_dig n⟩, three_val h0 h1]

theorem lgB_iff {g : Lg} : lgB g = true ↔ fvl g.c g.n g.s g.d = true ∧ portB g.p = true ∧ clsB g.k = true := by
  unfold lgB legB; rw [Bool.and_eq_true, Bool.and_eq_true]
theorem read_leg {g : Lg} (h : lgB g = true) : readLg (fdes g.c g.n g.s g.d) (strOfNums (dgs g.d 2)) g.p g.k = g := by
  have hv := (lgB_iff.1 h).1
  have e : slash2 (fdes g.c g.n g.s g.d) (strOfNums (dgs g.d 2)) = ftxt g.c g.n g.s g.d := by rw [ftxt_yes hv]; rfl
  obtain ⟨h1, h2, h3, h4, _, _⟩ := fback hv
  unfold readLg
  rw [e, h1, h2, h3, h4]
theorem lgE_leg {g : Lg} (h : lgB g = true) (k : ByteArray) : lgE (k, legP g) = g := read_leg h
theorem legR_leg {g : Lg} (h : lgB g = true) (k : ByteArray) : legR (k, legP g) = g := by
  unfold legR; rw [if_pos (show (legP g).length = 4 from rfl)]; exact read_leg h

theorem port_size {s : ByteArray} (h : portB s = true) : s.size = 3 := by have := letN_size (show letN s 3 = true from h); omega
theorem cat_extract (a b : ByteArray) : (a ++ b).extract a.size (a ++ b).size = b := by
  apply ByteArray.ext
  rw [← Array.toList_inj]
  rw [ext_list]
  simp [ByteArray.data_append, List.take_of_length_le]
theorem cat1L_extract (b : ByteArray) : ((⟨#[49, 76]⟩ : ByteArray) ++ b).extract 2 ((⟨#[49, 76]⟩ : ByteArray) ++ b).size = b := cat_extract ⟨#[49, 76]⟩ b
theorem cat1L_size (b : ByteArray) : ((⟨#[49, 76]⟩ : ByteArray) ++ b).size = 2 + b.size := by rw [ByteArray.size_append]; rfl
theorem trim_port (s : ByteArray) : trim1L (⟨#[49, 76]⟩ ++ s) = s := by
  unfold trim1L Lib.trimPrefix
  have e : ((⟨#[49, 76]⟩ : ByteArray) ++ s).data.toList = [49, 76] ++ s.data.toList := by simp [ByteArray.data_append]
  rw [e, if_pos (by simp [Lib.hasPrefix])]
  rfl

theorem find_kind {k : Int} (z : Int) (h : inB k 1 5 = true) : findW wKind z (wKind k) = k := by
  obtain ⟨h0, h1⟩ := inB_iff.1 h
  have : k = 1 ∨ k = 2 ∨ k = 3 ∨ k = 4 ∨ k = 5 := by omega
  rcases this with rfl | rfl | rfl | rfl | rfl
  · unfold findW; rw [if_neg (show wKind 1 ≠ wKind 0 by decide +kernel), if_pos rfl]
  · unfold findW; rw [if_neg (show wKind 2 ≠ wKind 0 by decide +kernel), if_neg (show wKind 2 ≠ wKind 1 by decide +kernel), if_pos rfl]
  · unfold findW; rw [if_neg (show wKind 3 ≠ wKind 0 by decide +kernel), if_neg (show wKind 3 ≠ wKind 1 by decide +kernel), if_neg (show wKind 3 ≠ wKind 2 by decide +kernel), if_pos rfl]
  · unfold findW; rw [if_neg (show wKind 4 ≠ wKind 0 by decide +kernel), if_neg (show wKind 4 ≠ wKind 1 by decide +kernel), if_neg (show wKind 4 ≠ wKind 2 by decide +kernel), if_neg (show wKind 4 ≠ wKind 3 by decide +kernel), if_pos rfl]
  · unfold findW; rw [if_neg (show wKind 5 ≠ wKind 0 by decide +kernel), if_neg (show wKind 5 ≠ wKind 1 by decide +kernel), if_neg (show wKind 5 ≠ wKind 2 by decide +kernel), if_neg (show wKind 5 ≠ wKind 3 by decide +kernel), if_neg (show wKind 5 ≠ wKind 4 by decide +kernel), if_pos rfl]
theorem find_act {k : Int} (z : Int) (h : inB k 0 2 = true) : findW wAct z (wAct k) = k := by
  obtain ⟨h0, h1⟩ := inB_iff.1 h
  have : k = 0 ∨ k = 1 ∨ k = 2 := by omega
  rcases this with rfl | rfl | rfl
  · unfold findW; rw [if_pos rfl]
  · unfold findW; rw [if_neg (show wAct 1 ≠ wAct 0 by decide +kernel), if_pos rfl]
  · unfold findW; rw [if_neg (show wAct 2 ≠ wAct 0 by decide +kernel), if_neg (show wAct 2 ≠ wAct 1 by decide +kernel), if_pos rfl]
theorem find_sta {k : Int} (z : Int) (h : inB k 1 4 = true) : findW wSta z (wSta k) = k := by
  obtain ⟨h0, h1⟩ := inB_iff.1 h
  have : k = 1 ∨ k = 2 ∨ k = 3 ∨ k = 4 := by omega
  rcases this with rfl | rfl | rfl | rfl
  · unfold findW; rw [if_neg (show wSta 1 ≠ wSta 0 by decide +kernel), if_pos rfl]
  · unfold findW; rw [if_neg (show wSta 2 ≠ wSta 0 by decide +kernel), if_neg (show wSta 2 ≠ wSta 1 by decide +kernel), if_pos rfl]
  · unfold findW; rw [if_neg (show wSta 3 ≠ wSta 0 by decide +kernel), if_neg (show wSta 3 ≠ wSta 1 by decide +kernel), if_neg (show wSta 3 ≠ wSta 2 by decide +kernel), if_pos rfl]
  · unfold findW; rw [if_neg (show wSta 4 ≠ wSta 0 by decide +kernel), if_neg (show wSta 4 ≠ wSta 1 by decide +kernel), if_neg (show wSta 4 ≠ wSta 2 by decide +kernel), if_neg (show wSta 4 ≠ wSta 3 by decide +kernel), if_pos rfl]
theorem find_exc {k : Int} (z : Int) (h : inB k 0 3 = true) : findW wExc z (wExc k) = k := by
  obtain ⟨h0, h1⟩ := inB_iff.1 h
  have : k = 0 ∨ k = 1 ∨ k = 2 ∨ k = 3 := by omega
  rcases this with rfl | rfl | rfl | rfl
  · unfold findW; rw [if_pos rfl]
  · unfold findW; rw [if_neg (show wExc 1 ≠ wExc 0 by decide +kernel), if_pos rfl]
  · unfold findW; rw [if_neg (show wExc 2 ≠ wExc 0 by decide +kernel), if_neg (show wExc 2 ≠ wExc 1 by decide +kernel), if_pos rfl]
  · unfold findW; rw [if_neg (show wExc 3 ≠ wExc 0 by decide +kernel), if_neg (show wExc 3 ≠ wExc 1 by decide +kernel), if_neg (show wExc 3 ≠ wExc 2 by decide +kernel), if_pos rfl]
theorem load_back (b : Bool) : decide (wLoad b = ⟨#[89]⟩) = b := by cases b <;> decide +kernel

/-- What a way of reading must do. -/
structure WayOk (num : ByteArray → Int) (lg : El → Lg) (prt : Msg → El → ByteArray) : Prop where
  num : NumOk num
  lg : ∀ (g : Lg) (k : ByteArray), lgB g = true → lg (k, legP g) = g
  prt : ∀ (x : Msg) (s r k : ByteArray), portB s = true → prt x (k, [⟨#[49, 76]⟩ ++ s, r]) = s
theorem way_V : WayOk numV lgE (fun _ e => trim1L (pt e 0)) := ⟨numV_ok, fun _ k h => lgE_leg h k, fun _ s _ _ _ => trim_port s⟩
theorem prt_R (x : Msg) (s r k : ByteArray) (h : portB s = true) : prtR x (k, [⟨#[49, 76]⟩ ++ s, r]) = s := by
  show (if ((⟨#[49, 76]⟩ : ByteArray) ++ s).size = 5 then ((⟨#[49, 76]⟩ : ByteArray) ++ s).extract 2 ((⟨#[49, 76]⟩ : ByteArray) ++ s).size else x.port) = s
  rw [if_pos (by rw [cat1L_size, port_size h]), cat1L_extract]
theorem way_R : WayOk numR legR prtR := ⟨numR_ok, fun _ k h => legR_leg h k, prt_R⟩

section
variable {num : ByteArray → Int} {lg : El → Lg} {z : Int} {prt : Msg → El → ByteArray}
theorem g_V (x : Msg) (ps : List ByteArray) : readG num lg z prt x (one 86, ps) = { x with port := prt x (one 86, ps), num := num (pt (one 86, ps) 1) } := by unfold readG; rw [if_pos rfl]
theorem g_I (x : Msg) (ps : List ByteArray) : readG num lg z prt x (one 73, ps) = { x with inn := lg (one 73, ps) } := by
  unfold readG; dsimp only; rw [if_neg (show one 73 ≠ one 86 by decide +kernel), if_pos rfl]
theorem g_F (x : Msg) (ps : List ByteArray) : readG num lg z prt x (one 70, ps) = { x with out := lg (one 70, ps) } := by
  unfold readG; dsimp only; rw [if_neg (show one 70 ≠ one 86 by decide +kernel), if_neg (show one 70 ≠ one 73 by decide +kernel), if_pos rfl]
theorem g_O (x : Msg) (ps : List ByteArray) : readG num lg z prt x (one 79, ps) = { x with onw := x.onw ++ [lg (one 79, ps)] } := by
  unfold readG; dsimp only; rw [if_neg (show one 79 ≠ one 86 by decide +kernel), if_neg (show one 79 ≠ one 73 by decide +kernel), if_neg (show one 79 ≠ one 70 by decide +kernel), if_pos rfl]
theorem g_N (x : Msg) (ps : List ByteArray) : readG num lg z prt x (one 78, ps) = { x with pl := pL (pt (one 78, ps) 0), pa := pA (pt (one 78, ps) 0), ps := pS (pt (one 78, ps) 0), cnt := num (pt (one 78, ps) 1) } := by
  unfold readG; dsimp only; rw [if_neg (show one 78 ≠ one 86 by decide +kernel), if_neg (show one 78 ≠ one 73 by decide +kernel), if_neg (show one 78 ≠ one 70 by decide +kernel), if_neg (show one 78 ≠ one 79 by decide +kernel), if_pos rfl]
theorem g_S (x : Msg) (ps : List ByteArray) : readG num lg z prt x (one 83, ps) = { x with load := decide (pt (one 83, ps) 0 = ⟨#[89]⟩), sta := findW wSta z (pt (one 83, ps) 1), sq := num (pt (one 83, ps) 2) } := by
  unfold readG; dsimp only; rw [if_neg (show one 83 ≠ one 86 by decide +kernel), if_neg (show one 83 ≠ one 73 by decide +kernel), if_neg (show one 83 ≠ one 70 by decide +kernel), if_neg (show one 83 ≠ one 79 by decide +kernel), if_neg (show one 83 ≠ one 78 by decide +kernel), if_pos rfl]
theorem g_W (x : Msg) (ps : List ByteArray) : readG num lg z prt x (one 87, ps) = { x with wgt := num (pt (one 87, ps) 1) } := by
  unfold readG; dsimp only; rw [if_neg (show one 87 ≠ one 86 by decide +kernel), if_neg (show one 87 ≠ one 73 by decide +kernel), if_neg (show one 87 ≠ one 70 by decide +kernel), if_neg (show one 87 ≠ one 79 by decide +kernel), if_neg (show one 87 ≠ one 78 by decide +kernel), if_neg (show one 87 ≠ one 83 by decide +kernel), if_pos rfl]
theorem g_P (x : Msg) (ps : List ByteArray) : readG num lg z prt x (one 80, ps) = { x with sur := pt (one 80, ps) 0, giv := pt (one 80, ps) 1 } := by
  unfold readG; dsimp only; rw [if_neg (show one 80 ≠ one 86 by decide +kernel), if_neg (show one 80 ≠ one 73 by decide +kernel), if_neg (show one 80 ≠ one 70 by decide +kernel), if_neg (show one 80 ≠ one 79 by decide +kernel), if_neg (show one 80 ≠ one 78 by decide +kernel), if_neg (show one 80 ≠ one 83 by decide +kernel), if_neg (show one 80 ≠ one 87 by decide +kernel), if_pos rfl]
theorem g_X (x : Msg) (ps : List ByteArray) : readG num lg z prt x (one 88, ps) = { x with exc := findW wExc z (pt (one 88, ps) 0) } := by
  unfold readG; dsimp only; rw [if_neg (show one 88 ≠ one 86 by decide +kernel), if_neg (show one 88 ≠ one 73 by decide +kernel), if_neg (show one 88 ≠ one 70 by decide +kernel), if_neg (show one 88 ≠ one 79 by decide +kernel), if_neg (show one 88 ≠ one 78 by decide +kernel), if_neg (show one 88 ≠ one 83 by decide +kernel), if_neg (show one 88 ≠ one 87 by decide +kernel), if_neg (show one 88 ≠ one 80 by decide +kernel), if_pos rfl]
theorem g_J (x : Msg) (ps : List ByteArray) : readG num lg z prt x (one 74, ps) = { x with node := pt (one 74, ps) 0 } := by
  unfold readG; dsimp only; rw [if_neg (show one 74 ≠ one 86 by decide +kernel), if_neg (show one 74 ≠ one 73 by decide +kernel), if_neg (show one 74 ≠ one 70 by decide +kernel), if_neg (show one 74 ≠ one 79 by decide +kernel), if_neg (show one 74 ≠ one 78 by decide +kernel), if_neg (show one 74 ≠ one 83 by decide +kernel), if_neg (show one 74 ≠ one 87 by decide +kernel), if_neg (show one 74 ≠ one 80 by decide +kernel), if_neg (show one 74 ≠ one 88 by decide +kernel), if_pos rfl]
theorem g_B (x : Msg) (ps : List ByteArray) : readG num lg z prt x (one 66, ps) = { x with lst := x.lst ++ ps.map num } := by
  unfold readG; dsimp only; rw [if_neg (show one 66 ≠ one 86 by decide +kernel), if_neg (show one 66 ≠ one 73 by decide +kernel), if_neg (show one 66 ≠ one 70 by decide +kernel), if_neg (show one 66 ≠ one 79 by decide +kernel), if_neg (show one 66 ≠ one 78 by decide +kernel), if_neg (show one 66 ≠ one 83 by decide +kernel), if_neg (show one 66 ≠ one 87 by decide +kernel), if_neg (show one 66 ≠ one 80 by decide +kernel), if_neg (show one 66 ≠ one 88 by decide +kernel), if_neg (show one 66 ≠ one 74 by decide +kernel), if_pos rfl]

variable (hw : WayOk num lg prt) (m x : Msg)
include hw
theorem fold_V (h : formB m 86 = true) (h2 : rangB m 86 = true) : (elsK m 86).foldl (readG num lg z prt) x = { x with port := m.port, num := m.num } := by
  have h2' : inB m.num 1 9999 = true := h2
  obtain ⟨a, b⟩ := inB_iff.1 h2'
  show readG num lg z prt x (one 86, [⟨#[49, 76]⟩ ++ m.port, decS m.num]) = _
  rw [g_V, hw.prt _ _ _ _ h]
  show { x with port := m.port, num := num (decS m.num) } = _
  rw [hw.num.dec _ (by omega) b]
theorem fold_I (h : formB m 73 = true) : (elsK m 73).foldl (readG num lg z prt) x = { x with inn := m.inn } := by
  show readG num lg z prt x (one 73, legP m.inn) = _
  rw [g_I, hw.lg _ _ h]
theorem fold_F (h : formB m 70 = true) : (elsK m 70).foldl (readG num lg z prt) x = { x with out := m.out } := by
  show readG num lg z prt x (one 70, legP m.out) = _
  rw [g_F, hw.lg _ _ h]
theorem fold_legs (l : List Lg) (h : l.all lgB = true) : ((l.map legP).map fun ps => ((one 79, ps) : El)).foldl (readG num lg z prt) x = { x with onw := x.onw ++ l } := by
  induction l generalizing x with
  | nil => simp
  | cons g l ih =>
    rw [List.all_cons, Bool.and_eq_true] at h
    rw [List.map_cons, List.map_cons, List.foldl_cons, g_O, hw.lg _ _ h.1, ih _ h.2]
    simp
theorem fold_O (h : formB m 79 = true) : (elsK m 79).foldl (readG num lg z prt) x = { x with onw := x.onw ++ m.onw } := fold_legs hw x m.onw h
theorem fold_N (h : rangB m 78 = true) : (elsK m 78).foldl (readG num lg z prt) x = { x with pl := m.pl, pa := m.pa, ps := m.ps, cnt := m.cnt } := by
  have h' : (vld m.pl m.pa m.ps && inB m.cnt 1 99) = true := h
  rw [Bool.and_eq_true] at h'
  obtain ⟨a, b⟩ := inB_iff.1 h'.2
  obtain ⟨e1, e2, e3, _⟩ := parse_back h'.1
  show readG num lg z prt x (one 78, [txt m.pl m.pa m.ps, three m.cnt]) = _
  rw [g_N]
  show { x with pl := pL (txt m.pl m.pa m.ps), pa := pA (txt m.pl m.pa m.ps), ps := pS (txt m.pl m.pa m.ps), cnt := num (three m.cnt) } = _
  rw [e1, e2, e3, hw.num.thr _ (by omega) (by omega)]
theorem fold_S (h : rangB m 83 = true) : (elsK m 83).foldl (readG num lg z prt) x = { x with load := m.load, sta := m.sta, sq := m.sq } := by
  have h' : (inB m.sta 1 4 && inB m.sq 1 999) = true := h
  rw [Bool.and_eq_true] at h'
  obtain ⟨a, b⟩ := inB_iff.1 h'.2
  show readG num lg z prt x (one 83, [wLoad m.load, wSta m.sta, three m.sq]) = _
  rw [g_S]
  show { x with load := decide (wLoad m.load = (⟨#[89]⟩ : ByteArray)), sta := findW wSta z (wSta m.sta), sq := num (three m.sq) } = _
  rw [load_back, find_sta z h'.1, hw.num.thr _ (by omega) (by omega)]
theorem fold_W (h : rangB m 87 = true) : (elsK m 87).foldl (readG num lg z prt) x = { x with wgt := m.wgt } := by
  have h' : inB m.wgt 0 999 = true := h
  obtain ⟨a, b⟩ := inB_iff.1 h'
  show readG num lg z prt x (one 87, [⟨#[75]⟩, decS m.wgt]) = _
  rw [g_W]
  show { x with wgt := num (decS m.wgt) } = _
  rw [hw.num.dec _ (by omega) (by omega)]
theorem fold_P : (elsK m 80).foldl (readG num lg z prt) x = { x with sur := m.sur, giv := m.giv } := by
  have _ := hw
  show readG num lg z prt x (one 80, [m.sur, m.giv]) = _
  rw [g_P]
  rfl
theorem fold_X (h : rangB m 88 = true) : (elsK m 88).foldl (readG num lg z prt) x = { x with exc := if m.exc = 0 then x.exc else m.exc } := by
  have _ := hw
  have h' : inB m.exc 0 3 = true := h
  by_cases h0 : m.exc = 0
  · have : elsK m 88 = [] := by unfold elsK; rw [show writeP m 88 = if m.exc = 0 then [] else [[wExc m.exc]] from rfl, if_pos h0]; rfl
    rw [this, if_pos h0]; rfl
  · have : elsK m 88 = [(one 88, [wExc m.exc])] := by unfold elsK; rw [show writeP m 88 = if m.exc = 0 then [] else [[wExc m.exc]] from rfl, if_neg h0]; rfl
    rw [this, if_neg h0]
    show readG num lg z prt x (one 88, [wExc m.exc]) = _
    rw [g_X]
    show { x with exc := findW wExc z (wExc m.exc) } = _
    rw [find_exc z h']
theorem fold_J : (elsK m 74).foldl (readG num lg z prt) x = { x with node := m.node } := by
  have _ := hw
  show readG num lg z prt x (one 74, [m.node]) = _
  rw [g_J]
  rfl
theorem num_three (l : List Int) (h : l.all seqB = true) : (l.map three).map num = l := by
  induction l with
  | nil => rfl
  | cons n l ih =>
    rw [List.all_cons, Bool.and_eq_true] at h
    have h' : inB n 1 999 = true := h.1
    obtain ⟨a, b⟩ := inB_iff.1 h'
    rw [List.map_cons, List.map_cons, ih h.2, hw.num.thr _ (by omega) (by omega)]
theorem fold_chunks (f : Nat) : ∀ (l : List Int) (x : Msg), l.length ≤ f → l.all seqB = true → (((chunks f l).map fun y => y.map three).map fun ps => ((one 66, ps) : El)).foldl (readG num lg z prt) x = { x with lst := x.lst ++ l } := by
  induction f with
  | zero =>
    intro l x hl h
    have : l = [] := List.length_eq_zero_iff.1 (by omega)
    subst this
    simp [chunks]
  | succ f ih =>
    intro l x hl h
    unfold chunks
    by_cases h0 : l.length = 0
    · have : l = [] := List.length_eq_zero_iff.1 h0
      subst this
      simp
    · rw [if_neg h0, List.map_cons, List.map_cons, List.foldl_cons, g_B, num_three hw _ (by rw [List.all_eq_true] at h ⊢; exact fun y hy => h y (List.mem_of_mem_take hy))]
      rw [ih _ _ (by rw [List.length_drop]; omega) (by rw [List.all_eq_true] at h ⊢; exact fun y hy => h y (List.mem_of_mem_drop hy))]
      simp
theorem fold_B (h : rangB m 66 = true) : (elsK m 66).foldl (readG num lg z prt) x = { x with lst := x.lst ++ m.lst } := fold_chunks hw _ m.lst x (Nat.le_refl _) h
end

/-- A reading of the elements of a valid message's telegram gives the message. -/
theorem read_els {num : ByteArray → Int} {lg : El → Lg} {z : Int} {prt : Msg → El → ByteArray} (hw : WayOk num lg prt) {m : Msg} (h : valE m = 0) :
    (encT m).els.foldl (readG num lg z prt) { msg0 with kind := m.kind, act := m.act } = m := by
  obtain ⟨hk, ho, _, hf, ha, hr, _⟩ := valE_ok.1 h
  have hk' : inB m.kind 1 5 = true := hk
  obtain ⟨k0, k1⟩ := inB_iff.1 hk'
  show ((keysL m.kind).flatMap (elsK m)).foldl (readG num lg z prt) _ = m
  have : m.kind = 1 ∨ m.kind = 2 ∨ m.kind = 3 ∨ m.kind = 4 ∨ m.kind = 5 := by omega
  rcases this with e | e | e | e | e
  · have ek : keysL m.kind = [86, 70, 79, 78, 83, 87, 80, 88] := by rw [e]; rfl
    rw [ek] at hf hr ⊢
    simp only [List.all_cons, List.all_nil, Bool.and_true, Bool.and_eq_true] at hf hr
    simp only [List.flatMap_cons, List.flatMap_nil, List.foldl_append, List.foldl_nil]
    rw [fold_V hw _ _ hf.1 hr.1, fold_F hw _ _ hf.2.1, fold_O hw _ _ hf.2.2.1, fold_N hw _ _ hr.2.2.2.1, fold_S hw _ _ hr.2.2.2.2.1, fold_W hw _ _ hr.2.2.2.2.2.1, fold_P hw, fold_X hw _ _ hr.2.2.2.2.2.2.2]
    have e1 : ownM m = { m with inn := lg0, node := ByteArray.empty, lst := [] } := by unfold ownM; rw [if_pos e]
    rw [e1] at ho
    rw [Msg.ext_iff'] at ho
    simp only [and_true, true_and] at ho
    rw [Msg.ext_iff']
    simp [msg0, ho]
    intro h0; exact h0.symm
  · have ek : keysL m.kind = [86, 73, 70, 79, 78, 83, 87, 80, 88] := by rw [e]; rfl
    rw [ek] at hf hr ⊢
    simp only [List.all_cons, List.all_nil, Bool.and_true, Bool.and_eq_true] at hf hr
    simp only [List.flatMap_cons, List.flatMap_nil, List.foldl_append, List.foldl_nil]
    rw [fold_V hw _ _ hf.1 hr.1, fold_I hw _ _ hf.2.1, fold_F hw _ _ hf.2.2.1, fold_O hw _ _ hf.2.2.2.1, fold_N hw _ _ hr.2.2.2.2.1, fold_S hw _ _ hr.2.2.2.2.2.1, fold_W hw _ _ hr.2.2.2.2.2.2.1, fold_P hw, fold_X hw _ _ hr.2.2.2.2.2.2.2.2]
    have e1 : ownM m = { m with node := ByteArray.empty, lst := [] } := by unfold ownM; rw [if_neg (by omega), if_pos e]
    rw [e1] at ho
    rw [Msg.ext_iff'] at ho
    simp only [and_true, true_and] at ho
    rw [Msg.ext_iff']
    simp [msg0, ho]
    intro h0; exact h0.symm
  · have ek : keysL m.kind = [86, 78, 74] := by rw [e]; rfl
    rw [ek] at hf hr ⊢
    simp only [List.all_cons, List.all_nil, Bool.and_true, Bool.and_eq_true] at hf hr
    simp only [List.flatMap_cons, List.flatMap_nil, List.foldl_append, List.foldl_nil]
    rw [fold_V hw _ _ hf.1 hr.1, fold_N hw _ _ hr.2.1, fold_J hw]
    have e1 : ownM m = { msg0 with kind := m.kind, port := m.port, num := m.num, pl := m.pl, pa := m.pa, ps := m.ps, cnt := m.cnt, node := m.node } := by unfold ownM; rw [if_neg (by omega), if_neg (by omega), if_pos e]
    rw [e1] at ho
    rw [Msg.ext_iff'] at ho
    simp only [and_true, true_and] at ho
    rw [Msg.ext_iff']
    simp [ho]
  · have ek : keysL m.kind = [86, 70, 78] := by rw [e]; rfl
    rw [ek] at hf hr ⊢
    simp only [List.all_cons, List.all_nil, Bool.and_true, Bool.and_eq_true] at hf hr
    simp only [List.flatMap_cons, List.flatMap_nil, List.foldl_append, List.foldl_nil]
    rw [fold_V hw _ _ hf.1 hr.1, fold_F hw _ _ hf.2.1, fold_N hw _ _ hr.2.2]
    have e1 : ownM m = { msg0 with kind := m.kind, port := m.port, num := m.num, out := m.out, pl := m.pl, pa := m.pa, ps := m.ps, cnt := m.cnt } := by unfold ownM; rw [if_neg (by omega), if_neg (by omega), if_neg (by omega), if_pos e]
    rw [e1] at ho
    rw [Msg.ext_iff'] at ho
    simp only [and_true, true_and] at ho
    rw [Msg.ext_iff']
    simp [ho]
  · have ek : keysL m.kind = [86, 70, 66] := by rw [e]; rfl
    rw [ek] at hf hr ⊢
    simp only [List.all_cons, List.all_nil, Bool.and_true, Bool.and_eq_true] at hf hr
    simp only [List.flatMap_cons, List.flatMap_nil, List.foldl_append, List.foldl_nil]
    rw [fold_V hw _ _ hf.1 hr.1, fold_F hw _ _ hf.2.1, fold_B hw _ _ hr.2.2]
    have e1 : ownM m = { msg0 with kind := m.kind, port := m.port, num := m.num, out := m.out, lst := m.lst } := by unfold ownM; rw [if_neg (by omega), if_neg (by omega), if_neg (by omega), if_neg (by omega), if_pos e]
    rw [e1] at ho
    rw [Msg.ext_iff'] at ho
    simp only [and_true, true_and] at ho
    rw [Msg.ext_iff']
    simp [msg0, ho]

theorem read_enc {m : Msg} (h : valE m = 0) : readT (encT m) = m := by
  obtain ⟨hk, _, _, _, ha, _, _⟩ := valE_ok.1 h
  have e : startM (encT m) = { msg0 with kind := m.kind, act := m.act } := by
    unfold startM
    show { msg0 with kind := findW wKind (-1) (wKind m.kind), act := findW wAct (-1) (wAct m.act) } = _
    rw [find_kind _ hk, find_act _ ha]
  unfold readT
  rw [e]
  exact read_els way_V h
theorem readR_enc {m : Msg} (h : valE m = 0) : readTR (encT m) = m := by
  obtain ⟨hk, _, _, _, ha, _, _⟩ := valE_ok.1 h
  have e : startR (encT m) = { msg0 with kind := m.kind, act := m.act } := by
    unfold startR
    show { msg0 with kind := findW wKind 0 (wKind m.kind), act := findW wAct 0 (wAct m.act) } = _
    rw [find_kind _ hk, find_act _ ha]
  unfold readTR
  rw [e]
  exact read_els way_R h
end Go.Proofs.YtglgobmmmghdoaaGreatDoor

/- MsgA: Messages in memory; contracts of the smallest functions of messages (within, letters, ValidName, validLegs, validPassengers, ascending). -/
namespace Go.Proofs.YtglgobmmmghdoaaGreatDoor
open Go.RowKit

/-- The value of a leg. -/
abbrev lgV (g : Lg) : Value := .agg #[.string g.c, .int .i64 g.n, .string g.s, .int .i64 g.d, .string g.p, .string g.k]
abbrev lgC (g : Lg) : List Value := [.string g.c, .int .i64 g.n, .string g.s, .int .i64 g.d, .string g.p, .string g.k]
/-- A leg's six cells. -/
structure LegAt (w : World) (g o : Nat) (x : Lg) : Prop where
  c0 : w.cell? ⟨g, o, none⟩ = some (.string x.c)
  c1 : w.cell? ⟨g, o + 1, none⟩ = some (.int .i64 x.n)
  c2 : w.cell? ⟨g, o + 2, none⟩ = some (.string x.s)
  c3 : w.cell? ⟨g, o + 3, none⟩ = some (.int .i64 x.d)
  c4 : w.cell? ⟨g, o + 4, none⟩ = some (.string x.p)
  c5 : w.cell? ⟨g, o + 5, none⟩ = some (.string x.k)
theorem LegAt.keep {w w1 : World} {g o : Nat} {x : Lg} (h : LegAt w g o x) (hb : Below w.heap.size w w1) : LegAt w1 g o x := ⟨kept hb h.c0, kept hb h.c1, kept hb h.c2, kept hb h.c3, kept hb h.c4, kept hb h.c5⟩
theorem LegAt.grown {b : Nat} {w w1 : World} {g o : Nat} {x : Lg} (h : LegAt w g o x) (hg : w.grownBy w1 (some b)) (hne : g ≠ b) : LegAt w1 g o x := by
  have hn : some g ≠ some b := by simpa using hne
  exact ⟨hg.cell h.c0 hn, hg.cell h.c1 hn, hg.cell h.c2 hn, hg.cell h.c3 hn, hg.cell h.c4 hn, hg.cell h.c5 hn⟩
/-- Some legs, in a block that is not b. -/
def LegsIn (b : Nat) (w : World) (A : Option Addr) (l : List Lg) : Prop :=
  0 < l.length → ∃ g off, A = some ⟨g, off, none⟩ ∧ g ≠ b ∧ ∀ i, i < l.length → LegAt w g (off + i * 6) (l.getD i lg0)
theorem LegsIn.keep {b : Nat} {w w1 : World} {A : Option Addr} {l : List Lg} (h : LegsIn b w A l) (hb : Below w.heap.size w w1) : LegsIn b w1 A l := fun hn => by
  obtain ⟨g, off, hA, hg, hc⟩ := h hn
  exact ⟨g, off, hA, hg, fun i hi => (hc i hi).keep hb⟩
theorem LegsIn.grown {b : Nat} {w w1 : World} {A : Option Addr} {l : List Lg} (h : LegsIn b w A l) (hg : w.grownBy w1 (some b)) : LegsIn b w1 A l := fun hn => by
  obtain ⟨g, off, hA, hgb, hc⟩ := h hn
  exact ⟨g, off, hA, hgb, fun i hi => (hc i hi).grown hg hgb⟩
theorem LegsIn.other {b b' : Nat} {w : World} {A : Option Addr} {l : List Lg} (h : LegsIn b w A l) (hb : w.heap.size ≤ b') : LegsIn b' w A l := fun hn => by
  obtain ⟨g, off, hA, _, hc⟩ := h hn
  have hg := World.block_lt_of_cell? w _ (hc 0 hn).c0
  exact ⟨g, off, hA, by simp only [] at hg; omega, hc⟩
theorem LegsIn.nil (b : Nat) (w : World) (A : Option Addr) : LegsIn b w A [] := fun h => absurd h (Nat.lt_irrefl 0)
/-- The cells of a message: thirty. -/
abbrev msgL (m : Msg) (A : Option Addr) (c : Nat) (L : Option Addr) (d : Nat) : Array Value :=
  #[.int .i64 m.kind, .int .i64 m.act, .string m.port, .int .i64 m.num,
    .string m.inn.c, .int .i64 m.inn.n, .string m.inn.s, .int .i64 m.inn.d, .string m.inn.p, .string m.inn.k,
    .string m.out.c, .int .i64 m.out.n, .string m.out.s, .int .i64 m.out.d, .string m.out.p, .string m.out.k,
    .slice A m.onw.length c, .int .i64 m.pl, .int .i64 m.pa, .int .i64 m.ps, .int .i64 m.cnt, .bool m.load, .int .i64 m.sta, .int .i64 m.sq, .int .i64 m.wgt,
    .string m.sur, .string m.giv, .int .i64 m.exc, .string m.node, .slice L m.lst.length d]
abbrev msgV (m : Msg) (A : Option Addr) (c : Nat) (L : Option Addr) (d : Nat) : Value := .agg (msgL m A c L d)
abbrev msgO (m : Msg) (A : Option Addr) (c : Nat) (L : Option Addr) (d : Nat) : Obj := .cells (msgL m A c L d) 35

theorem within_any (n lo hi : Int) (w : World) :
    Calls Tryz.prog 37 #[.int .i64 n, .int .i64 lo, .int .i64 hi] w fun e w' => e = .returned (.bool (inB n lo hi)) ∧ w = w' := by
  go_enter Tryz.func37, Tryz.ntmps37
  go_wp2
  all_goals (go_ret; refine ⟨ret_bool (Bool.eq_iff_iff.2 (Iff.trans ?_ inB_iff.symm)), rfl⟩; first | (simp; omega) | (simp only [Bool.false_eq_true]; omega))

theorem lettB_yes {s : ByteArray} (h : s.size ≤ 20) : lettB s = letN s (s.size : Int) := by unfold lettB; rw [letN_of rfl, decide_eq_true h]; rfl
theorem lettB_no {s : ByteArray} (h : ¬ s.size ≤ 20) : lettB s = false := by unfold lettB; rw [decide_eq_false h]; rfl
theorem lett_any (s : ByteArray) (w : World) :
    Calls Tryz.prog 69 #[.string s] w fun e w' => e = .returned (.bool (lettB s)) ∧ w = w' := by
  by_cases h : s.size ≤ 20
  · rw [lettB_yes h]
    have h1 : (s.size : Int) ≤ 20 := by omega
    have h2 : decide ((s.size : Int) ≤ 20) = true := decide_eq_true h1
    go_enter Tryz.func69, Tryz.ntmps69
    go_wp2_with (go_at_call 81; refine (letters_any _ _ _ (by omega)).mono ?_; rintro e w1 ⟨rfl, rfl⟩)
    go_ret
    exact ⟨rfl, rfl⟩
  · rw [lettB_no h]
    have h1 : ¬ (s.size : Int) ≤ 20 := by omega
    have h2 : decide ((s.size : Int) ≤ 20) = false := decide_eq_false h1
    go_enter Tryz.func69, Tryz.ntmps69
    go_wp2
    go_ret
    exact ⟨rfl, rfl⟩

theorem legs_ok (g : Lg) (w : World) :
    Calls Tryz.prog 67 #[lgV g] w fun e w' => e = .returned (.bool (lgB g)) ∧ Below w.heap.size w w' := leg_any g.c g.n g.s g.d g.p g.k w

set_option maxHeartbeats 1000000 in
theorem vlegs_any (b : Nat) (l : List Lg) (A : Option Addr) (c : Nat) (w : World) (hz : l.length ≤ 1000000000) (h : LegsIn b w A l) :
    Calls Tryz.prog 68 #[.slice A l.length c] w fun e w' => e = .returned (.bool (l.all lgB)) ∧ Below w.heap.size w w' := by
  have HI := hide h
  clear h
  go_enter Tryz.func68, Tryz.ntmps68
  go_wp2
  go_loopw [4, 7] (fun _ i wr => ∃ k : Nat, k ≤ l.length ∧ i = .int .i64 k ∧ Hid ((l.take k).all lgB = true) ∧ Below w.heap.size w wr) (fun _ i _ => l.length - (intOf i).toNat)
  case atStart => exact ⟨0, Nat.zero_le _, rfl, Lib.hid rfl, Below.refl _ _⟩
  case round =>
    obtain ⟨k, hk, rfl, hd, hb⟩ := hrel
    obtain ⟨wo, rfl⟩ : ∃ wo : World, wo = wr := ⟨_, rfl⟩
    have HB := Lib.hid hb
    clear hb
    by_cases hlt : k < l.length
    · obtain ⟨g, off, rfl, hg, hc⟩ := ((unhide HI).keep HB.out) (by omega)
      obtain ⟨c0, c1, c2, c3, c4, c5⟩ := hc k hlt
      clear hc
      have kl : (k : Int) < (l.length : Int) := by omega
      have HP := hide fun h => all_step (d := lg0) hlt hd.out h
      have HQ := hide fun h => all_no (p := lgB) (d := lg0) hlt h
      generalize l.getD k lg0 = x at *
      have B1 := Lib.hid ((Below.refl wo.heap.size wo).alloc (Nat.le_refl _) (.cells (lgC x).toArray 30))
      cases hp : lgB x with
      | true =>
        go_wp2_with (go_at_call 67; refine (legs_ok x _).mono ?_; rw [hp]; rintro e w1 ⟨rfl, hb1⟩; have HB1 := Lib.hid (onward HB.out (B1.out.trans (hb1.mono B1.out.size))); clear hb1)
        go_roundw
        case rel => exact ⟨k + 1, by omega, by go_num, Lib.hid (unhide HP hp), HB1.out⟩
        case measure => simp [intOf]; omega
      | false =>
        go_wp2_with (go_at_call 67; refine (legs_ok x _).mono ?_; rw [hp]; rintro e w1 ⟨rfl, hb1⟩; have HB1 := Lib.hid (onward HB.out (B1.out.trans (hb1.mono B1.out.size))); clear hb1)
        go_ret
        exact ⟨ret_bool (unhide HQ hp).symm, HB1.out⟩
    · have kl : ¬ (k : Int) < (l.length : Int) := by omega
      go_wp2
      go_ret
      exact ⟨ret_bool (all_all (by omega) hd.out).symm, HB.out⟩

set_option maxHeartbeats 1000000 in
theorem vpax_any (b : Nat) (l : List Int) (A : Option Addr) (c : Nat) (w : World) (hz : l.length ≤ 1000000000) (h : NumsIn b w A l) :
    Calls Tryz.prog 72 #[.slice A l.length c] w fun e w' => e = .returned (.bool (l.all seqB)) ∧ w = w' := by
  have HI := hide h
  clear h
  go_enter Tryz.func72, Tryz.ntmps72
  go_wp2
  go_loop [4, 7] (fun _ i => ∃ k : Nat, k ≤ l.length ∧ i = .int .i64 k ∧ Hid ((l.take k).all seqB = true)) (fun _ i => l.length - (intOf i).toNat)
  case atStart => exact ⟨0, Nat.zero_le _, rfl, Lib.hid rfl⟩
  case round =>
    obtain ⟨k, hk, rfl, hd⟩ := hrel
    by_cases hlt : k < l.length
    · obtain ⟨g, off, rfl, hg, hc⟩ := (unhide HI) (by omega)
      have q := hc k hlt
      clear hc
      have kl : (k : Int) < (l.length : Int) := by omega
      have HP := hide fun h => all_step (d := (0 : Int)) hlt hd.out h
      have HQ := hide fun h => all_no (p := seqB) (d := (0 : Int)) hlt h
      generalize l.getD k 0 = x at *
      cases hp : seqB x with
      | true =>
        have hp' := hide (show inB x 1 999 = true from hp)
        go_wp2_with (go_at_call 37; refine (within_any _ _ _ _).mono ?_; rw [unhide hp']; rintro e w1 ⟨rfl, rfl⟩)
        go_round
        case rel => exact ⟨k + 1, by omega, by go_num, Lib.hid (unhide HP hp)⟩
        case measure => simp [intOf]; omega
      | false =>
        have hp' := hide (show inB x 1 999 = false from hp)
        go_wp2_with (go_at_call 37; refine (within_any _ _ _ _).mono ?_; rw [unhide hp']; rintro e w1 ⟨rfl, rfl⟩)
        go_ret
        exact ⟨ret_bool (unhide HQ hp).symm, rfl⟩
    · have kl : ¬ (k : Int) < (l.length : Int) := by omega
      go_wp2
      go_ret
      exact ⟨ret_bool (all_all (by omega) hd.out).symm, rfl⟩
end Go.Proofs.YtglgobmmmghdoaaGreatDoor
