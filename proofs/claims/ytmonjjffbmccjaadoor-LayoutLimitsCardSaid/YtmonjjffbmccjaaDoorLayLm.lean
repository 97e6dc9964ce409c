/-
  LayoutLimits: plain mathematics of the three layouts.
-/
import Derived.Test.YtmonjjffbmccjaaDoorLayH
namespace Go.Proofs.YtmonjjffbmccjaaDoor

def ndE0 : Nd := ⟨⟨#[69]⟩, 1, 1, 0, [1]⟩
def ndM0 : Nd := ⟨⟨#[77]⟩, 9, 0, 0, []⟩
def nm2 (c : UInt8) (i : Nat) : ByteArray := ⟨#[c, UInt8.ofNat (65 + i)]⟩
def ndMa (i : Nat) : Nd := ⟨nm2 77 i, 9, 0, 0, []⟩
def ndBb (i : Nat) (w : Int) : Nd := ⟨nm2 66 i, 2, w, 0, [(i : Int) + 1]⟩
def aL (m : Nat) : List Nd := ndE0 :: (List.range m).map fun j => ndMa (j + 1)
def bS (T m : Nat) : Nat := min T (1 + 8 * m)
def bW (T m : Nat) : Int := (bS T (m + 1) : Int) - (bS T m : Int)
def bL (T m : Nat) : List Nd := ndE0 :: (List.range m).map fun j => ndBb (j + 1) (bW T j)
def bF (T : Nat) : List Nd := bL T 10 ++ [ndM0]
def cL : List Nd := [ndE0, ndBb 1 8, ndBb 2 8, ndM0]
def dvL (i : Nat) : Dv := ⟨1 + (i : Int) % 2, 1 + (i : Int) / 16, (i : Int) / 2 % 8⟩
def dL (m : Nat) : List Dv := (List.range m).map dvL
theorem a_0 : layE ⟨aL 22, []⟩ = 0 := by decide +kernel
theorem a_1 : layE ⟨aL 23, []⟩ = 0 := by decide +kernel
theorem a_2 : layE ⟨aL 24, []⟩ = 2 := by decide +kernel
theorem b_0 : layE ⟨bF 79, []⟩ = 0 := by decide +kernel
theorem b_1 : layE ⟨bF 80, []⟩ = 0 := by decide +kernel
theorem b_2 : layE ⟨bF 81, []⟩ = 2 := by decide +kernel
theorem bw_0 : winsF ⟨bF 79, []⟩ = 79 := by decide +kernel
theorem bw_1 : winsF ⟨bF 80, []⟩ = 80 := by decide +kernel
theorem bw_2 : winsF ⟨bF 81, []⟩ = 0 := by decide +kernel
theorem c_0 : layE ⟨cL, dL 23⟩ = 0 := by decide +kernel
theorem c_1 : layE ⟨cL, dL 24⟩ = 0 := by decide +kernel
theorem c_2 : layE ⟨cL, dL 25⟩ = 2 := by decide +kernel
end Go.Proofs.YtmonjjffbmccjaaDoor
