/-
  Sums under a key as plain functions of lists of numbers, with no word of the program: a key's block, its bytes turned, the sum within the sum.
-/
import Derived.Test.YtknijlajopmjaaaDoorShaPure
namespace Go.Proofs.YtknijlajopmjaaaDoor

/-- A key's block. -/
def shortI (k : List Int) : List Int := if 64 < k.length then digest k else k
def keyI (k : List Int) : List Int := shortI k ++ List.replicate (64 - (shortI k).length) 0
/-- Each byte xor x. -/
def xorB (l : List Int) (x : Int) : List Int := l.map fun z => bits .xor .u8 z x
def innerI (k m : List Int) : List Int := digest (xorB (keyI k) 54 ++ m)
/-- The sum under a key. -/
def macI (k m : List Int) : List Int := digest (xorB (keyI k) 92 ++ innerI k m)

theorem mac_jefe : macI [74, 101, 102, 101] [119, 104, 97, 116, 32, 100, 111, 32, 121, 97, 32, 119, 97, 110, 116, 32, 102, 111, 114, 32, 110, 111, 116, 104, 105, 110, 103, 63] = [91, 220, 193, 70, 191, 96, 117, 78, 106, 4, 36, 38, 8, 149, 117, 199, 90, 0, 63, 8, 157, 39, 57, 131, 157, 236, 88, 185, 100, 236, 56, 67] := by kernel_rfl

end Go.Proofs.YtknijlajopmjaaaDoor
