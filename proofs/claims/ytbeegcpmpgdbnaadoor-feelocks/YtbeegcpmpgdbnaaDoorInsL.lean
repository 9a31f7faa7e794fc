/-
  What the library says of slices' insertion sort, laid at this program for whole numbers.
-/
import Derived.Shelf.SlSortCmp.Insertion1
import Derived.Test.YtbeegcpmpgdbnaaDoorProg
namespace Go.Proofs
open Go.Shelf
def Tryd.insInt_ren : Go.Shelf.Ren := ⟨fun | 20 => 59 | n => n, fun | 24 => 3 | 22 => 46 | 3 => 3 | 25 => 79 | 4 => 4 | 0 => 0 | n => n, fun n => n⟩
theorem Tryd.insInt : Go.Proofs.SlLaysF.n20 Tryd.prog Tryd.insInt_ren := {
  mixed := by kernel_rfl
  f20 := ⟨ "slices.insertionSortCmpFunc[int]", by decide, Tryd.func59.trans (congrArg some (by kernel_rfl))⟩
  t0 := Tryd.underlying0
  a0 := Tryd.isAgg0
  z0 := Tryd.sizeOf0
  v0 := Tryd.zeroValue0
  t3 := Tryd.underlying3
  a3 := Tryd.isAgg3
  z3 := Tryd.sizeOf3
  v3 := Tryd.zeroValue3
  t4 := Tryd.underlying4
  a4 := Tryd.isAgg4
  z4 := Tryd.sizeOf4
  v4 := Tryd.zeroValue4
  t22 := Tryd.underlying46
  a22 := Tryd.isAgg46
  z22 := Tryd.sizeOf46
  v22 := Tryd.zeroValue46
  a24 := Tryd.isAgg3
  z24 := Tryd.sizeOf3
  t25 := Tryd.underlying79
  a25 := Tryd.isAgg79
  z25 := Tryd.sizeOf79
  v25 := Tryd.zeroValue79
}

end Go.Proofs
