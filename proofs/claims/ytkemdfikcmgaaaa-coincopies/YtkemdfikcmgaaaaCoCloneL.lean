/-
  What the library says of maps.Clone, laid at this program: one application, no condition.
-/
import Derived.Shelf.SlMaps.Clone
import Derived.Test.YtkemdfikcmgaaaaProg
namespace Go.Proofs
open Go.Shelf
def Try.cloneCo_ren : Go.Shelf.Ren := ⟨fun | 5 => 34 | 7 => 40 | n => n, fun | 23 => 65 | 25 => 47 | 3 => 50 | 4 => 4 | 20 => 20 | n => n, fun n => n⟩
theorem Try.cloneCo : Go.Proofs.SlLaysW.n5 Try.prog Try.cloneCo_ren := {
  mixed := by kernel_rfl
  f5 := ⟨ "maps.Clone[map[pappus/api.Point]pappus/api.Out,pappus/api.Point,pappus/api.Out]", by decide, Try.func34.trans (congrArg some (by kernel_rfl))⟩
  f7 := Try.func40.trans (congrArg some (by kernel_rfl))
  t4 := Try.underlying4
  a4 := Try.isAgg4
  z4 := Try.sizeOf4
  v4 := Try.zeroValue4
  t20 := Try.underlying20
  a20 := Try.isAgg20
  z20 := Try.sizeOf20
  v20 := Try.zeroValue20
  t23 := Try.underlying65
  a23 := Try.isAgg65
  z23 := Try.sizeOf65
  v23 := Try.zeroValue65
}

end Go.Proofs
