/-
  What sha.New answers at this program.
-/
import Derived.Test.YtknijlajopmjaaaDoorShaApi
namespace Go.Proofs.YtknijlajopmjaaaDoor
open Go.RowKit

theorem new_any (w : World) : Calls Tryd.prog 33 #[] w fun e w' => e = .returned (.pointer (some ⟨w.heap.size, 0, none⟩)) ∧ Hashes w' w.heap.size [] ∧ Below w.heap.size w w' := by
  have hz := zero_hasher.1
  go_enter Tryd.func33, Tryd.ntmps33
  go_wp2
  go_ret
  exact ⟨rfl, Hashes.new w, (Below.refl _ _).alloc (Nat.le_refl _) _⟩

end Go.Proofs.YtknijlajopmjaaaDoor
