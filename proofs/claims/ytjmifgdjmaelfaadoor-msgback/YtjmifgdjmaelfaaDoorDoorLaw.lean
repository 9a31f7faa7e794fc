/-
  What the proofs of laws that list sha's table, and read nothing of it, have in common: no statement of its own.
-/
import Derived.Test.YtjmifgdjmaelfaaDoorRows
import Derived.Test.YtjmifgdjmaelfaaDoorTie
import Derived.Test.YtjmifgdjmaelfaaDoorCards
import Derived.Test.YtjmifgdjmaelfaaDoorLawKit
import Derived.LaidMore
namespace Go.Proofs.YtjmifgdjmaelfaaDoor
open Go.ChangeShapes Go.WideShapes Go.ChangeAt Go.RowKit

/-- What the rows list. -/
abbrev laid1 : List (String × DataW Unit) := [("pappus/sha.constants", Rows.laid_pappus_sha_constants)]
theorem door_met (os : Os) (args : Array Value) : laidMetH Tryd.prog laid1 ((World.doorLaid Tryd.prog 14 os).forCall (fun _ _ => 0) ⟨#[], args, []⟩).memory :=
  laidMetH_of_parts3 (fuel := 8) (laidMet_of_run' 8 (by kernel_rfl) (by kernel_rfl)) (by kernel_rfl) (by kernel_rfl)

end Go.Proofs.YtjmifgdjmaelfaaDoor
