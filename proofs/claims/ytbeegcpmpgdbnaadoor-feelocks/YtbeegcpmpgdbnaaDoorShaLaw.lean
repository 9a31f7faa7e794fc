/-
  What every law's proof of layer 3 has in common: no statement of its own.
-/
import Derived.Test.YtbeegcpmpgdbnaaDoorRows
import Derived.Test.YtbeegcpmpgdbnaaDoorTie
import Derived.Test.YtbeegcpmpgdbnaaDoorCards
import Derived.Test.YtbeegcpmpgdbnaaDoorShaB
import Derived.Test.YtbeegcpmpgdbnaaDoorLawKit
import Derived.ProofKit
import Derived.OpenShut
import Derived.ShutString
import Derived.ChangeOld
import Derived.Below
import Derived.Lib.SmallJoins
import Derived.Lib.LaidTab
import Derived.LaidMore
import Derived.Stop.Joined
import Derived.SevenTiedAt
import Derived.Deep.Matrix
namespace Go.Proofs.YtbeegcpmpgdbnaaDoor
open Go.ChangeShapes Go.WideShapes Go.ChangeAt Go.RowKit

/-- What the rows list. -/
abbrev laid1 : List (String × DataW Unit) := [("pappus/sha.constants", Rows.laid_pappus_sha_constants)]
theorem door_met (os : Os) (args : Array Value) : laidMetH Tryd.prog laid1 ((World.doorLaid Tryd.prog 14 os).forCall (fun _ _ => 0) ⟨#[], args, []⟩).memory :=
  laidMetH_of_parts3 (fuel := 8) (laidMet_of_run' 8 (by kernel_rfl) (by kernel_rfl)) (by kernel_rfl) (by kernel_rfl)
theorem laid_is : (Rows.laid_pappus_sha_constants : DataW Unit) = Lib.tabData .u32 K := rfl
/-- The condition gives the table. -/
theorem ks_of_laid {W : World} (h : laidMetH Tryd.prog laid1 W) : Ks W := by
  rw [MakeChecks.laidMetH_plain _ _ _ (by kernel_rfl)] at h
  have hT : Lib.TabIs Tryd.prog W "pappus/sha.constants" .u32 K := Lib.tabIs_of_head (g := 2) (t := 91) (e := 22) (n := 64) (by kernel_rfl) (by kernel_rfl) Tryd.underlying91 Tryd.underlying22 (by kernel_rfl) (by kernel_rfl) h
  exact fun i hi => hT.cell (by kernel_rfl) i (by simpa [K] using hi)

end Go.Proofs.YtbeegcpmpgdbnaaDoor
