/-
  What every law's proof of a layer that reaches bytes.TrimRight has in common: no statement of its own.
-/
import Derived.Test.YtjmifgdjmaelfabDoorRows
import Derived.Test.YtjmifgdjmaelfabDoorTie
import Derived.Test.YtjmifgdjmaelfabDoorCards
import Derived.Test.YtjmifgdjmaelfabDoorShaB
import Derived.Test.YtjmifgdjmaelfabDoorLawKit
import Derived.LaidMore
import Derived.Lay
import Derived.ChangeMaps5
namespace Go.Proofs.YtjmifgdjmaelfabDoor
open Go.ChangeShapes Go.WideShapes Go.ChangeAt Go.RowKit

/-- What the rows list. -/
abbrev laid3 : List (String × DataW Unit) := [("pappus/sha.constants", Rows.laid_pappus_sha_constants), ("unicode/utf8.acceptRanges", Rows.laid_unicode_utf8_acceptRanges), ("unicode/utf8.first", Rows.laid_unicode_utf8_first)]
theorem laid_is : (Rows.laid_pappus_sha_constants : DataW Unit) = Lib.tabData .u32 K := rfl
theorem laid_met (os : Os) (args : Array Value) : laidMetH Tryd.prog laid3 ((World.laidAll Tryd.prog os laid3).forCall (fun _ _ => 0) ⟨#[], args, []⟩).memory := by
  rw [MakeChecks.laidMetH_plain _ _ _ (by kernel_rfl)]
  exact laidMet_laidAll _ (by kernel_rfl) (by kernel_rfl)
/-- The condition gives the table. -/
theorem ks_of_laid {W : World} (h : laidMetH Tryd.prog laid3 W) : Ks W := by
  rw [MakeChecks.laidMetH_plain _ _ _ (by kernel_rfl)] at h
  have hT : Lib.TabIs Tryd.prog W "pappus/sha.constants" .u32 K := Lib.tabIs_of_head (g := 2) (t := 141) (e := 23) (n := 64) (by kernel_rfl) (by kernel_rfl) Tryd.underlying141 Tryd.underlying23 (by kernel_rfl) (by kernel_rfl) h
  exact fun i hi => hT.cell (by kernel_rfl) i (by simpa [K] using hi)

end Go.Proofs.YtjmifgdjmaelfabDoor
