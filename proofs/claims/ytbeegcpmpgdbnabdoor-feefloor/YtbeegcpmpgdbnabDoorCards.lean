/-
  DERIVED. GIVEN WITH THE SEED: THE CARDS: each row of YtbeegcpmpgdbnabDoorRows.lean that lists a variable, with what it lists TIED to the program's text (the seventh form; the later family's looks); each row that meets fmt, with fmt's text TOLD by the authors' own Lean function (tested against real Go, not proved from fmt's source: count such statements apart). THE CARD IS WHAT COUNTS. Prove the row's statement (the work); the ties are given (YtbeegcpmpgdbnabDoorTie.lean); close each card by the builder's one call (the guide's Derived/Test/ToyasCard.lean, 'card_holds'). Laid BY PROGRAM, IN A SANDBOX (cutbox-door.mjs). By AI agents, Wed Nov 11 2026. No macro, syntax, notation, axiom, sorry.
-/
import Derived.Test.YtbeegcpmpgdbnabDoorRows
import GoSem.ClaimSeven
namespace Go.Proofs.YtbeegcpmpgdbnabDoor
namespace Rows

/-- THE TIED CARD OF 'pappuslaw10.FeeLess'. -/
def feeLessCard : Claim7 := { stood := { row := feeLessRow, standIns := [], harness := (true, "eddde559ab52757c4675ab0e4b17f8dddaf60b994cbb0901cdbb52561b7b926c"), looks := false }, kinds := [], alts := [], laidByText := true, laidKinds := [.data], laidTests := true, laidLooks := .later }
def FeeLessCardSaid : Prop := Claim7.holds Tryd.pinned (.plain (OpenSpec.ofChange feeLessSpec)) feeLessCard

/-- THE TIED CARD OF 'pappuslaw10.FeeFloor'. -/
def feeFloorCard : Claim7 := { stood := { row := feeFloorRow, standIns := [], harness := (true, "eddde559ab52757c4675ab0e4b17f8dddaf60b994cbb0901cdbb52561b7b926c"), looks := false }, kinds := [], alts := [], laidByText := true, laidKinds := [.data], laidTests := true, laidLooks := .later }
def FeeFloorCardSaid : Prop := Claim7.holds Tryd.pinned (.plain (OpenSpec.ofChange feeFloorSpec)) feeFloorCard

/-- THE SECOND FORM's CARD OF 'pappuslaw10.FeeLess'. -/
def feeLessUptoCard : Claim7 := { stood := { row := feeLessUptoRow, standIns := [], harness := (true, "eddde559ab52757c4675ab0e4b17f8dddaf60b994cbb0901cdbb52561b7b926c"), looks := false }, kinds := [], alts := [], laidByText := true, laidKinds := [.data], laidTests := true, laidLooks := .later }
def FeeLessUptoCardSaid : Prop := Claim7.holds Tryd.pinned (.plain (OpenSpec.upto feeLessSpec)) feeLessUptoCard

/-- THE SECOND FORM's CARD OF 'pappuslaw10.FeeFloor'. -/
def feeFloorUptoCard : Claim7 := { stood := { row := feeFloorUptoRow, standIns := [], harness := (true, "eddde559ab52757c4675ab0e4b17f8dddaf60b994cbb0901cdbb52561b7b926c"), looks := false }, kinds := [], alts := [], laidByText := true, laidKinds := [.data], laidTests := true, laidLooks := .later }
def FeeFloorUptoCardSaid : Prop := Claim7.holds Tryd.pinned (.plain (OpenSpec.upto feeFloorSpec)) feeFloorUptoCard
end Rows
end Go.Proofs.YtbeegcpmpgdbnabDoor
