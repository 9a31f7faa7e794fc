/-
  DERIVED. GIVEN WITH THE SEED: THE CARDS: each row of YtknijlajopmjaaaDoorRows.lean that lists a variable, with what it lists TIED to the program's text (the seventh form; the later family's looks); each row that meets fmt, with fmt's text TOLD by the authors' own Lean function (tested against real Go, not proved from fmt's source: count such statements apart). THE CARD IS WHAT COUNTS. Prove the row's statement (the work); the ties are given (YtknijlajopmjaaaDoorTie.lean); close each card by the builder's one call (the guide's Derived/Test/ToyasCard.lean, 'card_holds'). Laid BY PROGRAM, IN A SANDBOX (cutbox-door.mjs). By AI agents, Wed Nov 11 2026. No macro, syntax, notation, axiom, sorry.
-/
import Derived.Test.YtknijlajopmjaaaDoorRows
import GoSem.ClaimSeven
namespace Go.Proofs.YtknijlajopmjaaaDoor
namespace Rows

/-- THE TIED CARD OF 'pappuslaw04.MacSums'. -/
def macSumsCard : Claim7 := { stood := { row := macSumsRow, standIns := [], harness := (true, "173da7fa971a5d4b19b9988b9cc45fa2aa5c8cacbb2b37105ebacdc430575515"), looks := false }, kinds := [], alts := [], laidByText := true, laidKinds := [.data], laidTests := true, laidLooks := .later }
def MacSumsCardSaid : Prop := Claim7.holds Tryd.pinned (.plain (OpenSpec.ofChange macSumsSpec)) macSumsCard

/-- THE TIED CARD OF 'pappuslaw04.MacRoutes'. -/
def macRoutesCard : Claim7 := { stood := { row := macRoutesRow, standIns := [], harness := (true, "173da7fa971a5d4b19b9988b9cc45fa2aa5c8cacbb2b37105ebacdc430575515"), looks := false }, kinds := [], alts := [], laidByText := true, laidKinds := [.data], laidTests := true, laidLooks := .later }
def MacRoutesCardSaid : Prop := Claim7.holds Tryd.pinned (.plain (OpenSpec.ofChange macRoutesSpec)) macRoutesCard

/-- THE TIED CARD OF 'pappuslaw04.MacNested'. -/
def macNestedCard : Claim7 := { stood := { row := macNestedRow, standIns := [], harness := (true, "173da7fa971a5d4b19b9988b9cc45fa2aa5c8cacbb2b37105ebacdc430575515"), looks := false }, kinds := [], alts := [], laidByText := true, laidKinds := [.data], laidTests := true, laidLooks := .later }
def MacNestedCardSaid : Prop := Claim7.holds Tryd.pinned (.plain (OpenSpec.ofChange macNestedSpec)) macNestedCard

/-- THE TIED CARD OF 'pappuslaw04.MacLong'. -/
def macLongCard : Claim7 := { stood := { row := macLongRow, standIns := [], harness := (true, "173da7fa971a5d4b19b9988b9cc45fa2aa5c8cacbb2b37105ebacdc430575515"), looks := false }, kinds := [], alts := [], laidByText := true, laidKinds := [.data], laidTests := true, laidLooks := .later }
def MacLongCardSaid : Prop := Claim7.holds Tryd.pinned (.plain (OpenSpec.ofChange macLongSpec)) macLongCard

/-- THE TIED CARD OF 'pappuslaw04.MacSame'. -/
def macSameCard : Claim7 := { stood := { row := macSameRow, standIns := [], harness := (true, "173da7fa971a5d4b19b9988b9cc45fa2aa5c8cacbb2b37105ebacdc430575515"), looks := false }, kinds := [], alts := [], laidByText := true, laidKinds := [.data], laidTests := true, laidLooks := .later }
def MacSameCardSaid : Prop := Claim7.holds Tryd.pinned (.plain (OpenSpec.ofChange macSameSpec)) macSameCard

/-- THE TIED CARD OF 'pappuslaw04.MacPicks'. -/
def macPicksCard : Claim7 := { stood := { row := macPicksRow, standIns := [], harness := (true, "173da7fa971a5d4b19b9988b9cc45fa2aa5c8cacbb2b37105ebacdc430575515"), looks := false }, kinds := [], alts := [], laidByText := true, laidKinds := [.data], laidTests := true, laidLooks := .later }
def MacPicksCardSaid : Prop := Claim7.holds Tryd.pinned (.plain (OpenSpec.ofChange macPicksSpec)) macPicksCard

/-- THE SECOND FORM's CARD OF 'pappuslaw04.MacSums'. -/
def macSumsUptoCard : Claim7 := { stood := { row := macSumsUptoRow, standIns := [], harness := (true, "173da7fa971a5d4b19b9988b9cc45fa2aa5c8cacbb2b37105ebacdc430575515"), looks := false }, kinds := [], alts := [], laidByText := true, laidKinds := [.data], laidTests := true, laidLooks := .later }
def MacSumsUptoCardSaid : Prop := Claim7.holds Tryd.pinned (.plain (OpenSpec.upto macSumsSpec)) macSumsUptoCard

/-- THE SECOND FORM's CARD OF 'pappuslaw04.MacRoutes'. -/
def macRoutesUptoCard : Claim7 := { stood := { row := macRoutesUptoRow, standIns := [], harness := (true, "173da7fa971a5d4b19b9988b9cc45fa2aa5c8cacbb2b37105ebacdc430575515"), looks := false }, kinds := [], alts := [], laidByText := true, laidKinds := [.data], laidTests := true, laidLooks := .later }
def MacRoutesUptoCardSaid : Prop := Claim7.holds Tryd.pinned (.plain (OpenSpec.upto macRoutesSpec)) macRoutesUptoCard

/-- THE SECOND FORM's CARD OF 'pappuslaw04.MacNested'. -/
def macNestedUptoCard : Claim7 := { stood := { row := macNestedUptoRow, standIns := [], harness := (true, "173da7fa971a5d4b19b9988b9cc45fa2aa5c8cacbb2b37105ebacdc430575515"), looks := false }, kinds := [], alts := [], laidByText := true, laidKinds := [.data], laidTests := true, laidLooks := .later }
def MacNestedUptoCardSaid : Prop := Claim7.holds Tryd.pinned (.plain (OpenSpec.upto macNestedSpec)) macNestedUptoCard

/-- THE SECOND FORM's CARD OF 'pappuslaw04.MacLong'. -/
def macLongUptoCard : Claim7 := { stood := { row := macLongUptoRow, standIns := [], harness := (true, "173da7fa971a5d4b19b9988b9cc45fa2aa5c8cacbb2b37105ebacdc430575515"), looks := false }, kinds := [], alts := [], laidByText := true, laidKinds := [.data], laidTests := true, laidLooks := .later }
def MacLongUptoCardSaid : Prop := Claim7.holds Tryd.pinned (.plain (OpenSpec.upto macLongSpec)) macLongUptoCard

/-- THE SECOND FORM's CARD OF 'pappuslaw04.MacSame'. -/
def macSameUptoCard : Claim7 := { stood := { row := macSameUptoRow, standIns := [], harness := (true, "173da7fa971a5d4b19b9988b9cc45fa2aa5c8cacbb2b37105ebacdc430575515"), looks := false }, kinds := [], alts := [], laidByText := true, laidKinds := [.data], laidTests := true, laidLooks := .later }
def MacSameUptoCardSaid : Prop := Claim7.holds Tryd.pinned (.plain (OpenSpec.upto macSameSpec)) macSameUptoCard

/-- THE SECOND FORM's CARD OF 'pappuslaw04.MacPicks'. -/
def macPicksUptoCard : Claim7 := { stood := { row := macPicksUptoRow, standIns := [], harness := (true, "173da7fa971a5d4b19b9988b9cc45fa2aa5c8cacbb2b37105ebacdc430575515"), looks := false }, kinds := [], alts := [], laidByText := true, laidKinds := [.data], laidTests := true, laidLooks := .later }
def MacPicksUptoCardSaid : Prop := Claim7.holds Tryd.pinned (.plain (OpenSpec.upto macPicksSpec)) macPicksUptoCard
end Rows
end Go.Proofs.YtknijlajopmjaaaDoor
