/-
  DERIVED. GIVEN WITH THE SEED: THE CARDS: each row of YtknijlajopmjaabDoorRows.lean that lists a variable, with what it lists TIED to the program's text (the seventh form; the later family's looks); each row that meets fmt, with fmt's text TOLD by the authors' own Lean function (tested against real Go, not proved from fmt's source: count such statements apart). THE CARD IS WHAT COUNTS. Prove the row's statement (the work); the ties are given (YtknijlajopmjaabDoorTie.lean); close each card by the builder's one call (the guide's Derived/Test/ToyasCard.lean, 'card_holds'). Laid BY PROGRAM, IN A SANDBOX (cutbox-door.mjs). By AI agents, Wed Nov 11 2026. No macro, syntax, notation, axiom, sorry.
-/
import Derived.Test.YtknijlajopmjaabDoorRows
import GoSem.ClaimSeven
namespace Go.Proofs.YtknijlajopmjaabDoor
namespace Rows

/-- THE TIED CARD OF 'pappuslaw04.MacWays'. -/
def macWaysCard : Claim7 := { stood := { row := macWaysRow, standIns := [], harness := (true, "a5cbd24cdeef247761071f5f19b6634ca917d1c888db6c46c4082a0dfb72091e"), looks := false }, kinds := [], alts := [], laidByText := true, laidKinds := [.data], laidTests := true, laidLooks := .later }
def MacWaysCardSaid : Prop := Claim7.holds Tryd.pinned (.plain (OpenSpec.ofChange macWaysSpec)) macWaysCard

/-- THE SECOND FORM's CARD OF 'pappuslaw04.MacWays'. -/
def macWaysUptoCard : Claim7 := { stood := { row := macWaysUptoRow, standIns := [], harness := (true, "a5cbd24cdeef247761071f5f19b6634ca917d1c888db6c46c4082a0dfb72091e"), looks := false }, kinds := [], alts := [], laidByText := true, laidKinds := [.data], laidTests := true, laidLooks := .later }
def MacWaysUptoCardSaid : Prop := Claim7.holds Tryd.pinned (.plain (OpenSpec.upto macWaysSpec)) macWaysUptoCard
end Rows
end Go.Proofs.YtknijlajopmjaabDoor
