/-
  DERIVED. GIVEN WITH THE SEED: THE CARDS: each row of YtnjbjgjhomfndabDoorRows.lean that lists a variable, with what it lists TIED to the program's text (the seventh form; the later family's looks); each row that meets fmt, with fmt's text TOLD by the authors' own Lean function (tested against real Go, not proved from fmt's source: count such statements apart). THE CARD IS WHAT COUNTS. Prove the row's statement (the work); the ties are given (YtnjbjgjhomfndabDoorTie.lean); close each card by the builder's one call (the guide's Derived/Test/ToyasCard.lean, 'card_holds'). Laid BY PROGRAM, IN A SANDBOX (cutbox-door.mjs). By AI agents, Wed Nov 11 2026. No macro, syntax, notation, axiom, sorry.
-/
import Derived.Test.YtnjbjgjhomfndabDoorRows
import GoSem.ClaimSeven
namespace Go.Proofs.YtnjbjgjhomfndabDoor
namespace Rows

/-- THE TIED CARD OF 'pappuslaw06.FlowKeeps'. -/
def flowKeepsCard : Claim7 := { stood := { row := flowKeepsRow, standIns := [], harness := (true, "32bee5e0744e9f46e7e24edb28dc49cc563c90220e8943840688d0fdb6351931"), looks := false }, kinds := [], alts := [], laidByText := true, laidKinds := [.data, .data, .pinned], laidTests := true, laidLooks := .later }
def FlowKeepsCardSaid : Prop := Claim7.holds Tryd.pinned (.plain (OpenSpec.ofChange flowKeepsSpec)) flowKeepsCard

/-- THE SECOND FORM's CARD OF 'pappuslaw06.FlowKeeps'. -/
def flowKeepsUptoCard : Claim7 := { stood := { row := flowKeepsUptoRow, standIns := [], harness := (true, "32bee5e0744e9f46e7e24edb28dc49cc563c90220e8943840688d0fdb6351931"), looks := false }, kinds := [], alts := [], laidByText := true, laidKinds := [.data, .data, .pinned], laidTests := true, laidLooks := .later }
def FlowKeepsUptoCardSaid : Prop := Claim7.holds Tryd.pinned (.plain (OpenSpec.upto flowKeepsSpec)) flowKeepsUptoCard
end Rows
end Go.Proofs.YtnjbjgjhomfndabDoor
