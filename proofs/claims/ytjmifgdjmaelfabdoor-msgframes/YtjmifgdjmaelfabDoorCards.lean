/-
  DERIVED. GIVEN WITH THE SEED: THE CARDS: each row of YtjmifgdjmaelfabDoorRows.lean that lists a variable, with what it lists TIED to the program's text (the seventh form; the later family's looks); each row that meets fmt, with fmt's text TOLD by the authors' own Lean function (tested against real Go, not proved from fmt's source: count such statements apart). THE CARD IS WHAT COUNTS. Prove the row's statement (the work); the ties are given (YtjmifgdjmaelfabDoorTie.lean); close each card by the builder's one call (the guide's Derived/Test/ToyasCard.lean, 'card_holds'). Laid BY PROGRAM, IN A SANDBOX (cutbox-door.mjs). By AI agents, Wed Nov 11 2026. No macro, syntax, notation, axiom, sorry.
-/
import Derived.Test.YtjmifgdjmaelfabDoorRows
import GoSem.ClaimSeven
namespace Go.Proofs.YtjmifgdjmaelfabDoor
namespace Rows

/-- THE TIED CARD OF 'pappuslaw08.MsgFrames'. -/
def msgFramesCard : Claim7 := { stood := { row := msgFramesRow, standIns := [], harness := (true, "3d7e2d98ff3ef7457de4d340f8776aff18aa1651ffd780fe0bbb4c244e7985b3"), looks := false }, kinds := [], alts := [], laidByText := true, laidKinds := [.data, .data, .pinned], laidTests := true, laidLooks := .later }
def MsgFramesCardSaid : Prop := Claim7.holds Tryd.pinned (.plain (OpenSpec.ofChange msgFramesSpec)) msgFramesCard

/-- THE SECOND FORM's CARD OF 'pappuslaw08.MsgFrames'. -/
def msgFramesUptoCard : Claim7 := { stood := { row := msgFramesUptoRow, standIns := [], harness := (true, "3d7e2d98ff3ef7457de4d340f8776aff18aa1651ffd780fe0bbb4c244e7985b3"), looks := false }, kinds := [], alts := [], laidByText := true, laidKinds := [.data, .data, .pinned], laidTests := true, laidLooks := .later }
def MsgFramesUptoCardSaid : Prop := Claim7.holds Tryd.pinned (.plain (OpenSpec.upto msgFramesSpec)) msgFramesUptoCard
end Rows
end Go.Proofs.YtjmifgdjmaelfabDoor
