/-
  DERIVED. GIVEN WITH THE SEED: THE CARDS: each row of YtjgainoplgojiabDoorRows.lean that lists a variable, with what it lists TIED to the program's text (the seventh form; the later family's looks); each row that meets fmt, with fmt's text TOLD by the authors' own Lean function (tested against real Go, not proved from fmt's source: count such statements apart). THE CARD IS WHAT COUNTS. Prove the row's statement (the work); the ties are given (YtjgainoplgojiabDoorTie.lean); close each card by the builder's one call (the guide's Derived/Test/ToyasCard.lean, 'card_holds'). Laid BY PROGRAM, IN A SANDBOX (cutbox-door.mjs). By AI agents, Wed Nov 11 2026. No macro, syntax, notation, axiom, sorry.
-/
import Derived.Test.YtjgainoplgojiabDoorRows
import GoSem.ClaimSeven
namespace Go.Proofs.YtjgainoplgojiabDoor
namespace Rows

/-- THE TIED CARD OF 'pappuslaw07.TxIds'. -/
def txIdsCard : Claim7 := { stood := { row := txIdsRow, standIns := [], harness := (true, "598eaf8c3bfa95f895b1a4fe78e6de4a295afe8a925bf69cdd587160d12f0fe7"), looks := false }, kinds := [], alts := [], laidByText := true, laidKinds := [.data], laidTests := true, laidLooks := .later }
def TxIdsCardSaid : Prop := Claim7.holds Tryd.pinned (.plain (OpenSpec.ofChange txIdsSpec)) txIdsCard

/-- THE SECOND FORM's CARD OF 'pappuslaw07.TxIds'. -/
def txIdsUptoCard : Claim7 := { stood := { row := txIdsUptoRow, standIns := [], harness := (true, "598eaf8c3bfa95f895b1a4fe78e6de4a295afe8a925bf69cdd587160d12f0fe7"), looks := false }, kinds := [], alts := [], laidByText := true, laidKinds := [.data], laidTests := true, laidLooks := .later }
def TxIdsUptoCardSaid : Prop := Claim7.holds Tryd.pinned (.plain (OpenSpec.upto txIdsSpec)) txIdsUptoCard
end Rows
end Go.Proofs.YtjgainoplgojiabDoor
