/-
  No cell of these rows narrows 'for every input' (looked for: loops, veiled, ifaces, maps, wideKeys, modest, calm, conditions, laid).
  DERIVED. THE GIVEN ROWS OF THIS SEAT. 2 by the template 'for every input the law returns true; each argument reads behind the call as it read before'; 0 by the template 'total and deterministic' (their statements: YtjgainoplgojiabTotals.lean).
  GIVEN WITH THE SEED: the statements are not yours to turn. If you find one false, say at which input.
  Laid BY PROGRAM, IN A SANDBOX (cutbox-rows.mjs): the forced cells as the released guide's own fill.sh prints them over the translation 9bec1d8944e5848e… (all of the seat's roots in one cut). By AI agents, Wed Nov 11 2026. No macro, syntax, notation, axiom, sorry.
-/
import Derived.Test.YtjgainoplgojiabChecked
import GoSem.Claim
import GoSem.ClaimJoined
import GoSem.ClaimMapViews
import Derived.JoinedTies
import Derived.KernelRfl
namespace Go.Proofs.Ytjgainoplgojiab
/- THE CELL 'sum', in the pinned program and in every row, IS THE sha256 OF THE DUMP (.gsa) THAT YtjgainoplgojiabProg.lean LOADS. Nothing in Lean hashes anything: it is a label: what it is worth is what the hold of that sum in a sandbox is worth. -/
noncomputable def Try.pinned : Pinned := { name := "ytjgainoplgojiab", sum := "9bec1d8944e5848e3ea11d620fac6c94aa8a37fa6b05b5a0defa4a5aff017450", checked := Try.checked }
namespace Rows
def none {H : Type} : Left H := { results := [], args := [] }

/-- 'pappuslaw07.TxMay': WHATEVER THE INPUT: true; the input reads as it did. -/
def txMaySpec : ChangeSpec := { name := "txMay", fn := fun _ => fun
  | [d1, d2] => { results := [.lit (.bool true)], args := [d1, d2] }
  | _ => none }
def txMayRow : OpenClaim := { program := "ytjgainoplgojiab", sum := "9bec1d8944e5848e3ea11d620fac6c94aa8a37fa6b05b5a0defa4a5aff017450", func := "pappus/pappuslaw07.TxMay", spec := "txMay", plainKeys := false, apart := false }
def TxMaySaid : Prop := txMayRow.holds Try.pinned (OpenSpec.ofChange txMaySpec)

/-- ITS FALSE NEIGHBOUR: 'it returns false'. Refute it at one input. -/
def txMayWrong : ChangeSpec := { name := "txMay", fn := fun _ => fun
  | [d1, d2] => { results := [.lit (.bool false)], args := [d1, d2] }
  | _ => none }
def TxMayWrongFalsely : Prop := txMayRow.holds Try.pinned (OpenSpec.ofChange txMayWrong)

/-- 'pappuslaw07.TxSame': WHATEVER THE INPUT: true; the input reads as it did. -/
def txSameSpec : ChangeSpec := { name := "txSame", fn := fun _ => fun
  | [d1, d2] => { results := [.lit (.bool true)], args := [d1, d2] }
  | _ => none }
def txSameRow : OpenClaim := { program := "ytjgainoplgojiab", sum := "9bec1d8944e5848e3ea11d620fac6c94aa8a37fa6b05b5a0defa4a5aff017450", func := "pappus/pappuslaw07.TxSame", spec := "txSame", unfollowed := true, recurses := true, plainKeys := false, apart := false }
def TxSameSaid : Prop := txSameRow.holds Try.pinned (OpenSpec.ofChange txSameSpec)

/-- ITS FALSE NEIGHBOUR: 'it returns false'. Refute it at one input. -/
def txSameWrong : ChangeSpec := { name := "txSame", fn := fun _ => fun
  | [d1, d2] => { results := [.lit (.bool false)], args := [d1, d2] }
  | _ => none }
def TxSameWrongFalsely : Prop := txSameRow.holds Try.pinned (OpenSpec.ofChange txSameWrong)

/- THE SECOND FORM. 'bulk': how many values and letters a reading holds, each counted each time it is reached (what is shared counts as often as it is met; a slice's spare places count too). A statement '..UptoSaid' is the law's where the arguments, and the package variables that the reading takes, are together of bulk at most 1048576: NARROWER than '..Said'. Prove '..Said' where nothing that the law and all that it calls make is longer than what came in: it says more and counts as full. Else prove '..UptoSaid'. A law counts once. -/
mutual
def uptoBulk {H : Type} : DataW H → Nat
  | .lit (.string bytes) => bytes.length + 1
  | .lit _ => 1
  | .nil => 1
  | .ptr d => uptoBulk d + 1
  | .slice elems spare => uptoBulkAll elems + uptoBulkAll spare + 1
  | .agg parts => uptoBulkAll parts + 1
  | .iface _ d => uptoBulk d + 1
  | .map entries => uptoBulkEntries entries + 1
  | .held _ => 1
def uptoBulkAll {H : Type} : List (DataW H) → Nat
  | [] => 0
  | d :: r => uptoBulk d + uptoBulkAll r
def uptoBulkEntries {H : Type} : List (Lit × DataW H) → Nat
  | [] => 0
  | x :: r => uptoBulkEntry x + uptoBulkEntries r
def uptoBulkEntry {H : Type} : Lit × DataW H → Nat
  | (.string bytes, d) => bytes.length + uptoBulk d + 1
  | (_, d) => uptoBulk d + 1
 end
def uptoSmall : (H : Type) → List (DataW H) → Bool := fun _ ds => decide (uptoBulkAll ds ≤ 1048576)
def OpenSpec.upto (s : _root_.Go.ChangeSpec) : _root_.Go.OpenSpec := { _root_.Go.OpenSpec.ofChange s with cond := some uptoSmall }

/-- 'pappuslaw07.TxMay', WHERE WHAT IT READS IS OF BULK AT MOST 1048576: true; the input reads as it did. -/
def txMayUptoRow : OpenClaim := { program := "ytjgainoplgojiab", sum := "9bec1d8944e5848e3ea11d620fac6c94aa8a37fa6b05b5a0defa4a5aff017450", func := "pappus/pappuslaw07.TxMay", spec := "txMay", plainKeys := false, apart := false, narrowed := true }
def TxMayUptoSaid : Prop := txMayUptoRow.holds Try.pinned (OpenSpec.upto txMaySpec)

/-- 'pappuslaw07.TxSame', WHERE WHAT IT READS IS OF BULK AT MOST 1048576: true; the input reads as it did. -/
def txSameUptoRow : OpenClaim := { program := "ytjgainoplgojiab", sum := "9bec1d8944e5848e3ea11d620fac6c94aa8a37fa6b05b5a0defa4a5aff017450", func := "pappus/pappuslaw07.TxSame", spec := "txSame", unfollowed := true, recurses := true, plainKeys := false, apart := false, narrowed := true }
def TxSameUptoSaid : Prop := txSameUptoRow.holds Try.pinned (OpenSpec.upto txSameSpec)

end Rows
end Go.Proofs.Ytjgainoplgojiab
