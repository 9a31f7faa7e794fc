/-
  No cell of these rows narrows 'for every input' (looked for: loops, veiled, ifaces, maps, wideKeys, modest, calm, conditions, laid).
  DERIVED. THE GIVEN ROWS OF THIS SEAT. 6 by the template 'for every input the law returns true; each argument reads behind the call as it read before'; 0 by the template 'total and deterministic' (their statements: YtggekibapfhcdaaTotals.lean).
  GIVEN WITH THE SEED: the statements are not yours to turn. If you find one false, say at which input.
  Laid BY PROGRAM, IN A SANDBOX (cutbox-rows.mjs): the forced cells as the released guide's own fill.sh prints them over the translation f71f971d89c8239f… (all of the seat's roots in one cut). By AI agents, Wed Nov 11 2026. No macro, syntax, notation, axiom, sorry.
-/
import Derived.Test.YtggekibapfhcdaaChecked
import GoSem.Claim
import GoSem.ClaimJoined
import GoSem.ClaimMapViews
import Derived.JoinedTies
import Derived.KernelRfl
namespace Go.Proofs.Ytggekibapfhcdaa
/- THE CELL 'sum', in the pinned program and in every row, IS THE sha256 OF THE DUMP (.gsa) THAT YtggekibapfhcdaaProg.lean LOADS. Nothing in Lean hashes anything: it is a label: what it is worth is what the hold of that sum in a sandbox is worth. -/
noncomputable def Try.pinned : Pinned := { name := "ytggekibapfhcdaa", sum := "f71f971d89c8239fbcb57a8d8e06ca69b1070dbdaf1c27caee586113ca86d4ba", checked := Try.checked }
namespace Rows
def none {H : Type} : Left H := { results := [], args := [] }

/-- 'pappuslaw01.CalcSums': WHATEVER THE INPUT: true; the input reads as it did. -/
def calcSumsSpec : ChangeSpec := { name := "calcSums", fn := fun _ => fun
  | [d1, d2] => { results := [.lit (.bool true)], args := [d1, d2] }
  | _ => none }
def calcSumsRow : OpenClaim := { program := "ytggekibapfhcdaa", sum := "f71f971d89c8239fbcb57a8d8e06ca69b1070dbdaf1c27caee586113ca86d4ba", func := "pappus/pappuslaw01.CalcSums", spec := "calcSums", inPlace := ["math/bits.Add64"], named := ["math/bits.divideError", "math/bits.overflowError"], apart := false }
def CalcSumsSaid : Prop := calcSumsRow.holds Try.pinned (OpenSpec.ofChange calcSumsSpec)

/-- ITS FALSE NEIGHBOUR: 'it returns false'. Refute it at one input. -/
def calcSumsWrong : ChangeSpec := { name := "calcSums", fn := fun _ => fun
  | [d1, d2] => { results := [.lit (.bool false)], args := [d1, d2] }
  | _ => none }
def CalcSumsWrongFalsely : Prop := calcSumsRow.holds Try.pinned (OpenSpec.ofChange calcSumsWrong)

/-- 'pappuslaw01.CalcParts': WHATEVER THE INPUT: true; the input reads as it did. -/
def calcPartsSpec : ChangeSpec := { name := "calcParts", fn := fun _ => fun
  | [d] => { results := [.lit (.bool true)], args := [d] }
  | _ => none }
def calcPartsRow : OpenClaim := { program := "ytggekibapfhcdaa", sum := "f71f971d89c8239fbcb57a8d8e06ca69b1070dbdaf1c27caee586113ca86d4ba", func := "pappus/pappuslaw01.CalcParts", spec := "calcParts", inPlace := ["math/bits.Add64"], named := ["math/bits.divideError", "math/bits.overflowError"], apart := false }
def CalcPartsSaid : Prop := calcPartsRow.holds Try.pinned (OpenSpec.ofChange calcPartsSpec)

/-- ITS FALSE NEIGHBOUR: 'it returns false'. Refute it at one input. -/
def calcPartsWrong : ChangeSpec := { name := "calcParts", fn := fun _ => fun
  | [d] => { results := [.lit (.bool false)], args := [d] }
  | _ => none }
def CalcPartsWrongFalsely : Prop := calcPartsRow.holds Try.pinned (OpenSpec.ofChange calcPartsWrong)

/-- 'pappuslaw01.CalcCross': WHATEVER THE INPUT: true; the input reads as it did. -/
def calcCrossSpec : ChangeSpec := { name := "calcCross", fn := fun _ => fun
  | [d] => { results := [.lit (.bool true)], args := [d] }
  | _ => none }
def calcCrossRow : OpenClaim := { program := "ytggekibapfhcdaa", sum := "f71f971d89c8239fbcb57a8d8e06ca69b1070dbdaf1c27caee586113ca86d4ba", func := "pappus/pappuslaw01.CalcCross", spec := "calcCross", inPlace := ["math/bits.Add64"], named := ["math/bits.divideError", "math/bits.overflowError"], apart := false }
def CalcCrossSaid : Prop := calcCrossRow.holds Try.pinned (OpenSpec.ofChange calcCrossSpec)

/-- ITS FALSE NEIGHBOUR: 'it returns false'. Refute it at one input. -/
def calcCrossWrong : ChangeSpec := { name := "calcCross", fn := fun _ => fun
  | [d] => { results := [.lit (.bool false)], args := [d] }
  | _ => none }
def CalcCrossWrongFalsely : Prop := calcCrossRow.holds Try.pinned (OpenSpec.ofChange calcCrossWrong)

/-- 'pappuslaw01.CalcAmong': WHATEVER THE INPUT: true; the input reads as it did. -/
def calcAmongSpec : ChangeSpec := { name := "calcAmong", fn := fun _ => fun
  | [d1, d2, d3] => { results := [.lit (.bool true)], args := [d1, d2, d3] }
  | _ => none }
def calcAmongRow : OpenClaim := { program := "ytggekibapfhcdaa", sum := "f71f971d89c8239fbcb57a8d8e06ca69b1070dbdaf1c27caee586113ca86d4ba", func := "pappus/pappuslaw01.CalcAmong", spec := "calcAmong", inPlace := ["math/bits.Add64"], named := ["math/bits.divideError", "math/bits.overflowError"], apart := false }
def CalcAmongSaid : Prop := calcAmongRow.holds Try.pinned (OpenSpec.ofChange calcAmongSpec)

/-- ITS FALSE NEIGHBOUR: 'it returns false'. Refute it at one input. -/
def calcAmongWrong : ChangeSpec := { name := "calcAmong", fn := fun _ => fun
  | [d1, d2, d3] => { results := [.lit (.bool false)], args := [d1, d2, d3] }
  | _ => none }
def CalcAmongWrongFalsely : Prop := calcAmongRow.holds Try.pinned (OpenSpec.ofChange calcAmongWrong)

/-- 'pappuslaw01.CalcDivides': WHATEVER THE INPUT: true; the input reads as it did. -/
def calcDividesSpec : ChangeSpec := { name := "calcDivides", fn := fun _ => fun
  | [d1, d2, d3] => { results := [.lit (.bool true)], args := [d1, d2, d3] }
  | _ => none }
def calcDividesRow : OpenClaim := { program := "ytggekibapfhcdaa", sum := "f71f971d89c8239fbcb57a8d8e06ca69b1070dbdaf1c27caee586113ca86d4ba", func := "pappus/pappuslaw01.CalcDivides", spec := "calcDivides", inPlace := ["math/bits.Add64"], named := ["math/bits.divideError", "math/bits.overflowError"], apart := false }
def CalcDividesSaid : Prop := calcDividesRow.holds Try.pinned (OpenSpec.ofChange calcDividesSpec)

/-- ITS FALSE NEIGHBOUR: 'it returns false'. Refute it at one input. -/
def calcDividesWrong : ChangeSpec := { name := "calcDivides", fn := fun _ => fun
  | [d1, d2, d3] => { results := [.lit (.bool false)], args := [d1, d2, d3] }
  | _ => none }
def CalcDividesWrongFalsely : Prop := calcDividesRow.holds Try.pinned (OpenSpec.ofChange calcDividesWrong)

/-- 'pappuslaw01.CalcNeeds': WHATEVER THE INPUT: true; the input reads as it did. -/
def calcNeedsSpec : ChangeSpec := { name := "calcNeeds", fn := fun _ => fun
  | [d1, d2] => { results := [.lit (.bool true)], args := [d1, d2] }
  | _ => none }
def calcNeedsRow : OpenClaim := { program := "ytggekibapfhcdaa", sum := "f71f971d89c8239fbcb57a8d8e06ca69b1070dbdaf1c27caee586113ca86d4ba", func := "pappus/pappuslaw01.CalcNeeds", spec := "calcNeeds", inPlace := ["math/bits.Add64"], named := ["math/bits.divideError", "math/bits.overflowError"], apart := false }
def CalcNeedsSaid : Prop := calcNeedsRow.holds Try.pinned (OpenSpec.ofChange calcNeedsSpec)

/-- ITS FALSE NEIGHBOUR: 'it returns false'. Refute it at one input. -/
def calcNeedsWrong : ChangeSpec := { name := "calcNeeds", fn := fun _ => fun
  | [d1, d2] => { results := [.lit (.bool false)], args := [d1, d2] }
  | _ => none }
def CalcNeedsWrongFalsely : Prop := calcNeedsRow.holds Try.pinned (OpenSpec.ofChange calcNeedsWrong)

/- THE SECOND FORM. 'bulk': how many values and letters a reading holds, each counted each time it is reached (what is shared counts as often as it is met; a slice's spare places count too). A statement '..UptoSaid' is the law's where the arguments, and the package variables that the reading takes, are together of bulk at most 1048576: NARROWER than '..Said'. Prove '..Said' where nothing that the law and all that it calls make is longer than what came in: it says more and counts as full. Else prove '..UptoSaid'. A law counts once. -/
mutual
def uptoBulk {H : Type} : DataW H → Nat
  | .lit (.string bytes) => bytes.length + 1
  | .lit _ => 1
  | .nil => 1
  | .ptr d => uptoBulk d + 1
  | .slice elems spare => uptoBulkAll elems + uptoBulkAll spare + 1
  | .agg parts => uptoBulkAll parts + 1
  | .iface _ d => uptoBulk d + 1
  | .map entries => uptoBulkEntries entries + 1
  | .held _ => 1
def uptoBulkAll {H : Type} : List (DataW H) → Nat
  | [] => 0
  | d :: r => uptoBulk d + uptoBulkAll r
def uptoBulkEntries {H : Type} : List (Lit × DataW H) → Nat
  | [] => 0
  | x :: r => uptoBulkEntry x + uptoBulkEntries r
def uptoBulkEntry {H : Type} : Lit × DataW H → Nat
  | (.string bytes, d) => bytes.length + uptoBulk d + 1
  | (_, d) => uptoBulk d + 1
 end
def uptoSmall : (H : Type) → List (DataW H) → Bool := fun _ ds => decide (uptoBulkAll ds ≤ 1048576)
def OpenSpec.upto (s : _root_.Go.ChangeSpec) : _root_.Go.OpenSpec := { _root_.Go.OpenSpec.ofChange s with cond := some uptoSmall }

/-- 'pappuslaw01.CalcSums', WHERE WHAT IT READS IS OF BULK AT MOST 1048576: true; the input reads as it did. -/
def calcSumsUptoRow : OpenClaim := { program := "ytggekibapfhcdaa", sum := "f71f971d89c8239fbcb57a8d8e06ca69b1070dbdaf1c27caee586113ca86d4ba", func := "pappus/pappuslaw01.CalcSums", spec := "calcSums", inPlace := ["math/bits.Add64"], named := ["math/bits.divideError", "math/bits.overflowError"], apart := false, narrowed := true }
def CalcSumsUptoSaid : Prop := calcSumsUptoRow.holds Try.pinned (OpenSpec.upto calcSumsSpec)

/-- 'pappuslaw01.CalcParts', WHERE WHAT IT READS IS OF BULK AT MOST 1048576: true; the input reads as it did. -/
def calcPartsUptoRow : OpenClaim := { program := "ytggekibapfhcdaa", sum := "f71f971d89c8239fbcb57a8d8e06ca69b1070dbdaf1c27caee586113ca86d4ba", func := "pappus/pappuslaw01.CalcParts", spec := "calcParts", inPlace := ["math/bits.Add64"], named := ["math/bits.divideError", "math/bits.overflowError"], apart := false, narrowed := true }
def CalcPartsUptoSaid : Prop := calcPartsUptoRow.holds Try.pinned (OpenSpec.upto calcPartsSpec)

/-- 'pappuslaw01.CalcCross', WHERE WHAT IT READS IS OF BULK AT MOST 1048576: true; the input reads as it did. -/
def calcCrossUptoRow : OpenClaim := { program := "ytggekibapfhcdaa", sum := "f71f971d89c8239fbcb57a8d8e06ca69b1070dbdaf1c27caee586113ca86d4ba", func := "pappus/pappuslaw01.CalcCross", spec := "calcCross", inPlace := ["math/bits.Add64"], named := ["math/bits.divideError", "math/bits.overflowError"], apart := false, narrowed := true }
def CalcCrossUptoSaid : Prop := calcCrossUptoRow.holds Try.pinned (OpenSpec.upto calcCrossSpec)

/-- 'pappuslaw01.CalcAmong', WHERE WHAT IT READS IS OF BULK AT MOST 1048576: true; the input reads as it did. -/
def calcAmongUptoRow : OpenClaim := { program := "ytggekibapfhcdaa", sum := "f71f971d89c8239fbcb57a8d8e06ca69b1070dbdaf1c27caee586113ca86d4ba", func := "pappus/pappuslaw01.CalcAmong", spec := "calcAmong", inPlace := ["math/bits.Add64"], named := ["math/bits.divideError", "math/bits.overflowError"], apart := false, narrowed := true }
def CalcAmongUptoSaid : Prop := calcAmongUptoRow.holds Try.pinned (OpenSpec.upto calcAmongSpec)

/-- 'pappuslaw01.CalcDivides', WHERE WHAT IT READS IS OF BULK AT MOST 1048576: true; the input reads as it did. -/
def calcDividesUptoRow : OpenClaim := { program := "ytggekibapfhcdaa", sum := "f71f971d89c8239fbcb57a8d8e06ca69b1070dbdaf1c27caee586113ca86d4ba", func := "pappus/pappuslaw01.CalcDivides", spec := "calcDivides", inPlace := ["math/bits.Add64"], named := ["math/bits.divideError", "math/bits.overflowError"], apart := false, narrowed := true }
def CalcDividesUptoSaid : Prop := calcDividesUptoRow.holds Try.pinned (OpenSpec.upto calcDividesSpec)

/-- 'pappuslaw01.CalcNeeds', WHERE WHAT IT READS IS OF BULK AT MOST 1048576: true; the input reads as it did. -/
def calcNeedsUptoRow : OpenClaim := { program := "ytggekibapfhcdaa", sum := "f71f971d89c8239fbcb57a8d8e06ca69b1070dbdaf1c27caee586113ca86d4ba", func := "pappus/pappuslaw01.CalcNeeds", spec := "calcNeeds", inPlace := ["math/bits.Add64"], named := ["math/bits.divideError", "math/bits.overflowError"], apart := false, narrowed := true }
def CalcNeedsUptoSaid : Prop := calcNeedsUptoRow.holds Try.pinned (OpenSpec.upto calcNeedsSpec)

end Rows
end Go.Proofs.Ytggekibapfhcdaa
