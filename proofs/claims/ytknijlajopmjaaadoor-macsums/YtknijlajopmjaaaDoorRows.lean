/-
  NARROWER THAN 'FOR EVERY INPUT', by the rows' own cells (each row's printed sentence says how): MacSums: laid · MacRoutes: laid · MacNested: laid · MacLong: laid · MacSame: laid · MacPicks: laid.
  DERIVED. THE GIVEN ROWS OF THIS SEAT. 6 by the template 'for every input the law returns true; each argument reads behind the call as it read before'; 0 by the template 'total and deterministic' (their statements: YtknijlajopmjaaaDoorTotals.lean).
  GIVEN WITH THE SEED: the statements are not yours to turn. If you find one false, say at which input.
  Laid BY PROGRAM, IN A SANDBOX (cutbox-rows.mjs): the forced cells as the released guide's own fill.sh prints them over the translation 6724f3fc555e8d2f… (all of the seat's roots in one cut). By AI agents, Wed Nov 11 2026. No macro, syntax, notation, axiom, sorry.
-/
import Derived.Test.YtknijlajopmjaaaDoorChecked
import GoSem.Claim
import GoSem.ClaimJoined
import GoSem.ClaimMapViews
import Derived.JoinedTies
import Derived.KernelRfl
namespace Go.Proofs.YtknijlajopmjaaaDoor
/- THE CELL 'sum', in the pinned program and in every row, IS THE sha256 OF THE DUMP (.gsa) THAT YtknijlajopmjaaaDoorProg.lean LOADS. Nothing in Lean hashes anything: it is a label: what it is worth is what the hold of that sum in a sandbox is worth. -/
noncomputable def Tryd.pinned : Pinned := { name := "ytknijlajopmjaaadoor", sum := "6724f3fc555e8d2f7b98895bda4bf3c6f0c4e34a8e74474cf99cac9aa4926414", checked := Tryd.checked }
namespace Rows
def none {H : Type} : Left H := { results := [], args := [] }

/- WHAT THE LISTED PACKAGE-LEVEL VARIABLES READ AS WHEN THE CALL BEGINS. Each datum BY PROGRAM (the guide's laid-datum.mjs) off the statement by which the dump's own 'gosem.cut.vars' lays the variable. In a bare row this is a premise. The card (YtknijlajopmjaaaDoorCards.lean) ties it to the program's text. -/
def laid_pappus_sha_constants {H : Type} : DataW H := .agg [.lit (.int .u32 1116352408), .lit (.int .u32 1899447441), .lit (.int .u32 3049323471), .lit (.int .u32 3921009573), .lit (.int .u32 961987163), .lit (.int .u32 1508970993), .lit (.int .u32 2453635748), .lit (.int .u32 2870763221), .lit (.int .u32 3624381080), .lit (.int .u32 310598401), .lit (.int .u32 607225278), .lit (.int .u32 1426881987), .lit (.int .u32 1925078388), .lit (.int .u32 2162078206), .lit (.int .u32 2614888103), .lit (.int .u32 3248222580), .lit (.int .u32 3835390401), .lit (.int .u32 4022224774), .lit (.int .u32 264347078), .lit (.int .u32 604807628), .lit (.int .u32 770255983), .lit (.int .u32 1249150122), .lit (.int .u32 1555081692), .lit (.int .u32 1996064986), .lit (.int .u32 2554220882), .lit (.int .u32 2821834349), .lit (.int .u32 2952996808), .lit (.int .u32 3210313671), .lit (.int .u32 3336571891), .lit (.int .u32 3584528711), .lit (.int .u32 113926993), .lit (.int .u32 338241895), .lit (.int .u32 666307205), .lit (.int .u32 773529912), .lit (.int .u32 1294757372), .lit (.int .u32 1396182291), .lit (.int .u32 1695183700), .lit (.int .u32 1986661051), .lit (.int .u32 2177026350), .lit (.int .u32 2456956037), .lit (.int .u32 2730485921), .lit (.int .u32 2820302411), .lit (.int .u32 3259730800), .lit (.int .u32 3345764771), .lit (.int .u32 3516065817), .lit (.int .u32 3600352804), .lit (.int .u32 4094571909), .lit (.int .u32 275423344), .lit (.int .u32 430227734), .lit (.int .u32 506948616), .lit (.int .u32 659060556), .lit (.int .u32 883997877), .lit (.int .u32 958139571), .lit (.int .u32 1322822218), .lit (.int .u32 1537002063), .lit (.int .u32 1747873779), .lit (.int .u32 1955562222), .lit (.int .u32 2024104815), .lit (.int .u32 2227730452), .lit (.int .u32 2361852424), .lit (.int .u32 2428436474), .lit (.int .u32 2756734187), .lit (.int .u32 3204031479), .lit (.int .u32 3329325298)]

/-- 'pappuslaw04.MacSums': WHATEVER THE INPUT: true; the input reads as it did. -/
def macSumsSpec : ChangeSpec := { name := "macSums", fn := fun _ => fun
  | [d1, d2] => { results := [.lit (.bool true)], args := [d1, d2] }
  | _ => none }
def macSumsRow : OpenClaim := { program := "ytknijlajopmjaaadoor", sum := "6724f3fc555e8d2f7b98895bda4bf3c6f0c4e34a8e74474cf99cac9aa4926414", func := "pappus/pappuslaw04.MacSums", spec := "macSums", named := ["pappus/sha.constants"], apart := false, laid := [("pappus/sha.constants", laid_pappus_sha_constants)] }
def MacSumsSaid : Prop := macSumsRow.holds Tryd.pinned (OpenSpec.ofChange macSumsSpec)

/-- ITS FALSE NEIGHBOUR: 'it returns false'. Refute it at one input. -/
def macSumsWrong : ChangeSpec := { name := "macSums", fn := fun _ => fun
  | [d1, d2] => { results := [.lit (.bool false)], args := [d1, d2] }
  | _ => none }
def MacSumsWrongFalsely : Prop := macSumsRow.holds Tryd.pinned (OpenSpec.ofChange macSumsWrong)

/-- 'pappuslaw04.MacRoutes': WHATEVER THE INPUT: true; the input reads as it did. -/
def macRoutesSpec : ChangeSpec := { name := "macRoutes", fn := fun _ => fun
  | [d] => { results := [.lit (.bool true)], args := [d] }
  | _ => none }
def macRoutesRow : OpenClaim := { program := "ytknijlajopmjaaadoor", sum := "6724f3fc555e8d2f7b98895bda4bf3c6f0c4e34a8e74474cf99cac9aa4926414", func := "pappus/pappuslaw04.MacRoutes", spec := "macRoutes", named := ["pappus/sha.constants"], apart := false, laid := [("pappus/sha.constants", laid_pappus_sha_constants)] }
def MacRoutesSaid : Prop := macRoutesRow.holds Tryd.pinned (OpenSpec.ofChange macRoutesSpec)

/-- ITS FALSE NEIGHBOUR: 'it returns false'. Refute it at one input. -/
def macRoutesWrong : ChangeSpec := { name := "macRoutes", fn := fun _ => fun
  | [d] => { results := [.lit (.bool false)], args := [d] }
  | _ => none }
def MacRoutesWrongFalsely : Prop := macRoutesRow.holds Tryd.pinned (OpenSpec.ofChange macRoutesWrong)

/-- 'pappuslaw04.MacNested': WHATEVER THE INPUT: true; the input reads as it did. -/
def macNestedSpec : ChangeSpec := { name := "macNested", fn := fun _ => fun
  | [d1, d2, d3] => { results := [.lit (.bool true)], args := [d1, d2, d3] }
  | _ => none }
def macNestedRow : OpenClaim := { program := "ytknijlajopmjaaadoor", sum := "6724f3fc555e8d2f7b98895bda4bf3c6f0c4e34a8e74474cf99cac9aa4926414", func := "pappus/pappuslaw04.MacNested", spec := "macNested", named := ["pappus/sha.constants"], apart := false, laid := [("pappus/sha.constants", laid_pappus_sha_constants)] }
def MacNestedSaid : Prop := macNestedRow.holds Tryd.pinned (OpenSpec.ofChange macNestedSpec)

/-- ITS FALSE NEIGHBOUR: 'it returns false'. Refute it at one input. -/
def macNestedWrong : ChangeSpec := { name := "macNested", fn := fun _ => fun
  | [d1, d2, d3] => { results := [.lit (.bool false)], args := [d1, d2, d3] }
  | _ => none }
def MacNestedWrongFalsely : Prop := macNestedRow.holds Tryd.pinned (OpenSpec.ofChange macNestedWrong)

/-- 'pappuslaw04.MacLong': WHATEVER THE INPUT: true; the input reads as it did. -/
def macLongSpec : ChangeSpec := { name := "macLong", fn := fun _ => fun
  | [d1, d2] => { results := [.lit (.bool true)], args := [d1, d2] }
  | _ => none }
def macLongRow : OpenClaim := { program := "ytknijlajopmjaaadoor", sum := "6724f3fc555e8d2f7b98895bda4bf3c6f0c4e34a8e74474cf99cac9aa4926414", func := "pappus/pappuslaw04.MacLong", spec := "macLong", named := ["pappus/sha.constants"], apart := false, laid := [("pappus/sha.constants", laid_pappus_sha_constants)] }
def MacLongSaid : Prop := macLongRow.holds Tryd.pinned (OpenSpec.ofChange macLongSpec)

/-- ITS FALSE NEIGHBOUR: 'it returns false'. Refute it at one input. -/
def macLongWrong : ChangeSpec := { name := "macLong", fn := fun _ => fun
  | [d1, d2] => { results := [.lit (.bool false)], args := [d1, d2] }
  | _ => none }
def MacLongWrongFalsely : Prop := macLongRow.holds Tryd.pinned (OpenSpec.ofChange macLongWrong)

/-- 'pappuslaw04.MacSame': WHATEVER THE INPUT: true; the input reads as it did. -/
def macSameSpec : ChangeSpec := { name := "macSame", fn := fun _ => fun
  | [d1, d2, d3] => { results := [.lit (.bool true)], args := [d1, d2, d3] }
  | _ => none }
def macSameRow : OpenClaim := { program := "ytknijlajopmjaaadoor", sum := "6724f3fc555e8d2f7b98895bda4bf3c6f0c4e34a8e74474cf99cac9aa4926414", func := "pappus/pappuslaw04.MacSame", spec := "macSame", named := ["pappus/sha.constants"], apart := false, laid := [("pappus/sha.constants", laid_pappus_sha_constants)] }
def MacSameSaid : Prop := macSameRow.holds Tryd.pinned (OpenSpec.ofChange macSameSpec)

/-- ITS FALSE NEIGHBOUR: 'it returns false'. Refute it at one input. -/
def macSameWrong : ChangeSpec := { name := "macSame", fn := fun _ => fun
  | [d1, d2, d3] => { results := [.lit (.bool false)], args := [d1, d2, d3] }
  | _ => none }
def MacSameWrongFalsely : Prop := macSameRow.holds Tryd.pinned (OpenSpec.ofChange macSameWrong)

/-- 'pappuslaw04.MacPicks': WHATEVER THE INPUT: true; the input reads as it did. -/
def macPicksSpec : ChangeSpec := { name := "macPicks", fn := fun _ => fun
  | [d1, d2] => { results := [.lit (.bool true)], args := [d1, d2] }
  | _ => none }
def macPicksRow : OpenClaim := { program := "ytknijlajopmjaaadoor", sum := "6724f3fc555e8d2f7b98895bda4bf3c6f0c4e34a8e74474cf99cac9aa4926414", func := "pappus/pappuslaw04.MacPicks", spec := "macPicks", named := ["pappus/sha.constants"], apart := false, laid := [("pappus/sha.constants", laid_pappus_sha_constants)] }
def MacPicksSaid : Prop := macPicksRow.holds Tryd.pinned (OpenSpec.ofChange macPicksSpec)

/-- ITS FALSE NEIGHBOUR: 'it returns false'. Refute it at one input. -/
def macPicksWrong : ChangeSpec := { name := "macPicks", fn := fun _ => fun
  | [d1, d2] => { results := [.lit (.bool false)], args := [d1, d2] }
  | _ => none }
def MacPicksWrongFalsely : Prop := macPicksRow.holds Tryd.pinned (OpenSpec.ofChange macPicksWrong)

/- THE SECOND FORM. 'bulk': how many values and letters a reading holds, each counted each time it is reached (what is shared counts as often as it is met; a slice's spare places count too). A statement '..UptoSaid' is the law's where the arguments, and the package variables that the reading takes, are together of bulk at most 1048576: NARROWER than '..Said'. Prove '..Said' where nothing that the law and all that it calls make is longer than what came in: it says more and counts as full. Else prove '..UptoSaid'. A law counts once. -/
mutual
def uptoBulk {H : Type} : DataW H → Nat
  | .lit (.string bytes) => bytes.length + 1
  | .lit _ => 1
  | .nil => 1
  | .ptr d => uptoBulk d + 1
  | .slice elems spare => uptoBulkAll elems + uptoBulkAll spare + 1
  | .agg parts => uptoBulkAll parts + 1
  | .iface _ d => uptoBulk d + 1
  | .map entries => uptoBulkEntries entries + 1
  | .held _ => 1
def uptoBulkAll {H : Type} : List (DataW H) → Nat
  | [] => 0
  | d :: r => uptoBulk d + uptoBulkAll r
def uptoBulkEntries {H : Type} : List (Lit × DataW H) → Nat
  | [] => 0
  | x :: r => uptoBulkEntry x + uptoBulkEntries r
def uptoBulkEntry {H : Type} : Lit × DataW H → Nat
  | (.string bytes, d) => bytes.length + uptoBulk d + 1
  | (_, d) => uptoBulk d + 1
 end
def uptoSmall : (H : Type) → List (DataW H) → Bool := fun _ ds => decide (uptoBulkAll ds ≤ 1048576)
def OpenSpec.upto (s : _root_.Go.ChangeSpec) : _root_.Go.OpenSpec := { _root_.Go.OpenSpec.ofChange s with cond := some uptoSmall }

/-- 'pappuslaw04.MacSums', WHERE WHAT IT READS IS OF BULK AT MOST 1048576: true; the input reads as it did. -/
def macSumsUptoRow : OpenClaim := { program := "ytknijlajopmjaaadoor", sum := "6724f3fc555e8d2f7b98895bda4bf3c6f0c4e34a8e74474cf99cac9aa4926414", func := "pappus/pappuslaw04.MacSums", spec := "macSums", named := ["pappus/sha.constants"], apart := false, laid := [("pappus/sha.constants", laid_pappus_sha_constants)], narrowed := true }
def MacSumsUptoSaid : Prop := macSumsUptoRow.holds Tryd.pinned (OpenSpec.upto macSumsSpec)

/-- 'pappuslaw04.MacRoutes', WHERE WHAT IT READS IS OF BULK AT MOST 1048576: true; the input reads as it did. -/
def macRoutesUptoRow : OpenClaim := { program := "ytknijlajopmjaaadoor", sum := "6724f3fc555e8d2f7b98895bda4bf3c6f0c4e34a8e74474cf99cac9aa4926414", func := "pappus/pappuslaw04.MacRoutes", spec := "macRoutes", named := ["pappus/sha.constants"], apart := false, laid := [("pappus/sha.constants", laid_pappus_sha_constants)], narrowed := true }
def MacRoutesUptoSaid : Prop := macRoutesUptoRow.holds Tryd.pinned (OpenSpec.upto macRoutesSpec)

/-- 'pappuslaw04.MacNested', WHERE WHAT IT READS IS OF BULK AT MOST 1048576: true; the input reads as it did. -/
def macNestedUptoRow : OpenClaim := { program := "ytknijlajopmjaaadoor", sum := "6724f3fc555e8d2f7b98895bda4bf3c6f0c4e34a8e74474cf99cac9aa4926414", func := "pappus/pappuslaw04.MacNested", spec := "macNested", named := ["pappus/sha.constants"], apart := false, laid := [("pappus/sha.constants", laid_pappus_sha_constants)], narrowed := true }
def MacNestedUptoSaid : Prop := macNestedUptoRow.holds Tryd.pinned (OpenSpec.upto macNestedSpec)

/-- 'pappuslaw04.MacLong', WHERE WHAT IT READS IS OF BULK AT MOST 1048576: true; the input reads as it did. -/
def macLongUptoRow : OpenClaim := { program := "ytknijlajopmjaaadoor", sum := "6724f3fc555e8d2f7b98895bda4bf3c6f0c4e34a8e74474cf99cac9aa4926414", func := "pappus/pappuslaw04.MacLong", spec := "macLong", named := ["pappus/sha.constants"], apart := false, laid := [("pappus/sha.constants", laid_pappus_sha_constants)], narrowed := true }
def MacLongUptoSaid : Prop := macLongUptoRow.holds Tryd.pinned (OpenSpec.upto macLongSpec)

/-- 'pappuslaw04.MacSame', WHERE WHAT IT READS IS OF BULK AT MOST 1048576: true; the input reads as it did. -/
def macSameUptoRow : OpenClaim := { program := "ytknijlajopmjaaadoor", sum := "6724f3fc555e8d2f7b98895bda4bf3c6f0c4e34a8e74474cf99cac9aa4926414", func := "pappus/pappuslaw04.MacSame", spec := "macSame", named := ["pappus/sha.constants"], apart := false, laid := [("pappus/sha.constants", laid_pappus_sha_constants)], narrowed := true }
def MacSameUptoSaid : Prop := macSameUptoRow.holds Tryd.pinned (OpenSpec.upto macSameSpec)

/-- 'pappuslaw04.MacPicks', WHERE WHAT IT READS IS OF BULK AT MOST 1048576: true; the input reads as it did. -/
def macPicksUptoRow : OpenClaim := { program := "ytknijlajopmjaaadoor", sum := "6724f3fc555e8d2f7b98895bda4bf3c6f0c4e34a8e74474cf99cac9aa4926414", func := "pappus/pappuslaw04.MacPicks", spec := "macPicks", named := ["pappus/sha.constants"], apart := false, laid := [("pappus/sha.constants", laid_pappus_sha_constants)], narrowed := true }
def MacPicksUptoSaid : Prop := macPicksUptoRow.holds Tryd.pinned (OpenSpec.upto macPicksSpec)

end Rows
end Go.Proofs.YtknijlajopmjaaaDoor
