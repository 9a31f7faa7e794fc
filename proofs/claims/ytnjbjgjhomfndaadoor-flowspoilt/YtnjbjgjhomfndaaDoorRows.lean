/-
  NARROWER THAN 'FOR EVERY INPUT', by the rows' own cells (each row's printed sentence says how): FlowItems: laid · FlowPieces: laid · FlowBack: laid · FlowSpoilt: laid · FlowDies: laid · FlowHolds: laid.
  DERIVED. THE GIVEN ROWS OF THIS SEAT. 6 by the template 'for every input the law returns true; each argument reads behind the call as it read before'; 0 by the template 'total and deterministic' (their statements: YtnjbjgjhomfndaaDoorTotals.lean).
  GIVEN WITH THE SEED: the statements are not yours to turn. If you find one false, say at which input.
  Laid BY PROGRAM, IN A SANDBOX (cutbox-rows.mjs): the forced cells as the released guide's own fill.sh prints them over the translation ddbbe7b93b9065e5… (all of the seat's roots in one cut). By AI agents, Wed Nov 11 2026. No macro, syntax, notation, axiom, sorry.
-/
import Derived.Test.YtnjbjgjhomfndaaDoorChecked
import GoSem.PinnedTables
import GoSem.Claim
import GoSem.ClaimJoined
import GoSem.ClaimMapViews
import Derived.JoinedTies
import Derived.KernelRfl
namespace Go.Proofs.YtnjbjgjhomfndaaDoor
/- THE CELL 'sum', in the pinned program and in every row, IS THE sha256 OF THE DUMP (.gsa) THAT YtnjbjgjhomfndaaDoorProg.lean LOADS. Nothing in Lean hashes anything: it is a label: what it is worth is what the hold of that sum in a sandbox is worth. -/
noncomputable def Tryd.pinned : Pinned := { name := "ytnjbjgjhomfndaadoor", sum := "ddbbe7b93b9065e56ffc3d821099c653f54fd7748d0580c39fbdfa0f034459ad", checked := Tryd.checked }
namespace Rows
def none {H : Type} : Left H := { results := [], args := [] }

/- WHAT THE LISTED PACKAGE-LEVEL VARIABLES READ AS WHEN THE CALL BEGINS. Each datum BY PROGRAM (the guide's laid-datum.mjs) off the statement by which the dump's own 'gosem.cut.vars' lays the variable. In a bare row this is a premise. The card (YtnjbjgjhomfndaaDoorCards.lean) ties it to the program's text. -/
def laid_pappus_sha_constants {H : Type} : DataW H := .agg [.lit (.int .u32 1116352408), .lit (.int .u32 1899447441), .lit (.int .u32 3049323471), .lit (.int .u32 3921009573), .lit (.int .u32 961987163), .lit (.int .u32 1508970993), .lit (.int .u32 2453635748), .lit (.int .u32 2870763221), .lit (.int .u32 3624381080), .lit (.int .u32 310598401), .lit (.int .u32 607225278), .lit (.int .u32 1426881987), .lit (.int .u32 1925078388), .lit (.int .u32 2162078206), .lit (.int .u32 2614888103), .lit (.int .u32 3248222580), .lit (.int .u32 3835390401), .lit (.int .u32 4022224774), .lit (.int .u32 264347078), .lit (.int .u32 604807628), .lit (.int .u32 770255983), .lit (.int .u32 1249150122), .lit (.int .u32 1555081692), .lit (.int .u32 1996064986), .lit (.int .u32 2554220882), .lit (.int .u32 2821834349), .lit (.int .u32 2952996808), .lit (.int .u32 3210313671), .lit (.int .u32 3336571891), .lit (.int .u32 3584528711), .lit (.int .u32 113926993), .lit (.int .u32 338241895), .lit (.int .u32 666307205), .lit (.int .u32 773529912), .lit (.int .u32 1294757372), .lit (.int .u32 1396182291), .lit (.int .u32 1695183700), .lit (.int .u32 1986661051), .lit (.int .u32 2177026350), .lit (.int .u32 2456956037), .lit (.int .u32 2730485921), .lit (.int .u32 2820302411), .lit (.int .u32 3259730800), .lit (.int .u32 3345764771), .lit (.int .u32 3516065817), .lit (.int .u32 3600352804), .lit (.int .u32 4094571909), .lit (.int .u32 275423344), .lit (.int .u32 430227734), .lit (.int .u32 506948616), .lit (.int .u32 659060556), .lit (.int .u32 883997877), .lit (.int .u32 958139571), .lit (.int .u32 1322822218), .lit (.int .u32 1537002063), .lit (.int .u32 1747873779), .lit (.int .u32 1955562222), .lit (.int .u32 2024104815), .lit (.int .u32 2227730452), .lit (.int .u32 2361852424), .lit (.int .u32 2428436474), .lit (.int .u32 2756734187), .lit (.int .u32 3204031479), .lit (.int .u32 3329325298)]
def laid_unicode_utf8_acceptRanges {H : Type} : DataW H := .agg [.agg [.lit (.int .u8 128), .lit (.int .u8 191)], .agg [.lit (.int .u8 160), .lit (.int .u8 191)], .agg [.lit (.int .u8 128), .lit (.int .u8 159)], .agg [.lit (.int .u8 144), .lit (.int .u8 191)], .agg [.lit (.int .u8 128), .lit (.int .u8 143)], .agg [.lit (.int .u8 0), .lit (.int .u8 0)], .agg [.lit (.int .u8 0), .lit (.int .u8 0)], .agg [.lit (.int .u8 0), .lit (.int .u8 0)], .agg [.lit (.int .u8 0), .lit (.int .u8 0)], .agg [.lit (.int .u8 0), .lit (.int .u8 0)], .agg [.lit (.int .u8 0), .lit (.int .u8 0)], .agg [.lit (.int .u8 0), .lit (.int .u8 0)], .agg [.lit (.int .u8 0), .lit (.int .u8 0)], .agg [.lit (.int .u8 0), .lit (.int .u8 0)], .agg [.lit (.int .u8 0), .lit (.int .u8 0)], .agg [.lit (.int .u8 0), .lit (.int .u8 0)]]
/-- One of Go's own tables, pinned by name: the form's constant. -/
def laid_unicode_utf8_first : DataW Unit := Go.Pinned.utf8First

/-- 'pappuslaw06.FlowItems': WHATEVER THE INPUT: true; the input reads as it did. -/
def flowItemsSpec : ChangeSpec := { name := "flowItems", fn := fun _ => fun
  | [d] => { results := [.lit (.bool true)], args := [d] }
  | _ => none }
def flowItemsRow : OpenClaim := { program := "ytnjbjgjhomfndaadoor", sum := "ddbbe7b93b9065e56ffc3d821099c653f54fd7748d0580c39fbdfa0f034459ad", func := "pappus/pappuslaw06.FlowItems", spec := "flowItems", named := ["pappus/sha.constants", "unicode/utf8.first", "unicode/utf8.acceptRanges"], apart := false, laid := [("pappus/sha.constants", laid_pappus_sha_constants), ("unicode/utf8.acceptRanges", laid_unicode_utf8_acceptRanges), ("unicode/utf8.first", laid_unicode_utf8_first)] }
def FlowItemsSaid : Prop := flowItemsRow.holds Tryd.pinned (OpenSpec.ofChange flowItemsSpec)

/-- ITS FALSE NEIGHBOUR: 'it returns false'. Refute it at one input. -/
def flowItemsWrong : ChangeSpec := { name := "flowItems", fn := fun _ => fun
  | [d] => { results := [.lit (.bool false)], args := [d] }
  | _ => none }
def FlowItemsWrongFalsely : Prop := flowItemsRow.holds Tryd.pinned (OpenSpec.ofChange flowItemsWrong)

/-- 'pappuslaw06.FlowPieces': WHATEVER THE INPUT: true; the input reads as it did. -/
def flowPiecesSpec : ChangeSpec := { name := "flowPieces", fn := fun _ => fun
  | [d1, d2] => { results := [.lit (.bool true)], args := [d1, d2] }
  | _ => none }
def flowPiecesRow : OpenClaim := { program := "ytnjbjgjhomfndaadoor", sum := "ddbbe7b93b9065e56ffc3d821099c653f54fd7748d0580c39fbdfa0f034459ad", func := "pappus/pappuslaw06.FlowPieces", spec := "flowPieces", named := ["pappus/sha.constants", "unicode/utf8.first", "unicode/utf8.acceptRanges"], apart := false, laid := [("pappus/sha.constants", laid_pappus_sha_constants), ("unicode/utf8.acceptRanges", laid_unicode_utf8_acceptRanges), ("unicode/utf8.first", laid_unicode_utf8_first)] }
def FlowPiecesSaid : Prop := flowPiecesRow.holds Tryd.pinned (OpenSpec.ofChange flowPiecesSpec)

/-- ITS FALSE NEIGHBOUR: 'it returns false'. Refute it at one input. -/
def flowPiecesWrong : ChangeSpec := { name := "flowPieces", fn := fun _ => fun
  | [d1, d2] => { results := [.lit (.bool false)], args := [d1, d2] }
  | _ => none }
def FlowPiecesWrongFalsely : Prop := flowPiecesRow.holds Tryd.pinned (OpenSpec.ofChange flowPiecesWrong)

/-- 'pappuslaw06.FlowBack': WHATEVER THE INPUT: true; the input reads as it did. -/
def flowBackSpec : ChangeSpec := { name := "flowBack", fn := fun _ => fun
  | [d1, d2] => { results := [.lit (.bool true)], args := [d1, d2] }
  | _ => none }
def flowBackRow : OpenClaim := { program := "ytnjbjgjhomfndaadoor", sum := "ddbbe7b93b9065e56ffc3d821099c653f54fd7748d0580c39fbdfa0f034459ad", func := "pappus/pappuslaw06.FlowBack", spec := "flowBack", named := ["pappus/sha.constants", "unicode/utf8.first", "unicode/utf8.acceptRanges"], apart := false, laid := [("pappus/sha.constants", laid_pappus_sha_constants), ("unicode/utf8.acceptRanges", laid_unicode_utf8_acceptRanges), ("unicode/utf8.first", laid_unicode_utf8_first)] }
def FlowBackSaid : Prop := flowBackRow.holds Tryd.pinned (OpenSpec.ofChange flowBackSpec)

/-- ITS FALSE NEIGHBOUR: 'it returns false'. Refute it at one input. -/
def flowBackWrong : ChangeSpec := { name := "flowBack", fn := fun _ => fun
  | [d1, d2] => { results := [.lit (.bool false)], args := [d1, d2] }
  | _ => none }
def FlowBackWrongFalsely : Prop := flowBackRow.holds Tryd.pinned (OpenSpec.ofChange flowBackWrong)

/-- 'pappuslaw06.FlowSpoilt': WHATEVER THE INPUT: true; the input reads as it did. -/
def flowSpoiltSpec : ChangeSpec := { name := "flowSpoilt", fn := fun _ => fun
  | [d1, d2] => { results := [.lit (.bool true)], args := [d1, d2] }
  | _ => none }
def flowSpoiltRow : OpenClaim := { program := "ytnjbjgjhomfndaadoor", sum := "ddbbe7b93b9065e56ffc3d821099c653f54fd7748d0580c39fbdfa0f034459ad", func := "pappus/pappuslaw06.FlowSpoilt", spec := "flowSpoilt", named := ["pappus/sha.constants", "unicode/utf8.first", "unicode/utf8.acceptRanges"], apart := false, laid := [("pappus/sha.constants", laid_pappus_sha_constants), ("unicode/utf8.acceptRanges", laid_unicode_utf8_acceptRanges), ("unicode/utf8.first", laid_unicode_utf8_first)] }
def FlowSpoiltSaid : Prop := flowSpoiltRow.holds Tryd.pinned (OpenSpec.ofChange flowSpoiltSpec)

/-- ITS FALSE NEIGHBOUR: 'it returns false'. Refute it at one input. -/
def flowSpoiltWrong : ChangeSpec := { name := "flowSpoilt", fn := fun _ => fun
  | [d1, d2] => { results := [.lit (.bool false)], args := [d1, d2] }
  | _ => none }
def FlowSpoiltWrongFalsely : Prop := flowSpoiltRow.holds Tryd.pinned (OpenSpec.ofChange flowSpoiltWrong)

/-- 'pappuslaw06.FlowDies': WHATEVER THE INPUT: true; the input reads as it did. -/
def flowDiesSpec : ChangeSpec := { name := "flowDies", fn := fun _ => fun
  | [d1, d2, d3] => { results := [.lit (.bool true)], args := [d1, d2, d3] }
  | _ => none }
def flowDiesRow : OpenClaim := { program := "ytnjbjgjhomfndaadoor", sum := "ddbbe7b93b9065e56ffc3d821099c653f54fd7748d0580c39fbdfa0f034459ad", func := "pappus/pappuslaw06.FlowDies", spec := "flowDies", named := ["pappus/sha.constants", "unicode/utf8.first", "unicode/utf8.acceptRanges"], apart := false, laid := [("pappus/sha.constants", laid_pappus_sha_constants), ("unicode/utf8.acceptRanges", laid_unicode_utf8_acceptRanges), ("unicode/utf8.first", laid_unicode_utf8_first)] }
def FlowDiesSaid : Prop := flowDiesRow.holds Tryd.pinned (OpenSpec.ofChange flowDiesSpec)

/-- ITS FALSE NEIGHBOUR: 'it returns false'. Refute it at one input. -/
def flowDiesWrong : ChangeSpec := { name := "flowDies", fn := fun _ => fun
  | [d1, d2, d3] => { results := [.lit (.bool false)], args := [d1, d2, d3] }
  | _ => none }
def FlowDiesWrongFalsely : Prop := flowDiesRow.holds Tryd.pinned (OpenSpec.ofChange flowDiesWrong)

/-- 'pappuslaw06.FlowHolds': WHATEVER THE INPUT: true; the input reads as it did. -/
def flowHoldsSpec : ChangeSpec := { name := "flowHolds", fn := fun _ => fun
  | [d] => { results := [.lit (.bool true)], args := [d] }
  | _ => none }
def flowHoldsRow : OpenClaim := { program := "ytnjbjgjhomfndaadoor", sum := "ddbbe7b93b9065e56ffc3d821099c653f54fd7748d0580c39fbdfa0f034459ad", func := "pappus/pappuslaw06.FlowHolds", spec := "flowHolds", named := ["pappus/sha.constants", "unicode/utf8.first", "unicode/utf8.acceptRanges"], apart := false, laid := [("pappus/sha.constants", laid_pappus_sha_constants), ("unicode/utf8.acceptRanges", laid_unicode_utf8_acceptRanges), ("unicode/utf8.first", laid_unicode_utf8_first)] }
def FlowHoldsSaid : Prop := flowHoldsRow.holds Tryd.pinned (OpenSpec.ofChange flowHoldsSpec)

/-- ITS FALSE NEIGHBOUR: 'it returns false'. Refute it at one input. -/
def flowHoldsWrong : ChangeSpec := { name := "flowHolds", fn := fun _ => fun
  | [d] => { results := [.lit (.bool false)], args := [d] }
  | _ => none }
def FlowHoldsWrongFalsely : Prop := flowHoldsRow.holds Tryd.pinned (OpenSpec.ofChange flowHoldsWrong)

/- THE SECOND FORM. 'bulk': how many values and letters a reading holds, each counted each time it is reached (what is shared counts as often as it is met; a slice's spare places count too). A statement '..UptoSaid' is the law's where the arguments, and the package variables that the reading takes, are together of bulk at most 1048576: NARROWER than '..Said'. Prove '..Said' where nothing that the law and all that it calls make is longer than what came in: it says more and counts as full. Else prove '..UptoSaid'. A law counts once. -/
mutual
def uptoBulk {H : Type} : DataW H → Nat
  | .lit (.string bytes) => bytes.length + 1
  | .lit _ => 1
  | .nil => 1
  | .ptr d => uptoBulk d + 1
  | .slice elems spare => uptoBulkAll elems + uptoBulkAll spare + 1
  | .agg parts => uptoBulkAll parts + 1
  | .iface _ d => uptoBulk d + 1
  | .map entries => uptoBulkEntries entries + 1
  | .held _ => 1
def uptoBulkAll {H : Type} : List (DataW H) → Nat
  | [] => 0
  | d :: r => uptoBulk d + uptoBulkAll r
def uptoBulkEntries {H : Type} : List (Lit × DataW H) → Nat
  | [] => 0
  | x :: r => uptoBulkEntry x + uptoBulkEntries r
def uptoBulkEntry {H : Type} : Lit × DataW H → Nat
  | (.string bytes, d) => bytes.length + uptoBulk d + 1
  | (_, d) => uptoBulk d + 1
 end
def uptoSmall : (H : Type) → List (DataW H) → Bool := fun _ ds => decide (uptoBulkAll ds ≤ 1048576)
def OpenSpec.upto (s : _root_.Go.ChangeSpec) : _root_.Go.OpenSpec := { _root_.Go.OpenSpec.ofChange s with cond := some uptoSmall }

/-- 'pappuslaw06.FlowItems', WHERE WHAT IT READS IS OF BULK AT MOST 1048576: true; the input reads as it did. -/
def flowItemsUptoRow : OpenClaim := { program := "ytnjbjgjhomfndaadoor", sum := "ddbbe7b93b9065e56ffc3d821099c653f54fd7748d0580c39fbdfa0f034459ad", func := "pappus/pappuslaw06.FlowItems", spec := "flowItems", named := ["pappus/sha.constants", "unicode/utf8.first", "unicode/utf8.acceptRanges"], apart := false, laid := [("pappus/sha.constants", laid_pappus_sha_constants), ("unicode/utf8.acceptRanges", laid_unicode_utf8_acceptRanges), ("unicode/utf8.first", laid_unicode_utf8_first)], narrowed := true }
def FlowItemsUptoSaid : Prop := flowItemsUptoRow.holds Tryd.pinned (OpenSpec.upto flowItemsSpec)

/-- 'pappuslaw06.FlowPieces', WHERE WHAT IT READS IS OF BULK AT MOST 1048576: true; the input reads as it did. -/
def flowPiecesUptoRow : OpenClaim := { program := "ytnjbjgjhomfndaadoor", sum := "ddbbe7b93b9065e56ffc3d821099c653f54fd7748d0580c39fbdfa0f034459ad", func := "pappus/pappuslaw06.FlowPieces", spec := "flowPieces", named := ["pappus/sha.constants", "unicode/utf8.first", "unicode/utf8.acceptRanges"], apart := false, laid := [("pappus/sha.constants", laid_pappus_sha_constants), ("unicode/utf8.acceptRanges", laid_unicode_utf8_acceptRanges), ("unicode/utf8.first", laid_unicode_utf8_first)], narrowed := true }
def FlowPiecesUptoSaid : Prop := flowPiecesUptoRow.holds Tryd.pinned (OpenSpec.upto flowPiecesSpec)

/-- 'pappuslaw06.FlowBack', WHERE WHAT IT READS IS OF BULK AT MOST 1048576: true; the input reads as it did. -/
def flowBackUptoRow : OpenClaim := { program := "ytnjbjgjhomfndaadoor", sum := "ddbbe7b93b9065e56ffc3d821099c653f54fd7748d0580c39fbdfa0f034459ad", func := "pappus/pappuslaw06.FlowBack", spec := "flowBack", named := ["pappus/sha.constants", "unicode/utf8.first", "unicode/utf8.acceptRanges"], apart := false, laid := [("pappus/sha.constants", laid_pappus_sha_constants), ("unicode/utf8.acceptRanges", laid_unicode_utf8_acceptRanges), ("unicode/utf8.first", laid_unicode_utf8_first)], narrowed := true }
def FlowBackUptoSaid : Prop := flowBackUptoRow.holds Tryd.pinned (OpenSpec.upto flowBackSpec)

/-- 'pappuslaw06.FlowSpoilt', WHERE WHAT IT READS IS OF BULK AT MOST 1048576: true; the input reads as it did. -/
def flowSpoiltUptoRow : OpenClaim := { program := "ytnjbjgjhomfndaadoor", sum := "ddbbe7b93b9065e56ffc3d821099c653f54fd7748d0580c39fbdfa0f034459ad", func := "pappus/pappuslaw06.FlowSpoilt", spec := "flowSpoilt", named := ["pappus/sha.constants", "unicode/utf8.first", "unicode/utf8.acceptRanges"], apart := false, laid := [("pappus/sha.constants", laid_pappus_sha_constants), ("unicode/utf8.acceptRanges", laid_unicode_utf8_acceptRanges), ("unicode/utf8.first", laid_unicode_utf8_first)], narrowed := true }
def FlowSpoiltUptoSaid : Prop := flowSpoiltUptoRow.holds Tryd.pinned (OpenSpec.upto flowSpoiltSpec)

/-- 'pappuslaw06.FlowDies', WHERE WHAT IT READS IS OF BULK AT MOST 1048576: true; the input reads as it did. -/
def flowDiesUptoRow : OpenClaim := { program := "ytnjbjgjhomfndaadoor", sum := "ddbbe7b93b9065e56ffc3d821099c653f54fd7748d0580c39fbdfa0f034459ad", func := "pappus/pappuslaw06.FlowDies", spec := "flowDies", named := ["pappus/sha.constants", "unicode/utf8.first", "unicode/utf8.acceptRanges"], apart := false, laid := [("pappus/sha.constants", laid_pappus_sha_constants), ("unicode/utf8.acceptRanges", laid_unicode_utf8_acceptRanges), ("unicode/utf8.first", laid_unicode_utf8_first)], narrowed := true }
def FlowDiesUptoSaid : Prop := flowDiesUptoRow.holds Tryd.pinned (OpenSpec.upto flowDiesSpec)

/-- 'pappuslaw06.FlowHolds', WHERE WHAT IT READS IS OF BULK AT MOST 1048576: true; the input reads as it did. -/
def flowHoldsUptoRow : OpenClaim := { program := "ytnjbjgjhomfndaadoor", sum := "ddbbe7b93b9065e56ffc3d821099c653f54fd7748d0580c39fbdfa0f034459ad", func := "pappus/pappuslaw06.FlowHolds", spec := "flowHolds", named := ["pappus/sha.constants", "unicode/utf8.first", "unicode/utf8.acceptRanges"], apart := false, laid := [("pappus/sha.constants", laid_pappus_sha_constants), ("unicode/utf8.acceptRanges", laid_unicode_utf8_acceptRanges), ("unicode/utf8.first", laid_unicode_utf8_first)], narrowed := true }
def FlowHoldsUptoSaid : Prop := flowHoldsUptoRow.holds Tryd.pinned (OpenSpec.upto flowHoldsSpec)

end Rows
end Go.Proofs.YtnjbjgjhomfndaaDoor
