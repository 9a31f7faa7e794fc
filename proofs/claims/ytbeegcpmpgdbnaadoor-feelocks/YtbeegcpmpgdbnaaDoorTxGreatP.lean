/-
  A transaction greater than is looked at. Nothing here speaks of one function.
-/
import Derived.Test.YtbeegcpmpgdbnaaDoorTxR
namespace Go.Proofs.YtbeegcpmpgdbnaaDoor
open Go.RowKit

/-- Is it greater than is looked at? -/
def greatB (t : Tr) : Bool := !(decide (t.ins.length ≤ 100) && decide (t.outs.length ≤ 100) && t.ins.all fun x => decide (x.key.length ≤ 1000))
theorem greatB_not {t : Tr} (h : greatB t = false) : t.ins.length ≤ 100 ∧ t.outs.length ≤ 100 ∧ ∀ x ∈ t.ins, x.key.length ≤ 1000 := by
  simpa [greatB, and_assoc] using h
def Greating (w : World) (L : List TIn) (i : Value) (wr : World) : Prop := ∃ k : Nat, k ≤ L.length ∧ i = .int .i64 k ∧ Below w.heap.size w wr ∧ ∀ x ∈ L.take k, x.key.length ≤ 1000

end Go.Proofs.YtbeegcpmpgdbnaaDoor
