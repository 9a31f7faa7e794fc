/-
  An input's point among its cells.
-/
import Derived.Test.YtjmifgdjmaelfaaDoorTxEql
import Derived.Test.YtjmifgdjmaelfaaDoorTxForm
import Derived.Test.YtjmifgdjmaelfaaDoorTxGt
import Derived.Test.YtjmifgdjmaelfaaDoorTxWr
namespace Go.Proofs.YtjmifgdjmaelfaaDoor
open Go.RowKit

theorem inC_pt (x : TIn × Value) : inC x = ptC x.1.tx x.1.n ++ [x.2] := by simp [inC, ptC]
theorem inC_range {w : World} {b o : Nat} {x : TIn × Value} (h : w.rangeAt b o (inC x)) (hl : x.1.tx.length = 32) : w.rangeAt b o (ptC x.1.tx x.1.n) ∧ w.cell? ⟨b, o + 33, none⟩ = some x.2 := by
  refine ⟨?_, (inC_key h hl).1⟩
  rw [inC_pt] at h
  exact range_left h

end Go.Proofs.YtjmifgdjmaelfaaDoor
