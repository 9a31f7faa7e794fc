/-
  A row that is gathered; a point's cells.
-/
import Derived.Test.YtjmifgdjmaelfabTxBox
import Derived.Test.YtjmifgdjmaelfabTxStep
import Derived.Test.YtjmifgdjmaelfabTxEql
namespace Go.Proofs.Ytjmifgdjmaelfab
open Go.RowKit

theorem RowOwn.low {w : World} {base base' : Nat} {ty : TypeId} {s : Nat} {v : Value} {C : List (List Value)} (h : RowOwn w base ty s v C) (hb : base' ≤ base) : RowOwn w base' ty s v C := by
  refine ⟨⟨h.1.1, ?_⟩, h.2⟩
  rcases h.1.2 with h0 | ⟨g, cap, cur, e, hbg, hg, rest⟩
  · exact .inl h0
  · exact .inr ⟨g, cap, cur, e, Nat.le_trans hb hbg, hg, rest⟩
theorem ptC_one (tx : List Int) (n : Int) : ∀ u ∈ ptC tx n, u.oneCell' = true := by
  intro u hu
  rcases List.mem_append.1 hu with q | q
  · exact vals_cell _ _ u q
  · obtain rfl := List.mem_singleton.1 q
    rfl

end Go.Proofs.Ytjmifgdjmaelfab
