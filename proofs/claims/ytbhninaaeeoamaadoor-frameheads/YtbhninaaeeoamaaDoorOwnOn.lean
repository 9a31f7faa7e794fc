/-
  A row of the call's own stays while old memory stays. Nothing here speaks of one function.
-/
import Derived.Test.YtbhninaaeeoamaaDoorOwn
namespace Go.Proofs.YtbhninaaeeoamaaDoor
open Go.RowKit

theorem Own.on {w w' : World} {base : Nat} {v : Value} {l : List Int} (h : Own w base v l) (hb : Below w.heap.size w w') : Own w' base v l := by
  refine ⟨h.1, ?_⟩
  rcases h.2 with h0 | ⟨g, cap, cur, e, hbg, hg, rest⟩
  · exact .inl h0
  · exact .inr ⟨g, cap, cur, e, hbg, (hb.block g (Array.getElem?_eq_some_iff.1 hg).1).trans hg, rest⟩

end Go.Proofs.YtbhninaaeeoamaaDoor
