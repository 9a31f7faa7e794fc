/-
  What a block holds, where the block is as it was. Nothing here speaks of one function.
-/
import Derived.Test.YtbeegcpmpgdbnabDoorRowS
namespace Go.Proofs.YtbeegcpmpgdbnabDoor
open Go.RowKit

theorem there_heap {w w' : World} {b o n : Nat} (h : w.there b o n) (e : w'.heap[b]? = w.heap[b]?) : w'.there b o n := fun j hj => by
  rw [World.cell?_of_block (w := w) (a := ⟨b, o + j, none⟩) e, World.frozen?_of_block (w := w) (a := ⟨b, o + j, none⟩) e]
  exact h j hj
theorem range_heap {w w' : World} {b o : Nat} {c : List Value} (h : w.rangeAt b o c) (e : w'.heap[b]? = w.heap[b]?) : w'.rangeAt b o c := fun j v hv => by
  rw [World.cell?_of_block (w := w) (a := ⟨b, o + j, none⟩) e]
  exact h j v hv

end Go.Proofs.YtbeegcpmpgdbnabDoor
