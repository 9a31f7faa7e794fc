/-
  A way in memory: a hash, an epoch, a source and a number, in one box. Nothing here speaks of one function.
-/
import Derived.Test.YtknijlajopmjaaaDoorCame
import Derived.Test.YtknijlajopmjaaaDoorShaOne
namespace Go.Proofs.YtknijlajopmjaaaDoor
open Go.RowKit

/-- The cells of a way. -/
def WayAt (w : World) (g : Nat) (salt : List Int) (ep s n : Int) : Prop :=
  w.rangeAt g 0 (vals .u8 salt) ∧ w.cell? ⟨g, 32, none⟩ = some (.int .u64 ep) ∧ w.cell? ⟨g, 33, none⟩ = some (.int .i64 s) ∧ w.cell? ⟨g, 34, none⟩ = some (.int .i64 n)
theorem WayAt.on {w w' : World} {g : Nat} {salt : List Int} {ep s n : Int} (h : WayAt w g salt ep s n) (hb : Below w.heap.size w w') : WayAt w' g salt ep s n := by
  have hg : g < w.heap.size := World.block_lt_of_cell? _ _ h.2.1
  exact ⟨fun j v hv => (hb.cell hg).trans (h.1 j v hv), (hb.cell hg).trans h.2.1, (hb.cell hg).trans h.2.2.1, (hb.cell hg).trans h.2.2.2⟩
theorem way_box (w : World) (salt : List Int) (ep s n : Int) (t : TypeId) (hl : salt.length = 32) : WayAt (w.alloc (.cells (wayCells salt ep s n).toArray t)) w.heap.size salt ep s n := by
  have hc : ∀ j, (w.alloc (.cells (wayCells salt ep s n).toArray t)).cell? ⟨w.heap.size, j, none⟩ = (wayCells salt ep s n)[j]? := fun j => by
    rw [cell_of_row _ _ _ _ t (0, 0) (heap_alloc_new w _)]
    simp
  have hv : (vals .u8 salt).length = 32 := by rw [vals_length, hl]
  refine ⟨fun j v hj => ?_, ?_, ?_, ?_⟩
  · have hjl := (List.getElem?_eq_some_iff.1 hj).1
    rw [Nat.zero_add, hc, wayCells, List.getElem?_append_left hjl]
    exact hj
  · rw [hc, wayCells, List.getElem?_append_right (by omega), hv]
    rfl
  · rw [hc, wayCells, List.getElem?_append_right (by omega), hv]
    rfl
  · rw [hc, wayCells, List.getElem?_append_right (by omega), hv]
    rfl

end Go.Proofs.YtknijlajopmjaaaDoor
