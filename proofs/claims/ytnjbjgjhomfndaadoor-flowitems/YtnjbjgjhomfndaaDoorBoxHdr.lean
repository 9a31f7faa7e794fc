/-
  The document's header in its box.
-/
import Derived.Test.YtnjbjgjhomfndaaDoorKitA
namespace Go.Proofs.YtnjbjgjhomfndaaDoor
open Go.RowKit

theorem box_rhdr (w : World) (c : ByteArray) (n s : Int) : Below w.heap.size w (w.alloc (.cells #[.string c, .int .i64 n, .int .u32 s] 81)) ∧
    ∀ wx, Below (w.alloc (.cells #[.string c, .int .i64 n, .int .u32 s] 81)).heap.size (w.alloc (.cells #[.string c, .int .i64 n, .int .u32 s] 81)) wx →
      wx.cell? ⟨w.heap.size, 0, none⟩ = some (.string c) ∧ wx.cell? ⟨w.heap.size, 1, none⟩ = some (.int .i64 n) ∧ wx.cell? ⟨w.heap.size, 2, none⟩ = some (.int .u32 s) := by
  refine ⟨(Below.refl _ _).alloc (Nat.le_refl _) _, fun wx hb => ?_⟩
  have hr := range_on (range_new w [.string c, .int .i64 n, .int .u32 s] 81) hb
  have h0 := hr 0 _ rfl
  have h1 := hr 1 _ rfl
  have h2 := hr 2 _ rfl
  exact ⟨by simpa using h0, by simpa using h1, by simpa using h2⟩

end Go.Proofs.YtnjbjgjhomfndaaDoor
