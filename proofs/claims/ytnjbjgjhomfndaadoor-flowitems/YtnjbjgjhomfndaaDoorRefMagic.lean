/-
  What pappusref05.Magic answers at this program.
-/
import Derived.Test.YtnjbjgjhomfndaaDoorFrPure
import Derived.Test.YtnjbjgjhomfndaaDoorKit
namespace Go.Proofs.YtnjbjgjhomfndaaDoor
open Go.RowKit

theorem rmagic_any (w : World) :
    Calls Tryd.prog 43 #[] w fun e w' => e = .returned (.slice (some ⟨w.heap.size, 0, none⟩) 4 4) ∧ w' = w.alloc (.cells #[.int .u8 196, .int .u8 240, .int .u8 122, .int .u8 30] 5) := by
  go_enter Tryd.func43, Tryd.ntmps43
  go_wp2
  go_ret
  exact ⟨rfl, rfl⟩
theorem rmagic_own (w : World) (base : Nat) (hb : base ≤ w.heap.size) : Own (w.alloc (.cells #[.int .u8 196, .int .u8 240, .int .u8 122, .int .u8 30] 5)) base (.slice (some ⟨w.heap.size, 0, none⟩) 4 4) magicL :=
  World.ownsRow_lit w #[.int .u8 196, .int .u8 240, .int .u8 122, .int .u8 30] 4 hb (by simp [maxLen]) (by simp)

end Go.Proofs.YtnjbjgjhomfndaaDoor
