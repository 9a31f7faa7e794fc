/-
  What sha.turn answers at this program.
-/
import Derived.Test.YtbhninaaeeoamabDoorOwn
import Derived.Test.YtbhninaaeeoamabDoorShaPure
namespace Go.Proofs.YtbhninaaeeoamabDoor
open Go.RowKit

theorem turn_any (x : Int) (n : Nat) (w : World) (h2 : 0 < n) (h3 : n < 32) :
    Calls Tryd.prog 43 #[.int .u32 x, .int .u64 n] w fun e w' => e = .returned (.int .u32 (turnI x n)) ∧ w' = w := by
  unfold turnI
  go_enter Tryd.func43, Tryd.ntmps43
  go_wp2
  go_ret
  exact ⟨rfl, rfl⟩
theorem turn_int (x m : Int) (w : World) (h2 : 0 < m) (h3 : m < 32) :
    Calls Tryd.prog 43 #[.int .u32 x, .int .u64 m] w fun e w' => e = .returned (.int .u32 (turnI x m.toNat)) ∧ w' = w := by
  obtain ⟨n, rfl⟩ : ∃ n : Nat, m = n := ⟨m.toNat, by omega⟩
  rw [Int.toNat_natCast]
  exact turn_any x n w (by omega) (by omega)

end Go.Proofs.YtbhninaaeeoamabDoor
