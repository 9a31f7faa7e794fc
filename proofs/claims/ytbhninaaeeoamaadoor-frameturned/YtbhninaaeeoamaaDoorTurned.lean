/-
  A byte with one bit turned is another one. Nothing here speaks of one function.
-/
import Derived.Test.YtbhninaaeeoamaaDoorOct
import Derived.Laws.BitsAllLaws
namespace Go.Proofs.YtbhninaaeeoamaaDoor

theorem bit_turned : ∀ j : Nat, j < 8 → ∀ n : Nat, n < 256 → bits .xor .u8 (n : Int) (2 ^ j) ≠ (n : Int) := by decide +kernel
theorem byte_turned {z : Int} (h : Byte z) (j : Nat) (hj : j < 8) : bits .xor .u8 z (2 ^ j) ≠ z := by
  obtain ⟨h0, h1⟩ := h
  have := bit_turned j hj z.toNat (by omega)
  rwa [Int.toNat_of_nonneg h0] at this

end Go.Proofs.YtbhninaaeeoamaaDoor
