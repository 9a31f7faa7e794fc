/-
  What sha.New and (*sha.Hasher).Len answer at this program.
-/
import Derived.Test.YtllldlpnocnagaaDoorShaApi
namespace Go.Proofs.YtllldlpnocnagaaDoor
open Go.RowKit

theorem new_any (w : World) : Calls Tryd.prog 20 #[] w fun e w' => e = .returned (.pointer (some ⟨w.heap.size, 0, none⟩)) ∧ Hashes w' w.heap.size [] ∧ Below w.heap.size w w' := by
  have hz := zero_hasher.1
  go_enter Tryd.func20, Tryd.ntmps20
  go_wp2
  go_ret
  exact ⟨rfl, Hashes.new w, (Below.refl _ _).alloc (Nat.le_refl _) _⟩
theorem len_any (w : World) (b : Nat) (m : List Int) (h : Hashes w b m) : Calls Tryd.prog 23 #[.pointer (some ⟨b, 0, none⟩)] w fun e w' => e = .returned (.int .u64 m.length) ∧ w' = w := by
  obtain ⟨st, blk, hA, -⟩ := h
  have c0 := hA.1
  clear hA
  go_enter Tryd.func23, Tryd.ntmps23
  go_wp2
  go_ret
  exact ⟨rfl, rfl⟩

end Go.Proofs.YtllldlpnocnagaaDoor
