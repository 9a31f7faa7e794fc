/-
  What pappusref03.turn, constants and Block answer at this program: the plain block.
-/
import Derived.Test.YtbhninaaeeoamaaDoorShaBlock
namespace Go.Proofs.YtbhninaaeeoamaaDoor
open Go.RowKit

theorem rturn_int (x m : Int) (w : World) (h2 : 0 < m) (h3 : m < 32) :
    Calls Tryd.prog 51 #[.int .u32 x, .int .u64 m] w fun e w' => e = .returned (.int .u32 (turnI x m.toNat)) ∧ w' = w := by
  obtain ⟨n, rfl⟩ : ∃ n : Nat, m = n := ⟨m.toNat, by omega⟩
  rw [Int.toNat_natCast]
  have h2 : 0 < n := by omega
  have h3 : n < 32 := by omega
  unfold turnI
  go_enter Tryd.func51, Tryd.ntmps51
  go_wp2
  go_ret
  exact ⟨rfl, rfl⟩
set_option maxRecDepth 100000 in
set_option maxHeartbeats 2000000 in
theorem rconstants_any (w : World) : Calls Tryd.prog 50 #[] w fun e w' => e = .returned (.agg (vals .u32 K).toArray) ∧ Below w.heap.size w w' := by
  go_enter Tryd.func50, Tryd.ntmps50
  go_upto_region 1 with fail
  have HT : Hid ((w.alloc (.cells #[.int .u32 0, .int .u32 0, .int .u32 0, .int .u32 0, .int .u32 0, .int .u32 0, .int .u32 0, .int .u32 0, .int .u32 0, .int .u32 0, .int .u32 0, .int .u32 0, .int .u32 0, .int .u32 0, .int .u32 0, .int .u32 0, .int .u32 0, .int .u32 0, .int .u32 0, .int .u32 0, .int .u32 0, .int .u32 0, .int .u32 0, .int .u32 0, .int .u32 0, .int .u32 0, .int .u32 0, .int .u32 0, .int .u32 0, .int .u32 0, .int .u32 0, .int .u32 0, .int .u32 0, .int .u32 0, .int .u32 0, .int .u32 0, .int .u32 0, .int .u32 0, .int .u32 0, .int .u32 0, .int .u32 0, .int .u32 0, .int .u32 0, .int .u32 0, .int .u32 0, .int .u32 0, .int .u32 0, .int .u32 0, .int .u32 0, .int .u32 0, .int .u32 0, .int .u32 0, .int .u32 0, .int .u32 0, .int .u32 0, .int .u32 0, .int .u32 0, .int .u32 0, .int .u32 0, .int .u32 0, .int .u32 0, .int .u32 0, .int .u32 0, .int .u32 0] 86)).there w.heap.size 0 64) := hide (Arr.new w .u32 (List.replicate 64 0) 86).2
  go_wp2_with (refine wp_store_arr rfl 86 (.tmp 0) (.tmp 1) rfl _ 0 .u32 K rfl rfl 64 HT.out info_w rfl ?_)
  go_outline
  refine ret_arr 0 86 rfl _ 0 rfl .u32 K (Arr.put HT.out) _ Tryd.underlying86 rfl 64 info_w rfl rfl ⟨rfl, below_sets (Nat.le_refl _) _ _ _ ((Below.refl _ _).alloc (Nat.le_refl _) _)⟩

end Go.Proofs.YtbhninaaeeoamaaDoor
