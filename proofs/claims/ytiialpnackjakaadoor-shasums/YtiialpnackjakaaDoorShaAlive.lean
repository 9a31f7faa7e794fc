/-
  What the layer's alive answers: the document's example.
-/
import Derived.Test.YtiialpnackjakaaDoorEql
import Derived.Lib.SlBytesConst
namespace Go.Proofs.YtiialpnackjakaaDoor
open Go.RowKit

theorem bytes_marked (w : World) : Bytes (w.alloc (.cells #[.int .u8 97, .int .u8 98, .int .u8 99] 5 (3, 4))) (.slice (some ⟨w.heap.size, 0, none⟩) 3 3) [97, 98, 99] := by
  refine ⟨_, _, rfl, Nat.le_refl _, by omega, by simp, fun _ => ⟨_, _, rfl, fun i hi => ?_⟩⟩
  rw [Nat.zero_add, cell_of_row _ _ _ _ 5 (3, 4) (heap_alloc_new w _)]
  rcases (show i = 0 ∨ i = 1 ∨ i = 2 by simp at hi; omega) with rfl | rfl | rfl <;> rfl
set_option maxRecDepth 100000 in
set_option maxHeartbeats 1000000 in
theorem alive_any (w : World) (hk : Ks w) : Calls Tryd.prog 5 #[] w fun e w' => e = .returned (.bool true) ∧ Below w.heap.size w w' := by
  have HK := hide hk
  have CV := fun (wx : World) (C : Array Value) (n c : Nat) => Lib.run_convert_bytes_const (P := Tryd.prog) wx 25 5 C n c Tryd.underlying25 Tryd.underlying5
  have EQ : ∀ w, (Op.equalIn 10000 28 (.agg (vals .u8 (digest [97, 98, 99])).toArray) (.agg #[.int .u8 186, .int .u8 120, .int .u8 22, .int .u8 191, .int .u8 143, .int .u8 1, .int .u8 207, .int .u8 234, .int .u8 65, .int .u8 65, .int .u8 64, .int .u8 222, .int .u8 93, .int .u8 174, .int .u8 34, .int .u8 35, .int .u8 176, .int .u8 3, .int .u8 97, .int .u8 163, .int .u8 150, .int .u8 23, .int .u8 122, .int .u8 156, .int .u8 180, .int .u8 16, .int .u8 255, .int .u8 97, .int .u8 242, .int .u8 0, .int .u8 21, .int .u8 173])).run Tryd.prog w = .ok true w := fun w => by
    have := eql_hash (digest [97, 98, 99]) (digest_length _) w
    have e : (vals .u8 (digest [97, 98, 99])).toArray = #[.int .u8 186, .int .u8 120, .int .u8 22, .int .u8 191, .int .u8 143, .int .u8 1, .int .u8 207, .int .u8 234, .int .u8 65, .int .u8 65, .int .u8 64, .int .u8 222, .int .u8 93, .int .u8 174, .int .u8 34, .int .u8 35, .int .u8 176, .int .u8 3, .int .u8 97, .int .u8 163, .int .u8 150, .int .u8 23, .int .u8 122, .int .u8 156, .int .u8 180, .int .u8 16, .int .u8 255, .int .u8 97, .int .u8 242, .int .u8 0, .int .u8 21, .int .u8 173] := by rw [digest_abc]; rfl
    rw [← e]
    exact this
  have HDL := hide (digest_length [97, 98, 99])
  have S := hide (fun wx (h : Ks wx) (hb : Bytes wx (.slice (some ⟨w.heap.size, 0, none⟩) 3 3) [97, 98, 99]) => sum_flat (wx.alloc (.cells #[.slice (some ⟨w.heap.size, 0, none⟩) 3 3] 25)) (.slice (some ⟨wx.heap.size, 0, none⟩) 1 1) [[97, 98, 99]] [97, 98, 99] rfl (Parts.one wx _ _ hb) (h.on ((Below.refl _ _).alloc (Nat.le_refl _) _)) (by simp))
  have HB0 : Hid (Bytes (w.alloc (.cells #[.int .u8 97, .int .u8 98, .int .u8 99] 5 (3, 4))) (.slice (some ⟨w.heap.size, 0, none⟩) 3 3) [97, 98, 99]) := hide (bytes_marked w)
  have hbx := (Below.refl w.heap.size w).alloc (Nat.le_refl _) (.cells #[.int .u8 97, .int .u8 98, .int .u8 99] 5 (3, 4))
  have HK1 := hide (HK.out.on hbx)
  have SS := hide (S.out _ HK1.out HB0.out)
  rw [alloc_size] at SS
  clear hk hbx S HB0
  generalize digest [97, 98, 99] = D at *
  go_enter Tryd.func5, Tryd.ntmps5
  go_wp2_with fail
  refine SS.out.mono ?_
  rintro e w1 ⟨rfl, hbel1⟩
  have HB1 := hide (box2 hbel1)
  clear hbel1
  go_wp2_with (first | (refine wp_store_arr rfl 28 (.tmp 1) (.tmp 5) rfl _ 0 .u8 D rfl rfl 32 (hash_there _) info_h HDL.out ?_) | (refine wp_load_arr rfl 28 (.tmp 1) rfl _ 0 rfl .u8 D (hash_kept _ D HDL.out).2 _ Tryd.underlying28 rfl 32 info_h HDL.out ?_))
  go_ret
  exact ⟨rfl, below_on HB1.out (hash_kept _ D HDL.out).1⟩

end Go.Proofs.YtiialpnackjakaaDoor
