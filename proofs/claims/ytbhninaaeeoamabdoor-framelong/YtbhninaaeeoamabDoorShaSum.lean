/-
  What sha.Sum answers at this program.
-/
import Derived.Test.YtbhninaaeeoamabDoorShaApi
namespace Go.Proofs.YtbhninaaeeoamabDoor
open Go.RowKit

theorem digest_length (m : List Int) : (digest m).length = 32 := by rw [digest, flat_length, stateOf_length]
set_option maxRecDepth 100000 in
set_option maxHeartbeats 1000000 in
theorem sum_flat (w : World) (v : Value) (L : List (List Int)) (fl : List Int) (hfl : L.flatten = fl) (hP : Parts w v L) (hk : Ks w) (hsz : fl.length ≤ 100000000) :
    Calls Tryd.prog 24 #[v] w fun e w' => e = .returned (.agg (vals .u8 (digest fl)).toArray) ∧ Below w.heap.size w w' := by
  have HK := hide hk
  have HP := hide hP
  have hz := zero_hasher.1
  have hk0 := hk.lt
  have HDL := hide (digest_length fl)
  have HFL := hide hfl
  clear hP hk hfl
  go_enter Tryd.func24, Tryd.ntmps24
  go_upto_region 2 with fail
  obtain ⟨W, hW⟩ : ∃ W, W = (w.alloc (.cells #[.int .u8 0, .int .u8 0, .int .u8 0, .int .u8 0, .int .u8 0, .int .u8 0, .int .u8 0, .int .u8 0, .int .u8 0, .int .u8 0, .int .u8 0, .int .u8 0, .int .u8 0, .int .u8 0, .int .u8 0, .int .u8 0, .int .u8 0, .int .u8 0, .int .u8 0, .int .u8 0, .int .u8 0, .int .u8 0, .int .u8 0, .int .u8 0, .int .u8 0, .int .u8 0, .int .u8 0, .int .u8 0, .int .u8 0, .int .u8 0, .int .u8 0, .int .u8 0] 52)).alloc (.cells zeroCells.toArray 69) := ⟨_, rfl⟩
  rw [← hW]
  have HBW : Hid (Below w.heap.size w W ∧ Arr W w.heap.size 0 .u8 (List.replicate 32 0) ∧ Hashes W (w.heap.size + 1) []) := hide (by
    rw [hW]
    refine ⟨((Below.refl _ _).alloc (Nat.le_refl _) _).alloc (by rw [alloc_size]; omega) _, (Arr.new w .u8 (List.replicate 32 0) _).alloc _, ?_⟩
    have := Hashes.new (w.alloc (.cells #[.int .u8 0, .int .u8 0, .int .u8 0, .int .u8 0, .int .u8 0, .int .u8 0, .int .u8 0, .int .u8 0, .int .u8 0, .int .u8 0, .int .u8 0, .int .u8 0, .int .u8 0, .int .u8 0, .int .u8 0, .int .u8 0, .int .u8 0, .int .u8 0, .int .u8 0, .int .u8 0, .int .u8 0, .int .u8 0, .int .u8 0, .int .u8 0, .int .u8 0, .int .u8 0, .int .u8 0, .int .u8 0, .int .u8 0, .int .u8 0, .int .u8 0, .int .u8 0] 52))
    rwa [alloc_size] at this)
  have HW1 : Hid (W.heap.size = w.heap.size + 1 + 1) := hide (by rw [hW, alloc_size, alloc_size])
  clear hW hz
  have WR := write_any W (w.heap.size + 1) [] v L HBW.out.2.2 (SrcAll.old HP.out HBW.out.1 (by omega)) (HK.out.on HBW.out.1) (by omega) (by rw [HFL.out, List.length_nil]; omega)
  rw [HFL.out, List.nil_append] at WR
  have WR := hide WR
  go_wp2_with fail
  refine WR.out.mono ?_
  rintro e w1 ⟨rfl, h1, o1⟩
  have HH1 := hide h1
  obtain ⟨st, blk, hA, hB, hst⟩ := h1
  have HA := hide hA
  have HBL : Hid (Below w.heap.size w w1) := hide (HBW.out.1.trans (o1.ground (by omega)))
  have E := hide (end_any w1 fl st blk hA.2.2.2.2.1 hB hst (HK.out.on HBL.out) hsz)
  have HL : Hid ((Tryd.prog.info? 69).map (·.size) = some (cellsOf fl.length st blk).length) := hide (by rw [cellsOf_length _ _ _ hA.2.2.2.2.1 hA.2.2.2.2.2]; exact zero_hasher.2)
  have HR0 : Hid (Arr w1 w.heap.size 0 .u8 (List.replicate 32 0)) := hide (HBW.out.2.1.at (fun i _ => o1.cell _ (by simp) (by have := HW1.out; simp; omega)) (fun i _ => o1.frozen _ (by simp) (by have := HW1.out; simp; omega)))
  clear hA hB hst o1 WR
  go_wp2_with (refine wpList_load_mid rfl 69 (.tmp 3) rfl _ 0 rfl (cellsOf fl.length st blk) _ HA.out.range Tryd.underlying69 rfl HL.out ?_)
  refine E.out.mono ?_
  rintro e w2 ⟨rfl, hbel2⟩
  have HR1 : Hid (w2.there w.heap.size 0 32) := hide (by simpa using (HR0.out.on hbel2).2)
  have HB2 := hide (below_on HBL.out hbel2)
  clear hbel2
  go_wp2_with (refine wp_store_arr rfl 52 (.tmp 2) (.tmp 7) rfl _ 0 .u8 (digest fl) rfl rfl 32 HR1.out info_h HDL.out ?_)
  refine ret_arr 2 52 rfl _ 0 rfl .u8 (digest fl) (Arr.put (by rw [HDL.out]; exact HR1.out)) _ Tryd.underlying52 rfl 32 info_h HDL.out rfl ⟨rfl, below_sets (Nat.le_refl _) _ _ _ HB2.out⟩

/-- sha.Sum. -/
theorem sum_any (w : World) (v : Value) (L : List (List Int)) (hP : Parts w v L) (hk : Ks w) (hsz : L.flatten.length ≤ 100000000) :
    Calls Tryd.prog 24 #[v] w fun e w' => e = .returned (.agg (vals .u8 (digest L.flatten)).toArray) ∧ Below w.heap.size w w' := sum_flat w v L _ rfl hP hk hsz

end Go.Proofs.YtbhninaaeeoamabDoor
