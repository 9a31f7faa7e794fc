/-
  What sha.Twice and sha.Check answer at this program.
-/
import Derived.Test.YtbhninaaeeoamabDoorShaOne
namespace Go.Proofs.YtbhninaaeeoamabDoor
open Go.RowKit

set_option maxRecDepth 100000 in
set_option maxHeartbeats 1000000 in
theorem twice_flat (w : World) (v : Value) (L : List (List Int)) (fl : List Int) (hfl : L.flatten = fl) (hP : Parts w v L) (hk : Ks w) (hsz : fl.length ≤ 100000000) :
    Calls Tryd.prog 19 #[v] w fun e w' => e = .returned (.agg (vals .u8 (digest (digest fl))).toArray) ∧ Below w.heap.size w w' := by
  have HK := hide hk
  have SM := hide (sum_flat (w.alloc (.cells #[.int .u8 0, .int .u8 0, .int .u8 0, .int .u8 0, .int .u8 0, .int .u8 0, .int .u8 0, .int .u8 0, .int .u8 0, .int .u8 0, .int .u8 0, .int .u8 0, .int .u8 0, .int .u8 0, .int .u8 0, .int .u8 0, .int .u8 0, .int .u8 0, .int .u8 0, .int .u8 0, .int .u8 0, .int .u8 0, .int .u8 0, .int .u8 0, .int .u8 0, .int .u8 0, .int .u8 0, .int .u8 0, .int .u8 0, .int .u8 0, .int .u8 0, .int .u8 0] 52)) v L fl hfl (hP.below ((Below.refl _ _).alloc (Nat.le_refl _) _)) (hk.alloc _) hsz)
  have S1 := hide (fun wx p (h : Bytes wx p (digest fl)) (k : Ks wx) => sum_one wx p (digest fl) h k (by rw [digest_length]; omega))
  have HL1 := hide (digest_length fl)
  have HL2 := hide (digest_length (digest fl))
  obtain ⟨a, cap, rfl, hc1, hc2⟩ := hP.form
  clear hP hk hfl
  generalize digest (digest fl) = D2 at *
  generalize digest fl = D1 at *
  go_enter Tryd.func19, Tryd.ntmps19
  go_upto_region 1 with fail
  have HB0 := hide ((Below.refl w.heap.size w).alloc (Nat.le_refl _) (.cells #[.int .u8 0, .int .u8 0, .int .u8 0, .int .u8 0, .int .u8 0, .int .u8 0, .int .u8 0, .int .u8 0, .int .u8 0, .int .u8 0, .int .u8 0, .int .u8 0, .int .u8 0, .int .u8 0, .int .u8 0, .int .u8 0, .int .u8 0, .int .u8 0, .int .u8 0, .int .u8 0, .int .u8 0, .int .u8 0, .int .u8 0, .int .u8 0, .int .u8 0, .int .u8 0, .int .u8 0, .int .u8 0, .int .u8 0, .int .u8 0, .int .u8 0, .int .u8 0] 52))
  have HT0 := hide (Arr.new w .u8 (List.replicate 32 0) 52)
  go_wp2_with fail
  refine SM.out.mono ?_
  rintro e w1 ⟨rfl, hbel1⟩
  have HT1 : Hid (Arr w1 w.heap.size 0 .u8 (List.replicate 32 0)) := hide (HT0.out.on hbel1)
  have HB1 := hide (below_on HB0.out hbel1)
  clear hbel1 HT0 HB0 SM
  have KP := hide (hash_kept w1 D1 HL1.out)
  go_wp2_with (refine wp_store_arr rfl 52 (.tmp 3) (.tmp 5) rfl _ 0 .u8 D1 rfl rfl 32 (hash_there _) info_h HL1.out ?_)
  generalize (w1.alloc (.cells #[.int .u8 0, .int .u8 0, .int .u8 0, .int .u8 0, .int .u8 0, .int .u8 0, .int .u8 0, .int .u8 0, .int .u8 0, .int .u8 0, .int .u8 0, .int .u8 0, .int .u8 0, .int .u8 0, .int .u8 0, .int .u8 0, .int .u8 0, .int .u8 0, .int .u8 0, .int .u8 0, .int .u8 0, .int .u8 0, .int .u8 0, .int .u8 0, .int .u8 0, .int .u8 0, .int .u8 0, .int .u8 0, .int .u8 0, .int .u8 0, .int .u8 0, .int .u8 0] 52)).setCells w1.heap.size 0 (vals .u8 D1) = W2 at *
  have HB2 := hide (below_on HB1.out KP.out.1)
  refine (S1.out W2 _ (KP.out.2.bytes32 HL1.out) (HK.out.on HB2.out)).mono ?_
  rintro e w3 ⟨rfl, hbel3⟩
  have HT3 : Hid (w3.there w.heap.size 0 32) := hide (by simpa using ((HT1.out.on KP.out.1).on hbel3).2)
  have HB3 := hide (below_on HB2.out hbel3)
  clear hbel3
  go_wp2_with (refine wp_store_arr rfl 52 (.tmp 2) (.tmp 8) rfl _ 0 .u8 D2 rfl rfl 32 HT3.out info_h HL2.out ?_)
  refine ret_arr 2 52 rfl _ 0 rfl .u8 D2 (Arr.put (by rw [HL2.out]; exact HT3.out)) _ Tryd.underlying52 rfl 32 info_h HL2.out rfl ⟨rfl, below_sets (Nat.le_refl _) _ _ _ HB3.out⟩

/-- The first four bytes as a number, the lowest first. -/
def checkI (D : List Int) : Int := bits .or .u32 (bits .or .u32 (bits .or .u32 (D.getD 0 0 % 4294967296) (D.getD 1 0 % 4294967296 * 256 % 4294967296)) (D.getD 2 0 % 4294967296 * 65536 % 4294967296)) (D.getD 3 0 % 4294967296 * 16777216 % 4294967296)
set_option maxRecDepth 100000 in
set_option maxHeartbeats 1000000 in
theorem check_any (w : World) (v : Value) (l : List Int) (hv : Bytes w v l) (hk : Ks w) (hsz : l.length ≤ 100000000) :
    Calls Tryd.prog 12 #[v] w fun e w' => e = .returned (.int .u32 (checkI (digest (digest l)))) ∧ Below w.heap.size w w' := by
  obtain ⟨a, cap, rfl, hc1, hc2⟩ := hv.form
  have TW := hide (twice_flat (w.alloc (.cells #[.slice a l.length cap] 22)) (.slice (some ⟨w.heap.size, 0, none⟩) 1 1) [l] l (by simp) (Parts.one w _ l hv) (hk.alloc _) hsz)
  have HL2 := hide (digest_length (digest l))
  clear hv hk
  generalize digest (digest l) = D at *
  go_enter Tryd.func12, Tryd.ntmps12
  go_wp2_with fail
  refine TW.out.mono ?_
  rintro e w1 ⟨rfl, hbel1⟩
  have HB1 := hide (box1 hbel1)
  have hKP := hash_kept w1 D HL2.out
  clear hbel1 TW
  have hl := HL2.out
  have c0 := hKP.2.cell0 0 (by omega)
  have c1 := hKP.2.cell0 1 (by omega)
  have c2 := hKP.2.cell0 2 (by omega)
  have c3 := hKP.2.cell0 3 (by omega)
  have HBK := hide hKP.1
  clear hKP hl
  have HCH : Hid (∀ d0 d1 d2 d3, D.getD 0 0 = d0 → D.getD 1 0 = d1 → D.getD 2 0 = d2 → D.getD 3 0 = d3 → checkI D = bits .or .u32 (bits .or .u32 (bits .or .u32 (d0 % 4294967296) (d1 % 4294967296 * 256 % 4294967296)) (d2 % 4294967296 * 65536 % 4294967296)) (d3 % 4294967296 * 16777216 % 4294967296)) := hide (by rintro _ _ _ _ rfl rfl rfl rfl; rfl)
  obtain ⟨d0, h0⟩ : ∃ d0, D.getD 0 0 = d0 := ⟨_, rfl⟩
  obtain ⟨d1, h1⟩ : ∃ d1, D.getD 1 0 = d1 := ⟨_, rfl⟩
  obtain ⟨d2, h2⟩ : ∃ d2, D.getD 2 0 = d2 := ⟨_, rfl⟩
  obtain ⟨d3, h3⟩ : ∃ d3, D.getD 3 0 = d3 := ⟨_, rfl⟩
  rw [h0] at c0
  rw [h1] at c1
  rw [h2] at c2
  rw [h3] at c3
  have HCH := hide (HCH.out d0 d1 d2 d3 h0 h1 h2 h3)
  clear h0 h1 h2 h3
  go_wp2_with (refine wp_store_arr rfl 52 (.tmp 3) (.tmp 6) rfl _ 0 .u8 D rfl rfl 32 (hash_there _) info_h HL2.out ?_)
  go_ret
  refine ⟨?_, below_on HB1.out HBK.out⟩
  rw [HCH.out]
  simp

end Go.Proofs.YtbhninaaeeoamabDoor
