/-
  What mac.Sum answers at this program.
-/
import Derived.Test.YtknijlajopmjaaaDoorMacInner
namespace Go.Proofs.YtknijlajopmjaaaDoor
open Go.RowKit

/-- A place for a key's block, and the block in it. -/
theorem block_there (w : World) : (w.alloc (.cells #[.int .u8 0, .int .u8 0, .int .u8 0, .int .u8 0, .int .u8 0, .int .u8 0, .int .u8 0, .int .u8 0, .int .u8 0, .int .u8 0, .int .u8 0, .int .u8 0, .int .u8 0, .int .u8 0, .int .u8 0, .int .u8 0, .int .u8 0, .int .u8 0, .int .u8 0, .int .u8 0, .int .u8 0, .int .u8 0, .int .u8 0, .int .u8 0, .int .u8 0, .int .u8 0, .int .u8 0, .int .u8 0, .int .u8 0, .int .u8 0, .int .u8 0, .int .u8 0, .int .u8 0, .int .u8 0, .int .u8 0, .int .u8 0, .int .u8 0, .int .u8 0, .int .u8 0, .int .u8 0, .int .u8 0, .int .u8 0, .int .u8 0, .int .u8 0, .int .u8 0, .int .u8 0, .int .u8 0, .int .u8 0, .int .u8 0, .int .u8 0, .int .u8 0, .int .u8 0, .int .u8 0, .int .u8 0, .int .u8 0, .int .u8 0, .int .u8 0, .int .u8 0, .int .u8 0, .int .u8 0, .int .u8 0, .int .u8 0, .int .u8 0, .int .u8 0] 40)).there w.heap.size 0 64 := (Arr.new w .u8 (List.replicate 64 0) 40).2
theorem block_kept (w : World) (H : List Int) (hH : H.length = 64) : Below w.heap.size w ((w.alloc (.cells #[.int .u8 0, .int .u8 0, .int .u8 0, .int .u8 0, .int .u8 0, .int .u8 0, .int .u8 0, .int .u8 0, .int .u8 0, .int .u8 0, .int .u8 0, .int .u8 0, .int .u8 0, .int .u8 0, .int .u8 0, .int .u8 0, .int .u8 0, .int .u8 0, .int .u8 0, .int .u8 0, .int .u8 0, .int .u8 0, .int .u8 0, .int .u8 0, .int .u8 0, .int .u8 0, .int .u8 0, .int .u8 0, .int .u8 0, .int .u8 0, .int .u8 0, .int .u8 0, .int .u8 0, .int .u8 0, .int .u8 0, .int .u8 0, .int .u8 0, .int .u8 0, .int .u8 0, .int .u8 0, .int .u8 0, .int .u8 0, .int .u8 0, .int .u8 0, .int .u8 0, .int .u8 0, .int .u8 0, .int .u8 0, .int .u8 0, .int .u8 0, .int .u8 0, .int .u8 0, .int .u8 0, .int .u8 0, .int .u8 0, .int .u8 0, .int .u8 0, .int .u8 0, .int .u8 0, .int .u8 0, .int .u8 0, .int .u8 0, .int .u8 0, .int .u8 0] 40)).setCells w.heap.size 0 (vals .u8 H)) ∧ Arr ((w.alloc (.cells #[.int .u8 0, .int .u8 0, .int .u8 0, .int .u8 0, .int .u8 0, .int .u8 0, .int .u8 0, .int .u8 0, .int .u8 0, .int .u8 0, .int .u8 0, .int .u8 0, .int .u8 0, .int .u8 0, .int .u8 0, .int .u8 0, .int .u8 0, .int .u8 0, .int .u8 0, .int .u8 0, .int .u8 0, .int .u8 0, .int .u8 0, .int .u8 0, .int .u8 0, .int .u8 0, .int .u8 0, .int .u8 0, .int .u8 0, .int .u8 0, .int .u8 0, .int .u8 0, .int .u8 0, .int .u8 0, .int .u8 0, .int .u8 0, .int .u8 0, .int .u8 0, .int .u8 0, .int .u8 0, .int .u8 0, .int .u8 0, .int .u8 0, .int .u8 0, .int .u8 0, .int .u8 0, .int .u8 0, .int .u8 0, .int .u8 0, .int .u8 0, .int .u8 0, .int .u8 0, .int .u8 0, .int .u8 0, .int .u8 0, .int .u8 0, .int .u8 0, .int .u8 0, .int .u8 0, .int .u8 0, .int .u8 0, .int .u8 0, .int .u8 0, .int .u8 0] 40)).setCells w.heap.size 0 (vals .u8 H)) w.heap.size 0 .u8 H :=
  ⟨below_sets (Nat.le_refl _) _ _ _ ((Below.refl _ _).alloc (Nat.le_refl _) _), Arr.put (by rw [hH]; exact block_there w)⟩

set_option maxRecDepth 100000 in
set_option maxHeartbeats 1000000 in
theorem mac_flat (w : World) (kv : Value) (k : List Int) (v : Value) (L : List (List Int)) (fl : List Int) (hkv : Bytes w kv k) (hfl : L.flatten = fl) (hP : Parts w v L) (hk : Ks w) (hsz : fl.length ≤ 10000000) (hks : k.length ≤ 10000000) :
    Calls Tryd.prog 11 #[kv, v] w fun e w' => e = .returned (.agg (vals .u8 (macI k fl)).toArray) ∧ Below w.heap.size w w' := by
  have HK := hide hk
  have HP := hide hP
  have HKV := hide hkv
  have KB := hide (fun wx (h : Bytes wx kv k) (j : Ks wx) => keyBlock_any wx kv k h j (by omega))
  have HKL := hide (keyI_length k)
  have IN := hide (fun wx (h : Parts wx v L) (j : Ks wx) => inner_any wx (keyI k) v L fl (keyI_length k) hfl h j hsz)
  have HIL := hide (digest_length (xorB (keyI k) 54 ++ fl))
  have XO := hide (fun wx => xored_any wx (keyI k) 92 (keyI_length k))
  have HXL := hide ((xorB_length (keyI k) 92).trans (keyI_length k))
  have S2 := hide (fun wx p q (h : Bytes wx p (xorB (keyI k) 92)) (h' : Bytes wx q (digest (xorB (keyI k) 54 ++ fl))) (j : Ks wx) => sum_two wx p q _ _ h h' j (by rw [List.length_append, xorB_length, keyI_length, digest_length]; omega))
  have HML : Hid ((macI k fl).length = 32) := hide (digest_length _)
  have HM : Hid (macI k fl = digest (xorB (keyI k) 92 ++ digest (xorB (keyI k) 54 ++ fl))) := hide rfl
  rw [← HM.out] at S2
  obtain ⟨ka, kcap, rfl, hkc1, hkc2⟩ := hkv.form
  obtain ⟨a, cap, rfl, hc1, hc2⟩ := hP.form
  clear hk hP hfl hkv hks hsz HM
  generalize macI k fl = MM at *
  generalize digest (xorB (keyI k) 54 ++ fl) = II at *
  generalize xorB (keyI k) 92 = OO at *
  generalize keyI k = KK at *
  go_enter Tryd.func11, Tryd.ntmps11
  go_upto_region 1 with fail
  have hB0 := (Below.refl w.heap.size w).alloc (Nat.le_refl _) (.cells #[.int .u8 0, .int .u8 0, .int .u8 0, .int .u8 0, .int .u8 0, .int .u8 0, .int .u8 0, .int .u8 0, .int .u8 0, .int .u8 0, .int .u8 0, .int .u8 0, .int .u8 0, .int .u8 0, .int .u8 0, .int .u8 0, .int .u8 0, .int .u8 0, .int .u8 0, .int .u8 0, .int .u8 0, .int .u8 0, .int .u8 0, .int .u8 0, .int .u8 0, .int .u8 0, .int .u8 0, .int .u8 0, .int .u8 0, .int .u8 0, .int .u8 0, .int .u8 0] 27)
  have hR0 := Arr.new w .u8 (List.replicate 32 0) 27
  have HB0 := hide hB0
  have HR0 := hide hR0
  have HKV0 := hide (HKV.out.below hB0)
  have KB0 := hide (KB.out _ HKV0.out (HK.out.on hB0))
  clear hB0 hR0
  go_wp2_with fail
  refine KB0.out.mono ?_
  rintro e w1 ⟨rfl, hbel1⟩
  have HB1 := hide (below_on HB0.out hbel1)
  have HR1 := hide (HR0.out.on hbel1)
  have KP := hide (block_kept w1 KK HKL.out)
  clear hbel1 HB0 HR0 HKV0 KB KB0
  go_upto_region 2 with (refine wp_store_arr rfl 40 (.tmp 5) (.tmp 9) rfl _ 0 .u8 KK rfl rfl 64 (block_there _) info_b HKL.out ?_)
  generalize (w1.alloc (.cells #[.int .u8 0, .int .u8 0, .int .u8 0, .int .u8 0, .int .u8 0, .int .u8 0, .int .u8 0, .int .u8 0, .int .u8 0, .int .u8 0, .int .u8 0, .int .u8 0, .int .u8 0, .int .u8 0, .int .u8 0, .int .u8 0, .int .u8 0, .int .u8 0, .int .u8 0, .int .u8 0, .int .u8 0, .int .u8 0, .int .u8 0, .int .u8 0, .int .u8 0, .int .u8 0, .int .u8 0, .int .u8 0, .int .u8 0, .int .u8 0, .int .u8 0, .int .u8 0, .int .u8 0, .int .u8 0, .int .u8 0, .int .u8 0, .int .u8 0, .int .u8 0, .int .u8 0, .int .u8 0, .int .u8 0, .int .u8 0, .int .u8 0, .int .u8 0, .int .u8 0, .int .u8 0, .int .u8 0, .int .u8 0, .int .u8 0, .int .u8 0, .int .u8 0, .int .u8 0, .int .u8 0, .int .u8 0, .int .u8 0, .int .u8 0, .int .u8 0, .int .u8 0, .int .u8 0, .int .u8 0, .int .u8 0, .int .u8 0, .int .u8 0, .int .u8 0] 40)).setCells w1.heap.size 0 (vals .u8 KK) = W2 at *
  have HB2 := hide (below_on HB1.out KP.out.1)
  have HR2 := hide (HR1.out.on KP.out.1)
  have HK2 := hide KP.out.2
  clear KP HB1 HR1
  generalize w1.heap.size = g1 at *
  go_wp2_with (refine wp_load_arr rfl 40 (.tmp 5) rfl _ 0 rfl .u8 KK HK2.out _ Tryd.underlying40 rfl 64 info_b HKL.out ?_)
  refine (IN.out W2 (HP.out.below HB2.out) (HK.out.on HB2.out)).mono ?_
  rintro e w3 ⟨rfl, hbel3⟩
  have HB3 := hide (below_on HB2.out hbel3)
  have HR3 := hide (HR2.out.on hbel3)
  have HK3 := hide (HK2.out.on hbel3)
  have KP := hide (hash_kept w3 II HIL.out)
  clear hbel3 HB2 HR2 HK2 IN
  go_upto_region 3 with (refine wp_store_arr rfl 27 (.tmp 6) (.tmp 12) rfl _ 0 .u8 II rfl rfl 32 (hash_there _) info_h HIL.out ?_)
  generalize (w3.alloc (.cells #[.int .u8 0, .int .u8 0, .int .u8 0, .int .u8 0, .int .u8 0, .int .u8 0, .int .u8 0, .int .u8 0, .int .u8 0, .int .u8 0, .int .u8 0, .int .u8 0, .int .u8 0, .int .u8 0, .int .u8 0, .int .u8 0, .int .u8 0, .int .u8 0, .int .u8 0, .int .u8 0, .int .u8 0, .int .u8 0, .int .u8 0, .int .u8 0, .int .u8 0, .int .u8 0, .int .u8 0, .int .u8 0, .int .u8 0, .int .u8 0, .int .u8 0, .int .u8 0] 27)).setCells w3.heap.size 0 (vals .u8 II) = W4 at *
  have HB4 := hide (below_on HB3.out KP.out.1)
  have HR4 := hide (HR3.out.on KP.out.1)
  have HK4 := hide (HK3.out.on KP.out.1)
  have HI4 := hide KP.out.2
  clear KP HB3 HR3 HK3
  generalize w3.heap.size = g3 at *
  go_wp2_with (refine wp_load_arr rfl 40 (.tmp 5) rfl _ 0 rfl .u8 KK HK4.out _ Tryd.underlying40 rfl 64 info_b HKL.out ?_)
  refine (XO.out W4).mono ?_
  rintro e w5 ⟨rfl, hbel5⟩
  have HB5 := hide (below_on HB4.out hbel5)
  have HR5 := hide (HR4.out.on hbel5)
  have HI5 := hide (HI4.out.on hbel5)
  have KP := hide (block_kept w5 OO HXL.out)
  clear hbel5 HB4 HR4 HK4 HI4 XO
  go_upto_region 4 with (refine wp_store_arr rfl 40 (.tmp 7) (.tmp 14) rfl _ 0 .u8 OO rfl rfl 64 (block_there _) info_b HXL.out ?_)
  generalize (w5.alloc (.cells #[.int .u8 0, .int .u8 0, .int .u8 0, .int .u8 0, .int .u8 0, .int .u8 0, .int .u8 0, .int .u8 0, .int .u8 0, .int .u8 0, .int .u8 0, .int .u8 0, .int .u8 0, .int .u8 0, .int .u8 0, .int .u8 0, .int .u8 0, .int .u8 0, .int .u8 0, .int .u8 0, .int .u8 0, .int .u8 0, .int .u8 0, .int .u8 0, .int .u8 0, .int .u8 0, .int .u8 0, .int .u8 0, .int .u8 0, .int .u8 0, .int .u8 0, .int .u8 0, .int .u8 0, .int .u8 0, .int .u8 0, .int .u8 0, .int .u8 0, .int .u8 0, .int .u8 0, .int .u8 0, .int .u8 0, .int .u8 0, .int .u8 0, .int .u8 0, .int .u8 0, .int .u8 0, .int .u8 0, .int .u8 0, .int .u8 0, .int .u8 0, .int .u8 0, .int .u8 0, .int .u8 0, .int .u8 0, .int .u8 0, .int .u8 0, .int .u8 0, .int .u8 0, .int .u8 0, .int .u8 0, .int .u8 0, .int .u8 0, .int .u8 0, .int .u8 0] 40)).setCells w5.heap.size 0 (vals .u8 OO) = W6 at *
  have HB6 := hide (below_on HB5.out KP.out.1)
  have HR6 := hide (HR5.out.on KP.out.1)
  have HI6 := hide ((HI5.out.on KP.out.1).bytes32 HIL.out)
  have HO6 := hide (KP.out.2.bytes64 HXL.out)
  clear KP HB5 HR5 HI5
  generalize w5.heap.size = g5 at *
  have SD : Calls Tryd.prog 18 #[.slice (some ⟨W6.heap.size, 0, none⟩) 2 2] (W6.alloc (.cells #[.slice (some ⟨g5, 0, none⟩) 64 64, .slice (some ⟨g3, 0, none⟩) 32 32] 22)).drew (fun e w' => e = .returned (.agg (vals .u8 MM).toArray) ∧ Below W6.heap.size W6 w') :=
    show Calls Tryd.prog 18 #[.slice (some ⟨W6.drew.heap.size, 0, none⟩) 2 2] (W6.drew.alloc (.cells #[.slice (some ⟨g5, 0, none⟩) 64 64, .slice (some ⟨g3, 0, none⟩) 32 32] 22)) _ from (S2.out W6.drew _ _ HO6.out.drew HI6.out.drew (HK.out.on HB6.out.drew)).mono (by
      rintro e w' ⟨rfl, hb⟩
      exact ⟨rfl, below_on (Below.refl _ _).drew hb⟩)
  have SD := hide SD
  have HVL : Hid ((vals .u8 MM).length = 32) := hide (by rw [vals_length, HML.out])
  have HT6 : Hid (∀ wx, Below W6.heap.size W6 wx → wx.there w.heap.size 0 (vals .u8 MM).length) := hide (fun wx hx => by rw [HVL.out]; simpa using (HR6.out.on hx).2)
  have hone : ∀ v ∈ vals .u8 MM, v.oneCell' = true := by
    intro v hv
    simp only [vals, List.mem_map] at hv
    obtain ⟨z, _, rfl⟩ := hv
    rfl
  have hinf : (Tryd.prog.info? 27).map (·.size) = some (vals .u8 MM).length := by rw [HVL.out]; exact info_h
  clear S2
  generalize hg : w.heap.size = g at *
  have HG := hide hg
  clear hg
  go_wp2_with fail
  go_region_held3 (fun wx => wx.there g 0 (vals .u8 MM).length)
    (with_reducible (first | exact World.there_setCells (HT6.out _ hb7) _ _ _ | exact HT6.out _ hb7 | exact HT6.out _ (Below.refl _ _).drew | exact HT6.out _ (Below.refl _ _) | exact HT6.out _ ((Below.refl _ _).alloc (Nat.le_refl _) _).drew | fail))
    ((go_at_call 18; refine SD.out.mono ?_; rintro e w7 ⟨rfl, hb7⟩))
  go_wp2_with fail
  refine ret_arr 4 27 rfl _ 0 rfl .u8 MM (Arr.put (by have := HT6.out _ hb7; rwa [vals_length] at this)) _ Tryd.underlying27 rfl 32 info_h HML.out rfl ⟨rfl, below_sets (by rw [HG.out]; exact Nat.le_refl _) _ _ _ ?_⟩
  rw [HG.out]
  exact below_on' HB6.out hb7 (Nat.le_of_eq HG.out.symm)

end Go.Proofs.YtknijlajopmjaaaDoor
