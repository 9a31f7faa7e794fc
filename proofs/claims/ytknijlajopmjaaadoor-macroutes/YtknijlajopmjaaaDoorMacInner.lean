/-
  What mac.innerSum answers at this program.
-/
import Derived.Test.YtknijlajopmjaaaDoorMacBlk
import Derived.Test.YtknijlajopmjaaaDoorShaSteps
namespace Go.Proofs.YtknijlajopmjaaaDoor
open Go.RowKit

theorem Arr.bytes64 {w : World} {b : Nat} {l : List Int} (h : Arr w b 0 .u8 l) (hl : l.length = 64) : Bytes w (.slice (some ⟨b, 0, none⟩) 64 64) l := by
  have := h.bytes (by omega)
  rwa [hl] at this
/-- A key's block and a place for a sum. -/
theorem block_hash (w : World) (l : List Int) : Below w.heap.size w ((w.alloc (.cells (vals .u8 l).toArray 40)).alloc (.cells #[.int .u8 0, .int .u8 0, .int .u8 0, .int .u8 0, .int .u8 0, .int .u8 0, .int .u8 0, .int .u8 0, .int .u8 0, .int .u8 0, .int .u8 0, .int .u8 0, .int .u8 0, .int .u8 0, .int .u8 0, .int .u8 0, .int .u8 0, .int .u8 0, .int .u8 0, .int .u8 0, .int .u8 0, .int .u8 0, .int .u8 0, .int .u8 0, .int .u8 0, .int .u8 0, .int .u8 0, .int .u8 0, .int .u8 0, .int .u8 0, .int .u8 0, .int .u8 0] 27)) ∧
    Arr ((w.alloc (.cells (vals .u8 l).toArray 40)).alloc (.cells #[.int .u8 0, .int .u8 0, .int .u8 0, .int .u8 0, .int .u8 0, .int .u8 0, .int .u8 0, .int .u8 0, .int .u8 0, .int .u8 0, .int .u8 0, .int .u8 0, .int .u8 0, .int .u8 0, .int .u8 0, .int .u8 0, .int .u8 0, .int .u8 0, .int .u8 0, .int .u8 0, .int .u8 0, .int .u8 0, .int .u8 0, .int .u8 0, .int .u8 0, .int .u8 0, .int .u8 0, .int .u8 0, .int .u8 0, .int .u8 0, .int .u8 0, .int .u8 0] 27)) w.heap.size 0 .u8 l ∧
    Arr ((w.alloc (.cells (vals .u8 l).toArray 40)).alloc (.cells #[.int .u8 0, .int .u8 0, .int .u8 0, .int .u8 0, .int .u8 0, .int .u8 0, .int .u8 0, .int .u8 0, .int .u8 0, .int .u8 0, .int .u8 0, .int .u8 0, .int .u8 0, .int .u8 0, .int .u8 0, .int .u8 0, .int .u8 0, .int .u8 0, .int .u8 0, .int .u8 0, .int .u8 0, .int .u8 0, .int .u8 0, .int .u8 0, .int .u8 0, .int .u8 0, .int .u8 0, .int .u8 0, .int .u8 0, .int .u8 0, .int .u8 0, .int .u8 0] 27)) (w.heap.size + 1) 0 .u8 (List.replicate 32 0) := by
  refine ⟨((Below.refl _ _).alloc (Nat.le_refl _) _).alloc (by rw [alloc_size]; omega) _, (Arr.new w .u8 l _).alloc _, ?_⟩
  have := Arr.new (w.alloc (.cells (vals .u8 l).toArray 40)) .u8 (List.replicate 32 0) 27
  rw [alloc_size] at this
  exact this

set_option maxRecDepth 100000 in
set_option maxHeartbeats 1000000 in
theorem inner_any (w : World) (kb : List Int) (v : Value) (L : List (List Int)) (fl : List Int) (hkb : kb.length = 64) (hfl : L.flatten = fl) (hP : Parts w v L) (hk : Ks w) (hsz : fl.length ≤ 10000000) :
    Calls Tryd.prog 22 #[.agg (vals .u8 kb).toArray, v] w fun e w' => e = .returned (.agg (vals .u8 (digest (xorB kb 54 ++ fl))).toArray) ∧ Below w.heap.size w w' := by
  have HK := hide hk
  have HP := hide hP
  have HFL := hide hfl
  have hk0 := hk.lt
  have HKB := hide hkb
  have HX := hide ((xorB_length kb 54).trans hkb)
  have XO := hide (fun wx => xored_any wx kb 54 hkb)
  have HDL := hide (digest_length (xorB kb 54 ++ fl))
  have HSZ := hide hsz
  obtain ⟨a, cap, rfl, hc1, hc2⟩ := hP.form
  clear hk hP hfl hkb hsz
  obtain ⟨M, hM⟩ : ∃ M, M = xorB kb 54 := ⟨_, rfl⟩
  rw [← hM] at XO HX HDL
  obtain ⟨D, hD⟩ : ∃ D, D = digest (M ++ fl) := ⟨_, rfl⟩
  rw [← hD] at HDL
  have HD0 : Hid (D = digest (xorB kb 54 ++ fl)) := hide (by rw [hD, hM])
  have HD := hide hD
  clear hM hD
  go_enter Tryd.func22, Tryd.ntmps22
  go_upto_region 1 with fail
  have hbn := block_hash w kb
  generalize (w.alloc (.cells (vals .u8 kb).toArray 40)).alloc (.cells #[.int .u8 0, .int .u8 0, .int .u8 0, .int .u8 0, .int .u8 0, .int .u8 0, .int .u8 0, .int .u8 0, .int .u8 0, .int .u8 0, .int .u8 0, .int .u8 0, .int .u8 0, .int .u8 0, .int .u8 0, .int .u8 0, .int .u8 0, .int .u8 0, .int .u8 0, .int .u8 0, .int .u8 0, .int .u8 0, .int .u8 0, .int .u8 0, .int .u8 0, .int .u8 0, .int .u8 0, .int .u8 0, .int .u8 0, .int .u8 0, .int .u8 0, .int .u8 0] 27) = W at *
  have HB := hide hbn.1
  have HA := hide hbn.2.1
  have HR := hide hbn.2.2
  clear hbn
  go_wp2_with (refine wp_load_arr rfl 40 (.tmp 2) rfl _ 0 rfl .u8 kb HA.out _ Tryd.underlying40 rfl 64 info_b HKB.out ?_)
  refine (XO.out W).mono ?_
  rintro e w1 ⟨rfl, hbel1⟩
  have hT1 : w1.there w.heap.size 0 64 := by have := (HA.out.on hbel1).2; rwa [HKB.out] at this
  have HT1 := hide hT1
  have HA2 : Hid (Arr (w1.setCells w.heap.size 0 (vals .u8 M)) w.heap.size 0 .u8 M) := hide (Arr.put (by rw [HX.out]; exact hT1))
  have HB2 : Hid (Below w.heap.size w (w1.setCells w.heap.size 0 (vals .u8 M))) := hide (below_sets (Nat.le_refl _) _ _ _ (below_on HB.out hbel1))
  have HR2 : Hid (Arr (w1.setCells w.heap.size 0 (vals .u8 M)) (w.heap.size + 1) 0 .u8 (List.replicate 32 0)) := hide ((HR.out.on hbel1).apart _ _ _ (Or.inl (by omega)))
  clear hbel1 hT1
  go_upto_region 2 with (refine wp_store_arr rfl 40 (.tmp 2) (.tmp 9) rfl _ 0 .u8 M rfl rfl 64 HT1.out info_b HX.out ?_)
  generalize w1.setCells w.heap.size 0 (vals .u8 M) = W2 at *
  clear HB HA HR HT1
  have hlt2 : w.heap.size ≤ W2.heap.size := HB2.out.size
  go_wp2_with fail
  refine (new_any W2).mono ?_
  rintro e w3 ⟨rfl, hH3, hbel3⟩
  have HH3 := hide hH3
  have HB3 := hide (below_on HB2.out hbel3)
  have HS3 : Hid (Src w3 W2.heap.size (.slice (some ⟨w.heap.size, 0, none⟩) 64 64) M) := hide (Src.old (HA2.out.bytes64 HX.out) hbel3 (Nat.le_refl _))
  have HL3 : Hid (SrcAll w3 W2.heap.size (.slice a L.length cap) L) := hide (SrcAll.old HP.out HB3.out hlt2)
  have HR3 := hide (HR2.out.on hbel3)
  have hgb : w.heap.size + 1 < W2.heap.size := HR2.out.lt (by simp)
  have hb0 : W2.heap.size ≠ 0 := by omega
  clear hH3 hbel3 HA2
  generalize W2.heap.size = b at *
  have WO := hide (write_one w3 b [] _ M HH3.out HS3.out (HK.out.on HB3.out) hb0 (by rw [HX.out, List.length_nil]; omega))
  rw [List.nil_append] at WO
  go_wp2_with fail
  refine WO.out.mono ?_
  rintro e w4 ⟨rfl, hH4, ho4⟩
  have HO4 := hide ho4
  have WA := hide (write_any w4 b M _ L hH4 (HL3.out.on ho4) ((HK.out.on HB3.out).only ho4 hb0) hb0 (by rw [HX.out, HFL.out]; have := HSZ.out; omega))
  rw [HFL.out] at WA
  clear hH4 ho4 WO
  go_wp2_with fail
  refine WA.out.mono ?_
  rintro e w5 ⟨rfl, hH5, ho5⟩
  have HO5 := hide (HO4.out.trans ho5)
  have HSU := hide (hsum_any w5 b (M ++ fl) hH5 ((HK.out.on HB3.out).only (HO4.out.trans ho5) hb0) (by rw [List.length_append, HX.out]; have := HSZ.out; omega))
  rw [← HD.out] at HSU
  have HB5 : Hid (Below w.heap.size w w5) := hide (HB3.out.trans ((HO4.out.trans ho5).ground (by omega)))
  have HR5 : Hid (Arr w5 (w.heap.size + 1) 0 .u8 (List.replicate 32 0)) := hide (HR3.out.only (HO4.out.trans ho5) (by omega))
  clear hH5 ho5 WA HO4
  go_wp2_with fail
  refine HSU.out.mono ?_
  rintro e w6 ⟨rfl, hbel6⟩
  have HB6 := hide (below_on HB5.out hbel6)
  have HR6 := hide (HR5.out.on hbel6)
  have KP := hide (hash_kept w6 D HDL.out)
  clear hbel6
  go_upto_region 6 with (refine wp_store_arr rfl 27 (.tmp 6) (.tmp 21) rfl _ 0 .u8 D rfl rfl 32 (hash_there _) info_h HDL.out ?_)
  generalize (w6.alloc (.cells #[.int .u8 0, .int .u8 0, .int .u8 0, .int .u8 0, .int .u8 0, .int .u8 0, .int .u8 0, .int .u8 0, .int .u8 0, .int .u8 0, .int .u8 0, .int .u8 0, .int .u8 0, .int .u8 0, .int .u8 0, .int .u8 0, .int .u8 0, .int .u8 0, .int .u8 0, .int .u8 0, .int .u8 0, .int .u8 0, .int .u8 0, .int .u8 0, .int .u8 0, .int .u8 0, .int .u8 0, .int .u8 0, .int .u8 0, .int .u8 0, .int .u8 0, .int .u8 0] 27)).setCells w6.heap.size 0 (vals .u8 D) = W7 at *
  have HB7 := hide (below_on HB6.out KP.out.1)
  have HR7 : Hid (W7.there (w.heap.size + 1) 0 32) := hide (by simpa using (HR6.out.on KP.out.1).2)
  have HD7 := hide KP.out.2
  clear KP
  go_wp2_with (first | (refine wp_load_arr rfl 27 (.tmp 6) rfl _ 0 rfl .u8 D HD7.out _ Tryd.underlying27 rfl 32 info_h HDL.out ?_) | (refine wp_store_arr rfl 27 (.tmp 4) (.tmp 23) rfl _ 0 .u8 D rfl rfl 32 HR7.out info_h HDL.out ?_))
  refine ret_arr 4 27 rfl _ 0 rfl .u8 D (Arr.put (by rw [HDL.out]; exact HR7.out)) _ Tryd.underlying27 rfl 32 info_h HDL.out rfl ⟨by rw [HD0.out], below_sets (by omega) _ _ _ HB7.out⟩

end Go.Proofs.YtknijlajopmjaaaDoor
