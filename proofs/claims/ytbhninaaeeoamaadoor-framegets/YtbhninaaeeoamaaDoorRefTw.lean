/-
  What pappusref03.Twice and pappusref03.Check answer at this program: the plain sum of the sum, and its first four bytes as a number.
-/
import Derived.Test.YtbhninaaeeoamaaDoorRefDig
import Derived.Test.YtbhninaaeeoamaaDoorShaTw
import Derived.Test.YtbhninaaeeoamaaDoorEql
namespace Go.Proofs.YtbhninaaeeoamaaDoor
open Go.RowKit

set_option maxRecDepth 100000 in
set_option maxHeartbeats 1000000 in
theorem rtwice_any (w : World) (v : Value) (l : List Int) (hv : Bytes w v l) (hn : l.length ≤ 5000) :
    Calls Tryd.prog 30 #[v] w fun e w' => e = .returned (.agg (vals .u8 (digest (digest l))).toArray) ∧ Below w.heap.size w w' := by
  have SM := hide (rsum_any (w.alloc (.cells #[.int .u8 0, .int .u8 0, .int .u8 0, .int .u8 0, .int .u8 0, .int .u8 0, .int .u8 0, .int .u8 0, .int .u8 0, .int .u8 0, .int .u8 0, .int .u8 0, .int .u8 0, .int .u8 0, .int .u8 0, .int .u8 0, .int .u8 0, .int .u8 0, .int .u8 0, .int .u8 0, .int .u8 0, .int .u8 0, .int .u8 0, .int .u8 0, .int .u8 0, .int .u8 0, .int .u8 0, .int .u8 0, .int .u8 0, .int .u8 0, .int .u8 0, .int .u8 0] 58)) v l (hv.alloc _) hn)
  have S1 := hide (fun wx p (h : Bytes wx p (digest l)) => rsum_any wx p (digest l) h (by rw [digest_length]; omega))
  have HL1 := hide (digest_length l)
  have HL2 := hide (digest_length (digest l))
  obtain ⟨a, cap, rfl, hc1, hc2⟩ := hv.form
  clear hv hn
  generalize digest (digest l) = D2 at *
  generalize digest l = D1 at *
  go_enter Tryd.func30, Tryd.ntmps30
  go_upto_region 1 with fail
  have HB0 := hide ((Below.refl w.heap.size w).alloc (Nat.le_refl _) (.cells #[.int .u8 0, .int .u8 0, .int .u8 0, .int .u8 0, .int .u8 0, .int .u8 0, .int .u8 0, .int .u8 0, .int .u8 0, .int .u8 0, .int .u8 0, .int .u8 0, .int .u8 0, .int .u8 0, .int .u8 0, .int .u8 0, .int .u8 0, .int .u8 0, .int .u8 0, .int .u8 0, .int .u8 0, .int .u8 0, .int .u8 0, .int .u8 0, .int .u8 0, .int .u8 0, .int .u8 0, .int .u8 0, .int .u8 0, .int .u8 0, .int .u8 0, .int .u8 0] 58))
  have HT0 := hide (Arr.new w .u8 (List.replicate 32 0) 58)
  go_wp2_with fail
  refine SM.out.mono ?_
  rintro e w1 ⟨rfl, hbel1⟩
  have HT1 : Hid (Arr w1 w.heap.size 0 .u8 (List.replicate 32 0)) := hide (HT0.out.on hbel1)
  have HB1 := hide (below_on HB0.out hbel1)
  clear hbel1 HT0 HB0 SM
  have KP := hide (hash_kept w1 D1 HL1.out)
  go_wp2_with (refine wp_store_arr rfl 58 (.tmp 3) (.tmp 5) rfl _ 0 .u8 D1 rfl rfl 32 (hash_there _) info_h HL1.out ?_)
  generalize (w1.alloc (.cells #[.int .u8 0, .int .u8 0, .int .u8 0, .int .u8 0, .int .u8 0, .int .u8 0, .int .u8 0, .int .u8 0, .int .u8 0, .int .u8 0, .int .u8 0, .int .u8 0, .int .u8 0, .int .u8 0, .int .u8 0, .int .u8 0, .int .u8 0, .int .u8 0, .int .u8 0, .int .u8 0, .int .u8 0, .int .u8 0, .int .u8 0, .int .u8 0, .int .u8 0, .int .u8 0, .int .u8 0, .int .u8 0, .int .u8 0, .int .u8 0, .int .u8 0, .int .u8 0] 58)).setCells w1.heap.size 0 (vals .u8 D1) = W2 at *
  have HB2 := hide (below_on HB1.out KP.out.1)
  refine (S1.out W2 _ (KP.out.2.bytes32 HL1.out)).mono ?_
  rintro e w3 ⟨rfl, hbel3⟩
  have HT3 : Hid (w3.there w.heap.size 0 32) := hide (by simpa using ((HT1.out.on KP.out.1).on hbel3).2)
  have HB3 := hide (below_on HB2.out hbel3)
  clear hbel3
  go_wp2_with (refine wp_store_arr rfl 58 (.tmp 2) (.tmp 7) rfl _ 0 .u8 D2 rfl rfl 32 HT3.out info_h HL2.out ?_)
  refine ret_arr 2 58 rfl _ 0 rfl .u8 D2 (Arr.put (by rw [HL2.out]; exact HT3.out)) _ Tryd.underlying58 rfl 32 info_h HL2.out rfl ⟨rfl, below_sets (Nat.le_refl _) _ _ _ HB3.out⟩

theorem digest_bytes (m : List Int) : ∀ z ∈ digest m, 0 ≤ z ∧ z < 256 := by
  intro z hz
  obtain ⟨x, -, hx⟩ := List.mem_flatMap.1 hz
  simp only [outI, List.mem_cons, List.not_mem_nil, or_false] at hx
  rcases hx with rfl | rfl | rfl | rfl <;> omega
theorem digest_at (m : List Int) (k : Nat) : 0 ≤ (digest m).getD k 0 ∧ (digest m).getD k 0 < 256 := by
  by_cases h : k < (digest m).length
  · rw [List.getD_eq_getElem?_getD, List.getElem?_eq_getElem h]
    exact digest_bytes m _ (List.getElem_mem h)
  · rw [List.getD_eq_getElem?_getD, List.getElem?_eq_none (by omega)]
    decide
/-- Or'd together or summed up: four bytes make one number. -/
theorem checkI_sum (D : List Int) (d0 d1 d2 d3 : Int) (e0 : D.getD 0 0 = d0) (e1 : D.getD 1 0 = d1) (e2 : D.getD 2 0 = d2) (e3 : D.getD 3 0 = d3)
    (h0 : 0 ≤ d0 ∧ d0 < 256) (h1 : 0 ≤ d1 ∧ d1 < 256) (h2 : 0 ≤ d2 ∧ d2 < 256) (h3 : 0 ≤ d3 ∧ d3 < 256) :
    checkI D = d0 + d1 * 256 + d2 * 65536 + d3 * 16777216 := by
  have hc : ∀ x y, bits .or .u32 x y = bits .or .u32 y x := fun x y => by simp only [bits, BitVec.or_comm]
  have m0 : d0 % 4294967296 = d0 := by omega
  have m1 : d1 % 4294967296 * 256 % 4294967296 = d1 * 256 := by omega
  have m2 : d2 % 4294967296 * 65536 % 4294967296 = d2 * 65536 := by omega
  have m3 : d3 % 4294967296 * 16777216 % 4294967296 = d3 * 16777216 := by omega
  unfold checkI
  rw [e0, e1, e2, e3, m0, m1, m2, m3]
  rw [hc d0, bits_join .u32 32 (by decide) wraps_u32 8 (d1 * 256) d0 (by omega) (by omega) (by omega) (by omega) (by omega) (by omega),
    hc (d1 * 256 + d0), bits_join .u32 32 (by decide) wraps_u32 16 (d2 * 65536) (d1 * 256 + d0) (by omega) (by omega) (by omega) (by omega) (by omega) (by omega),
    hc (d2 * 65536 + (d1 * 256 + d0)), bits_join .u32 32 (by decide) wraps_u32 24 (d3 * 16777216) (d2 * 65536 + (d1 * 256 + d0)) (by omega) (by omega) (by omega) (by omega) (by omega) (by omega)]
  omega

set_option maxRecDepth 100000 in
set_option maxHeartbeats 1000000 in
theorem rcheck_any (w : World) (v : Value) (l : List Int) (hv : Bytes w v l) (hn : l.length ≤ 5000) :
    Calls Tryd.prog 19 #[v] w fun e w' => e = .returned (.int .u32 (checkI (digest (digest l)))) ∧ Below w.heap.size w w' := by
  have TW := hide (rtwice_any w v l hv hn)
  obtain ⟨a, cap, rfl, hc1, hc2⟩ := hv.form
  have HL2 := hide (digest_length (digest l))
  have b0 := digest_at (digest l) 0
  have b1 := digest_at (digest l) 1
  have b2 := digest_at (digest l) 2
  have b3 := digest_at (digest l) 3
  have HCH : Hid (∀ d0 d1 d2 d3, (digest (digest l)).getD 0 0 = d0 → (digest (digest l)).getD 1 0 = d1 → (digest (digest l)).getD 2 0 = d2 → (digest (digest l)).getD 3 0 = d3 → checkI (digest (digest l)) = d0 + d1 * 256 + d2 * 65536 + d3 * 16777216) := hide (fun d0 d1 d2 d3 e0 e1 e2 e3 => checkI_sum _ d0 d1 d2 d3 e0 e1 e2 e3 (e0 ▸ b0) (e1 ▸ b1) (e2 ▸ b2) (e3 ▸ b3))
  clear hv hn
  generalize digest (digest l) = D at *
  go_enter Tryd.func19, Tryd.ntmps19
  go_wp2_with fail
  refine TW.out.mono ?_
  rintro e w1 ⟨rfl, hbel1⟩
  have HB1 := hide hbel1
  have hKP := hash_kept w1 D HL2.out
  clear hbel1 TW
  have hl := HL2.out
  have c0 := hKP.2.cell0 0 (by omega)
  have c1 := hKP.2.cell0 1 (by omega)
  have c2 := hKP.2.cell0 2 (by omega)
  have c3 := hKP.2.cell0 3 (by omega)
  have HBK := hide hKP.1
  clear hKP hl
  obtain ⟨d0, h0⟩ : ∃ d0, D.getD 0 0 = d0 := ⟨_, rfl⟩
  obtain ⟨d1, h1⟩ : ∃ d1, D.getD 1 0 = d1 := ⟨_, rfl⟩
  obtain ⟨d2, h2⟩ : ∃ d2, D.getD 2 0 = d2 := ⟨_, rfl⟩
  obtain ⟨d3, h3⟩ : ∃ d3, D.getD 3 0 = d3 := ⟨_, rfl⟩
  rw [h0] at c0 b0
  rw [h1] at c1 b1
  rw [h2] at c2 b2
  rw [h3] at c3 b3
  obtain ⟨b00, b01⟩ := b0
  obtain ⟨b10, b11⟩ := b1
  obtain ⟨b20, b21⟩ := b2
  obtain ⟨b30, b31⟩ := b3
  have HCH := hide (HCH.out d0 d1 d2 d3 h0 h1 h2 h3)
  clear h0 h1 h2 h3
  go_wp2_with (refine wp_store_arr rfl 58 (.tmp 3) (.tmp 5) rfl _ 0 .u8 D rfl rfl 32 (hash_there _) info_h HL2.out ?_)
  go_ret
  refine ⟨?_, below_on HB1.out HBK.out⟩
  rw [HCH.out]
  simp

end Go.Proofs.YtbhninaaeeoamaaDoor
