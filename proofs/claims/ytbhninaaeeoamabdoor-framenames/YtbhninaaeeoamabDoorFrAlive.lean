/-
  What pappuslaw05.alive answers at this program.
-/
import Derived.Test.YtbhninaaeeoamabDoorFrPut
import Derived.Test.YtbhninaaeeoamabDoorFrGet
import Derived.Test.YtbhninaaeeoamabDoorSame
import Derived.KernelRfl
namespace Go.Proofs.YtbhninaaeeoamabDoor
open Go.RowKit

/-- The document's example. -/
def wantL : List Int := [196, 240, 122, 30, 118, 101, 114, 97, 99, 107, 0, 0, 0, 0, 0, 0, 0, 0, 0, 0, 93, 246, 224, 226]
def verackB : ByteArray := ⟨#[118, 101, 114, 97, 99, 107]⟩
theorem verack_put : fpL (strL verackB) [] = wantL := by kernel_rfl
theorem verack_putE : fpE (strL verackB) [] = 0 := by kernel_rfl
theorem verack_getE : geE wantL = 0 := by kernel_rfl
theorem verack_getC : geC wantL = strL verackB := by kernel_rfl
theorem verack_getN : geN wantL = 24 := by kernel_rfl
theorem verack_getB : geB wantL = [] := by kernel_rfl
theorem want_byte : ∀ z ∈ wantL, Byte z := by
  intro z hz
  simp only [wantL, List.mem_cons, List.not_mem_nil, or_false] at hz
  unfold Byte
  omega

set_option maxRecDepth 100000 in
set_option maxHeartbeats 1000000 in
theorem alive_any (w : World) (hk : Ks w) : Calls Tryd.prog 5 #[] w fun e w' => e = .returned (.bool true) ∧ Below w.heap.size w w' := by
  have P := hide ((fput_any w verackB (.slice none 0 0) [] (Bytes.nil w) hk (by decide)).mono fun _ _ h => h.bytes)
  rw [verack_put, verack_putE] at P
  have G := hide (fun wx p (h : Bytes wx p wantL) (j : Ks wx) => fget_any wx p wantL h want_byte j)
  unfold GetDone at G
  rw [verack_getE, verack_getC, verack_getN, verack_getB, str_strL] at G
  have HK := hide hk
  have SM := hide (fun wx p q (h : Bytes wx p wantL) (j : Bytes wx q wantL) => same_any wantL wantL p q wx h j)
  rw [decide_eq_true rfl] at SM
  clear hk
  have hvb : verackB.toList = [118, 101, 114, 97, 99, 107] := by rw [ByteArray.toList_eq]; rfl
  have HW := hide (fun wx => Bytes.made wx #[.int .u8 196, .int .u8 240, .int .u8 122, .int .u8 30, .int .u8 118, .int .u8 101, .int .u8 114, .int .u8 97, .int .u8 99, .int .u8 107, .int .u8 0, .int .u8 0, .int .u8 0, .int .u8 0, .int .u8 0, .int .u8 0, .int .u8 0, .int .u8 0, .int .u8 0, .int .u8 0, .int .u8 93, .int .u8 246, .int .u8 224, .int .u8 226] wantL 24 rfl (by omega) rfl)
  go_enter Tryd.func5, Tryd.ntmps5
  go_wp2_with fail
  refine P.out.mono ?_
  rintro e w1 ⟨v1, rfl, hv1, hbel1⟩
  go_upto_region 3 with fail
  have HV1 := hide (hv1.alloc (.cells #[.int .u8 196, .int .u8 240, .int .u8 122, .int .u8 30, .int .u8 118, .int .u8 101, .int .u8 114, .int .u8 97, .int .u8 99, .int .u8 107, .int .u8 0, .int .u8 0, .int .u8 0, .int .u8 0, .int .u8 0, .int .u8 0, .int .u8 0, .int .u8 0, .int .u8 0, .int .u8 0, .int .u8 93, .int .u8 246, .int .u8 224, .int .u8 226] 5))
  have HW1 := hide (HW.out w1)
  have HB1 := hide (hbel1.alloc hbel1.size (.cells #[.int .u8 196, .int .u8 240, .int .u8 122, .int .u8 30, .int .u8 118, .int .u8 101, .int .u8 114, .int .u8 97, .int .u8 99, .int .u8 107, .int .u8 0, .int .u8 0, .int .u8 0, .int .u8 0, .int .u8 0, .int .u8 0, .int .u8 0, .int .u8 0, .int .u8 0, .int .u8 0, .int .u8 93, .int .u8 246, .int .u8 224, .int .u8 226] 5))
  clear hv1 hbel1 HW P
  generalize w1.alloc (.cells #[.int .u8 196, .int .u8 240, .int .u8 122, .int .u8 30, .int .u8 118, .int .u8 101, .int .u8 114, .int .u8 97, .int .u8 99, .int .u8 107, .int .u8 0, .int .u8 0, .int .u8 0, .int .u8 0, .int .u8 0, .int .u8 0, .int .u8 0, .int .u8 0, .int .u8 0, .int .u8 0, .int .u8 93, .int .u8 246, .int .u8 224, .int .u8 226] 5) = W1 at *
  go_wp2_with fail
  refine (G.out _ _ HW1.out (HK.out.on HB1.out)).mono ?_
  rintro e w2 ⟨v2, rfl, hown2, hbel2⟩
  have HV2 := hide (HV1.out.below hbel2)
  have HW2 := hide (HW1.out.below hbel2)
  have HB2 := hide (below_on HB1.out hbel2)
  obtain ⟨a2, cap2, rfl, -⟩ := hown2.bytes.form
  clear hown2 hbel2 HV1 HW1 HB1 G
  go_wp2_with fail
  refine (SM.out _ _ _ HV2.out HW2.out).mono ?_
  rintro e w3 ⟨rfl, nn, rfl⟩
  go_wp2
  go_ret
  exact ⟨rfl, HB2.out.trans ⟨rfl, rfl, rfl, Nat.le_refl _, fun _ _ => rfl⟩⟩

end Go.Proofs.YtbhninaaeeoamabDoor
