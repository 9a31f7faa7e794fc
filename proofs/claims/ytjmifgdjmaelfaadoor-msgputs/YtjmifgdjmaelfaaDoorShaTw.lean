/-
  What sha.Check answers at this program.
-/
import Derived.Test.YtjmifgdjmaelfaaDoorShaB
namespace Go.Proofs.YtjmifgdjmaelfaaDoor
open Go.RowKit

/-- The first four bytes as a number, the lowest first. -/
def checkI (D : List Int) : Int := bits .or .u32 (bits .or .u32 (bits .or .u32 (D.getD 0 0 % 4294967296) (D.getD 1 0 % 4294967296 * 256 % 4294967296)) (D.getD 2 0 % 4294967296 * 65536 % 4294967296)) (D.getD 3 0 % 4294967296 * 16777216 % 4294967296)
set_option maxRecDepth 100000 in
set_option maxHeartbeats 1000000 in
theorem shaCheck_any (w : World) (v : Value) (l : List Int) (hv : Bytes w v l) (hk : Ks w) (hsz : l.length ≤ 100000000) :
    Calls Tryd.prog 99 #[v] w fun e w' => e = .returned (.int .u32 (checkI (digest (digest l)))) ∧ Below w.heap.size w w' := by
  obtain ⟨a, cap, rfl, hc1, hc2⟩ := hv.form
  have TW := hide (twice_flat (w.alloc (.cells #[.slice a l.length cap] 29)) (.slice (some ⟨w.heap.size, 0, none⟩) 1 1) [l] l (by simp) (Parts.one w _ l hv) (hk.alloc _) hsz)
  have HL2 := hide (digest_length (digest l))
  clear hv hk
  generalize digest (digest l) = D at *
  go_enter Tryd.func99, Tryd.ntmps99
  go_wp2_with fail
  refine TW.out.mono ?_
  rintro e w1 ⟨rfl, hbel1⟩
  have HB1 := hide (box1 hbel1)
  have hKP := hash_kept w1 D HL2.out
  clear hbel1 TW
  have hl := HL2.out
  have c0 := hKP.2.cell0 0 (by omega)
  have c1 := hKP.2.cell0 1 (by omega)
  have c2 := hKP.2.cell0 2 (by omega)
  have c3 := hKP.2.cell0 3 (by omega)
  have HBK := hide hKP.1
  clear hKP hl
  have HCH : Hid (∀ d0 d1 d2 d3, D.getD 0 0 = d0 → D.getD 1 0 = d1 → D.getD 2 0 = d2 → D.getD 3 0 = d3 → checkI D = bits .or .u32 (bits .or .u32 (bits .or .u32 (d0 % 4294967296) (d1 % 4294967296 * 256 % 4294967296)) (d2 % 4294967296 * 65536 % 4294967296)) (d3 % 4294967296 * 16777216 % 4294967296)) := hide (by rintro _ _ _ _ rfl rfl rfl rfl; rfl)
  obtain ⟨d0, h0⟩ : ∃ d0, D.getD 0 0 = d0 := ⟨_, rfl⟩
  obtain ⟨d1, h1⟩ : ∃ d1, D.getD 1 0 = d1 := ⟨_, rfl⟩
  obtain ⟨d2, h2⟩ : ∃ d2, D.getD 2 0 = d2 := ⟨_, rfl⟩
  obtain ⟨d3, h3⟩ : ∃ d3, D.getD 3 0 = d3 := ⟨_, rfl⟩
  rw [h0] at c0
  rw [h1] at c1
  rw [h2] at c2
  rw [h3] at c3
  have HCH := hide (HCH.out d0 d1 d2 d3 h0 h1 h2 h3)
  clear h0 h1 h2 h3
  go_wp2_with (refine wp_store_arr rfl 36 (.tmp 3) (.tmp 6) rfl _ 0 .u8 D rfl rfl 32 (hash_room _) info_h HL2.out ?_)
  go_ret
  refine ⟨?_, below_on HB1.out HBK.out⟩
  rw [HCH.out]
  simp

end Go.Proofs.YtjmifgdjmaelfaaDoor
