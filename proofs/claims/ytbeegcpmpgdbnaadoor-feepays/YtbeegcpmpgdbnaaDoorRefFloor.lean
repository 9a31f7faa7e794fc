/-
  What the document's Floor (pappusref10) answers at this program.
-/
import Derived.Test.YtbeegcpmpgdbnaaDoorFeeD
import Derived.Test.YtbeegcpmpgdbnaaDoorRefNeed
namespace Go.Proofs.YtbeegcpmpgdbnaaDoor
open Go.RowKit

set_option maxHeartbeats 1000000 in
theorem rfloor_any (n : Int) (h1 : -9223372036854775808 ≤ n) (h2 : n < 9223372036854775808) (w : World) :
    Calls Tryd.prog 16 #[.int .i64 n] w fun e w' => e = .returned (.int .u64 (floorV n)) ∧ Below w.heap.size w w' := by
  have C := hide (fun w => rneed_all (sz0 n) 100 (by unfold sz0; omega) (by omega) w)
  have e1 : IntKind.u64.wrap (max n 0) = (sz0 n : Int) := by
    rw [IntKind.wrap_u64]
    unfold sz0
    omega
  have HF : Hid (floorV n = (needV (sz0 n) 100 : Nat)) := hide rfl
  generalize needV (sz0 n) 100 = q at *
  generalize needE (sz0 n) 100 = e at *
  generalize sz0 n = s at *
  generalize floorV n = f at *
  clear h1 h2
  go_enter Tryd.func16, Tryd.ntmps16
  go_wp2_with fail
  refine (C.out _).mono ?_
  rintro e w' ⟨rfl, hb⟩
  have HB := hide hb
  clear hb C e1
  go_wp2
  go_ret
  exact ⟨by rw [HF.out]; first | done | rfl, HB.out⟩

end Go.Proofs.YtbeegcpmpgdbnaaDoor
