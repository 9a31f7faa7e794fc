/-
  What the document's Size (pappusref07) answers at this program, whatever the transaction.
-/
import Derived.Test.YtbeegcpmpgdbnabDoorRefTxPut
import Derived.Test.YtbeegcpmpgdbnabDoorTxR
import Derived.Deep.Cut
namespace Go.Proofs.YtbeegcpmpgdbnabDoor
open Go.RowKit

set_option maxRecDepth 100000 in
set_option maxHeartbeats 1000000 in
theorem rtsize_any (t : Tr) (iv ov : Value) (w : World) (h : TxAt w iv ov t) (hok : TrOk t) :
    Calls Tryd.prog 11 #[.agg #[.int .u32 t.ver, iv, ov]] w fun e w' => e = .returned (.tuple #[.int .i64 (ptL t).length, .int .i64 (ptE t)]) ∧ Below w.heap.size w w' := by
  have hbel := below_new w (.cells #[.int .u32 t.ver, iv, ov] 36)
  have P := hide (rtput_any t iv ov _ (h.on hbel).1 (h.on hbel).2 hok)
  have HB := hide hbel
  have HX := hide (TBox.new w (.int .u32 t.ver) iv ov 36)
  obtain ⟨a, cap, rfl, -, -⟩ := h.1.form
  obtain ⟨a', cap', rfl, -, -⟩ := h.2.form
  obtain ⟨n0, n1, n2⟩ := HX.out
  clear h hok hbel HX
  generalize hL : ptL t = L at *
  generalize hE : ptE t = E at *
  have HLE := hide (And.intro hL hE)
  clear hL hE
  go_enter Tryd.func11, Tryd.ntmps11
  go_upto_region 1 with fail
  generalize w.alloc (.cells #[.int .u32 t.ver, .slice a t.ins.length cap, .slice a' t.outs.length cap'] 36) = W0 at *
  go_wp2_with fail
  refine P.out.mono ?_
  rintro e w1 ⟨v1, rfl, hown, hb1⟩
  obtain ⟨a1, c1, rfl, -, -⟩ := hown.bytes.form
  have HB1 := hide (below_on HB.out hb1)
  clear hb1 hown n0 n1 n2 P HB
  go_wp2
  go_ret2
  exact ⟨by first | rfl | simp, HB1.out⟩

end Go.Proofs.YtbeegcpmpgdbnabDoor
