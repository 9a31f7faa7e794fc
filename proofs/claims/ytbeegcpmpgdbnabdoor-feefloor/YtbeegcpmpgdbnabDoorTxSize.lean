/-
  What tx.Size answers at this program, whatever the transaction.
-/
import Derived.Test.YtbeegcpmpgdbnabDoorTxWr
namespace Go.Proofs.YtbeegcpmpgdbnabDoor
open Go.RowKit

theorem tsize_any (t : Tr) (iv ov : Value) (w : World) (hi : InsAt w iv t.ins) (ho : OutsAt w ov t.outs) (hok : TrOk t) :
    Calls Tryd.prog 10 #[.agg #[.int .u32 t.ver, iv, ov]] w fun e w' => e = .returned (.tuple #[.int .i64 (ptL t).length, .int .i64 (ptE t)]) ∧ Below w.heap.size w w' := by
  have hbel : Below w.heap.size w (w.alloc (.cells #[.int .u32 t.ver, iv, ov] 36)) := (Below.refl _ _).alloc (Nat.le_refl _) _
  have P := hide (tput_any t iv ov _ (hi.on hbel) (ho.on hbel) hok)
  have HB := hide hbel
  obtain ⟨a, cap, rfl, hc1, hc2⟩ := hi.form
  obtain ⟨a', cap', rfl, hd1, hd2⟩ := ho.form
  generalize ptL t = l at *
  generalize ptE t = pe at *
  clear hi ho hok hbel
  obtain ⟨ver, ins, outs⟩ := t
  simp only at *
  go_enter Tryd.func10, Tryd.ntmps10
  go_wp2_with fail
  refine P.out.mono ?_
  rintro e w1 ⟨v1, rfl, hown, hb1⟩
  obtain ⟨pa, pc, rfl, -, -⟩ := hown.bytes.form
  have R := hide (below_on HB.out hb1)
  clear hb1 hown
  go_wp2
  go_ret2
  exact ⟨rfl, R.out⟩

end Go.Proofs.YtbeegcpmpgdbnabDoor
