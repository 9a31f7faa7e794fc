/-
  What msg.Frame answers at this program, of a message that is refused.
-/
import Derived.Test.YtjmifgdjmaelfabDoorMgWays
import Derived.Test.YtjmifgdjmaelfabDoorMgLawK
namespace Go.Proofs.YtjmifgdjmaelfabDoor
open Go.RowKit

set_option maxRecDepth 100000 in
set_option maxHeartbeats 1000000 in
theorem mframe_bad (m : Mg) (d iv ov : Value) (w : World) (h : MsgAt w d iv ov m) (hok : MgOk m) (hE : mpE m ≠ 0) :
    Calls Tryd.prog 6 #[.agg #[.int .i64 m.kind, .int .u64 m.n, .int .u32 m.code, d, .int .u32 m.tx.ver, iv, ov]] w fun e w' => e = .returned (.tuple #[.slice none 0 0, .int .i64 (mpE m)]) ∧ Below w.heap.size w w' := by
  have hnew := below_new w (.cells #[.int .i64 m.kind, .int .u64 m.n, .int .u32 m.code, d, .int .u32 m.tx.ver, iv, ov] 30)
  have HT := hide (h.on hnew)
  have HB := hide hnew
  have HX := hide (MBox.new w (.int .i64 m.kind) (.int .u64 m.n) (.int .u32 m.code) d (.int .u32 m.tx.ver) iv ov 30)
  have PT := hide (fun w (h : MsgAt w d iv ov m) => mput_is m d iv ov w h hok _ _ (mpE m) (mp_bad hE).1 (mp_bad hE).2 rfl)
  obtain ⟨sa, sc, ia, ic, oa, oc, rfl, rfl, rfl⟩ := h.form
  generalize mpE m = E at *
  clear hnew h hok
  go_enter Tryd.func6, Tryd.ntmps6
  go_upto_region 1 with fail
  generalize w.alloc (.cells #[.int .i64 m.kind, .int .u64 m.n, .int .u32 m.code, .slice sa m.ids.length sc, .int .u32 m.tx.ver, .slice ia m.tx.ins.length ic, .slice oa m.tx.outs.length oc] 30) = W at *
  generalize hg : w.heap.size = g at *
  have HG := hide hg
  clear hg
  obtain ⟨p0, p1, p2, p3, p4, p5, p6⟩ := HX.out
  go_wp2_with fail
  refine (PT.out _ HT.out).mono ?_
  rintro e w3 ⟨pa, pc, rfl, hown3, hb3⟩
  have R := hide (HB.out.trans (hb3.mono (by have := HB.out.size; have := HG.out; omega)))
  clear hown3 hb3 HT HB HX PT p0 p1 p2 p3 p4 p5 p6
  go_wp2
  go_ret2
  rw [HG.out]
  exact ⟨rfl, R.out⟩

end Go.Proofs.YtjmifgdjmaelfabDoor
