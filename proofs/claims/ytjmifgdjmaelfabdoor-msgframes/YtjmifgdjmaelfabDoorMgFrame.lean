/-
  What msg.Frame answers at this program, of a message that is put.
-/
import Derived.Test.YtjmifgdjmaelfabDoorMgLawK
import Derived.Test.YtjmifgdjmaelfabDoorFrA
import Derived.Test.YtjmifgdjmaelfabDoorFrBack
namespace Go.Proofs.YtjmifgdjmaelfabDoor
open Go.RowKit

theorem cmd_named {m : Mg} (h : mpE m = 0) : namedL (strL (mpC m)) = true ∧ (mpC m).size ≤ 12 := by
  obtain ⟨h1, h2, -⟩ := mp_body h
  rw [h2]
  refine ⟨?_, (shp_ok m.kind).2.2.2.2.2.2⟩
  generalize m.kind = k at *
  rcases kinds h1 with rfl | rfl | rfl | rfl | rfl | rfl | rfl | rfl | rfl | rfl | rfl <;> decide
set_option maxRecDepth 100000 in
set_option maxHeartbeats 1000000 in
theorem mframe_good (m : Mg) (d iv ov : Value) (w : World) (h : MsgAt w d iv ov m) (hok : MgOk m) (hk : Ks w) (hE : mpE m = 0) :
    Calls Tryd.prog 6 #[.agg #[.int .i64 m.kind, .int .u64 m.n, .int .u32 m.code, d, .int .u32 m.tx.ver, iv, ov]] w fun e w' => ∃ a c, e = .returned (.tuple #[.slice a (frameL (strL (mpC m)) (mpB m)).length c, .int .i64 0]) ∧ Bytes w' (.slice a (frameL (strL (mpC m)) (mpB m)).length c) (frameL (strL (mpC m)) (mpB m)) ∧ Below w.heap.size w w' := by
  have hnew := below_new w (.cells #[.int .i64 m.kind, .int .u64 m.n, .int .u32 m.code, d, .int .u32 m.tx.ver, iv, ov] 30)
  have HT := hide (h.on hnew)
  have HB := hide hnew
  have HK := hide (hk.on hnew)
  have HX := hide (MBox.new w (.int .i64 m.kind) (.int .u64 m.n) (.int .u32 m.code) d (.int .u32 m.tx.ver) iv ov 30)
  have PT := hide (fun w (h : MsgAt w d iv ov m) => mput_is m d iv ov w h hok _ _ 0 rfl rfl hE)
  obtain ⟨n1, n2⟩ := cmd_named hE
  obtain ⟨-, blen, -⟩ := mpB_all m hok hE
  obtain ⟨f1, f2⟩ : fpE (strL (mpC m)) (mpB m) = 0 ∧ fpL (strL (mpC m)) (mpB m) = frameL (strL (mpC m)) (mpB m) := by
    rcases fp_cases (strL (mpC m)) (mpB m) with ⟨hn, -⟩ | ⟨-, hl, -⟩ | ⟨-, -, h1, h2⟩
    · rw [n1] at hn; cases hn
    · omega
    · exact ⟨h1, h2⟩
  have FP := hide (fun w v (hv : Bytes w v (mpB m)) (hk : Ks w) => (fput_any w (mpC m) v (mpB m) hv hk (by omega)).mono fun e w' h => h.bytes)
  rw [f1, f2] at FP
  obtain ⟨sa, sc, ia, ic, oa, oc, rfl, rfl, rfl⟩ := h.form
  clear hnew h hok hk hE n1 n2 blen f1 f2
  generalize frameL (strL (mpC m)) (mpB m) = F at *
  generalize mpB m = B at *
  generalize mpC m = C at *
  go_enter Tryd.func6, Tryd.ntmps6
  go_upto_region 1 with fail
  generalize w.alloc (.cells #[.int .i64 m.kind, .int .u64 m.n, .int .u32 m.code, .slice sa m.ids.length sc, .int .u32 m.tx.ver, .slice ia m.tx.ins.length ic, .slice oa m.tx.outs.length oc] 30) = W at *
  generalize hg : w.heap.size = g at *
  have HG := hide hg
  clear hg
  have HBG : Hid (g ≤ W.heap.size) := hide (by have := HB.out.size; have := HG.out; omega)
  obtain ⟨p0, p1, p2, p3, p4, p5, p6⟩ := HX.out
  go_wp2_with fail
  refine (PT.out _ HT.out).mono ?_
  rintro e w3 ⟨pa, pc, rfl, hown3, hb3⟩
  have HB3 := hide (HB.out.trans (hb3.mono HBG.out))
  have HBG3 : Hid (g ≤ w3.heap.size) := hide (Nat.le_trans HBG.out hb3.size)
  have HC3 := hide hown3.bytes
  have HK3 := hide (HK.out.on hb3)
  clear hown3 hb3 HT HB HX HK HBG PT p0 p1 p2 p3 p4 p5 p6
  go_wp2_with fail
  refine (FP.out _ _ HC3.out HK3.out).mono ?_
  rintro e w4 ⟨v4, rfl, hby4, hb4⟩
  obtain ⟨fa, fc, rfl, -, -⟩ := hby4.form
  have R : Hid (Bytes w4 (.slice fa F.length fc) F ∧ Below g w w4) := hide ⟨hby4, HB3.out.trans (hb4.mono HBG3.out)⟩
  clear hby4 hb4 HB3 HBG3 HC3 HK3 FP
  go_wp2
  go_ret2
  rw [HG.out]
  exact ⟨_, _, rfl, R.out⟩

end Go.Proofs.YtjmifgdjmaelfabDoor
