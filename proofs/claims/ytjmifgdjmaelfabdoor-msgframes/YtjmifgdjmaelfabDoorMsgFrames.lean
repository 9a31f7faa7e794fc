/-
  Proved: of every message and every slice of bytes the law MsgFrames answers true, and its arguments read as they did. The card: the listed tables are tied to the program's text, or pinned.
-/
import Derived.Test.YtjmifgdjmaelfabDoorMgFrame
import Derived.Test.YtjmifgdjmaelfabDoorMgFrBad
import Derived.Test.YtjmifgdjmaelfabDoorFrA
import Derived.Test.YtjmifgdjmaelfabDoorFrLaw
namespace Go.Proofs.YtjmifgdjmaelfabDoor
open Go.ChangeShapes Go.WideShapes Go.ChangeAt Go.RowKit

set_option maxRecDepth 100000 in
set_option maxHeartbeats 1000000 in
theorem frames8_great {w : World} (m : Mg) (d iv ov : Value) (h : MsgAt w d iv ov m) (hok : MgOk m) (u : Value) (r : List Int) (hk : Ks w) (hu : Bytes w u r) (hg : greatM m = true) :
    Calls Tryd.prog 3 #[.agg #[.int .i64 m.kind, .int .u64 m.n, .int .u32 m.code, d, .int .u32 m.tx.ver, iv, ov], u] w fun e w' => e = .returned (.bool true) ∧ Below w.heap.size w w' := by
  have hnew := below_new w (.cells #[.int .i64 m.kind, .int .u64 m.n, .int .u32 m.code, d, .int .u32 m.tx.ver, iv, ov] 30)
  have HT0 := hide (h.on hnew)
  have HB0 := hide hnew
  have HX0 := hide (MBox.new w (.int .i64 m.kind) (.int .u64 m.n) (.int .u32 m.code) d (.int .u32 m.tx.ver) iv ov 30)
  have GR := hide (fun w (h : MsgAt w d iv ov m) => great8_any m d iv ov w h hok)
  have AL := hide alive8_any
  have HU0 := hide (hu.below hnew)
  have HK0 := hide (hk.on hnew)
  rw [hg] at GR
  obtain ⟨sa, sc, ia, ic, oa, oc, rfl, rfl, rfl⟩ := h.form
  obtain ⟨ra, rc, rfl, hr1, hr2⟩ := hu.form
  clear hnew h hok hg hu hk
  go_enter Tryd.func3, Tryd.ntmps3
  go_upto_region 1 with fail
  generalize w.alloc (.cells #[.int .i64 m.kind, .int .u64 m.n, .int .u32 m.code, .slice sa m.ids.length sc, .int .u32 m.tx.ver, .slice ia m.tx.ins.length ic, .slice oa m.tx.outs.length oc] 30) = W0 at *
  generalize hg : w.heap.size = g at *
  have HG := hide hg
  clear hg
  have HBG : Hid (g ≤ W0.heap.size) := hide (by have := HB0.out.size; have := HG.out; omega)
  go_wp2_with fail
  refine (AL.out _).mono ?_
  rintro e w1 ⟨rfl, hb1⟩
  have HB1 := hide (HB0.out.trans (hb1.mono HBG.out))
  have HBG1 : Hid (g ≤ w1.heap.size) := hide (Nat.le_trans HBG.out hb1.size)
  have HT1 := hide (HT0.out.on hb1)
  have HX1 := hide (HX0.out.on hb1)
  obtain ⟨p0, p1, p2, p3, p4, p5, p6⟩ := HX1.out
  have HU1 := hide (HU0.out.below hb1)
  have HK1 := hide (HK0.out.on hb1)
  clear hb1 HU0 HK0 HB0 HT0 HX0 AL HBG
  go_wp2_with fail
  refine (GR.out _ HT1.out).mono ?_
  rintro e w2 ⟨rfl, hb2⟩
  have HB2 := hide (HB1.out.trans (hb2.mono HBG1.out))
  have HBG2 : Hid (g ≤ w2.heap.size) := hide (Nat.le_trans HBG1.out hb2.size)
  have HT2 := hide (HT1.out.on hb2)
  have HX2 := hide (HX1.out.on hb2)
  have HU2 := hide (HU1.out.below hb2)
  have HK2 := hide (HK1.out.on hb2)
  clear HU1 HK1
  clear p0 p1 p2 p3 p4 p5 p6
  obtain ⟨p0, p1, p2, p3, p4, p5, p6⟩ := HX2.out
  clear hb2 HB1 HT1 HX1 GR HBG1
  clear HT2 HX2 HU2 HK2 p0 p1 p2 p3 p4 p5 p6
  go_wp2
  go_ret
  rw [HG.out]
  exact ⟨rfl, HB2.out⟩
set_option maxRecDepth 100000 in
set_option maxHeartbeats 1000000 in
theorem frames8_far {w : World} (m : Mg) (d iv ov : Value) (h : MsgAt w d iv ov m) (hok : MgOk m) (u : Value) (r : List Int) (hk : Ks w) (hu : Bytes w u r) (hg : greatM m = false) (hn : ¬ r.length ≤ 3000) :
    Calls Tryd.prog 3 #[.agg #[.int .i64 m.kind, .int .u64 m.n, .int .u32 m.code, d, .int .u32 m.tx.ver, iv, ov], u] w fun e w' => e = .returned (.bool true) ∧ Below w.heap.size w w' := by
  have hnew := below_new w (.cells #[.int .i64 m.kind, .int .u64 m.n, .int .u32 m.code, d, .int .u32 m.tx.ver, iv, ov] 30)
  have HT0 := hide (h.on hnew)
  have HB0 := hide hnew
  have HX0 := hide (MBox.new w (.int .i64 m.kind) (.int .u64 m.n) (.int .u32 m.code) d (.int .u32 m.tx.ver) iv ov 30)
  have GR := hide (fun w (h : MsgAt w d iv ov m) => great8_any m d iv ov w h hok)
  have AL := hide alive8_any
  have HU0 := hide (hu.below hnew)
  have HK0 := hide (hk.on hnew)
  rw [hg] at GR
  obtain ⟨sa, sc, ia, ic, oa, oc, rfl, rfl, rfl⟩ := h.form
  obtain ⟨ra, rc, rfl, hr1, hr2⟩ := hu.form
  have hn1 : (3000 : Int) < (r.length : Int) := by omega
  clear hnew h hok hg hu hk hn
  go_enter Tryd.func3, Tryd.ntmps3
  go_upto_region 1 with fail
  generalize w.alloc (.cells #[.int .i64 m.kind, .int .u64 m.n, .int .u32 m.code, .slice sa m.ids.length sc, .int .u32 m.tx.ver, .slice ia m.tx.ins.length ic, .slice oa m.tx.outs.length oc] 30) = W0 at *
  generalize hg : w.heap.size = g at *
  have HG := hide hg
  clear hg
  have HBG : Hid (g ≤ W0.heap.size) := hide (by have := HB0.out.size; have := HG.out; omega)
  go_wp2_with fail
  refine (AL.out _).mono ?_
  rintro e w1 ⟨rfl, hb1⟩
  have HB1 := hide (HB0.out.trans (hb1.mono HBG.out))
  have HBG1 : Hid (g ≤ w1.heap.size) := hide (Nat.le_trans HBG.out hb1.size)
  have HT1 := hide (HT0.out.on hb1)
  have HX1 := hide (HX0.out.on hb1)
  obtain ⟨p0, p1, p2, p3, p4, p5, p6⟩ := HX1.out
  have HU1 := hide (HU0.out.below hb1)
  have HK1 := hide (HK0.out.on hb1)
  clear hb1 HU0 HK0 HB0 HT0 HX0 AL HBG
  go_wp2_with fail
  refine (GR.out _ HT1.out).mono ?_
  rintro e w2 ⟨rfl, hb2⟩
  have HB2 := hide (HB1.out.trans (hb2.mono HBG1.out))
  have HBG2 : Hid (g ≤ w2.heap.size) := hide (Nat.le_trans HBG1.out hb2.size)
  have HT2 := hide (HT1.out.on hb2)
  have HX2 := hide (HX1.out.on hb2)
  have HU2 := hide (HU1.out.below hb2)
  have HK2 := hide (HK1.out.on hb2)
  clear HU1 HK1
  clear p0 p1 p2 p3 p4 p5 p6
  obtain ⟨p0, p1, p2, p3, p4, p5, p6⟩ := HX2.out
  clear hb2 HB1 HT1 HX1 GR HBG1
  clear HT2 HX2 HU2 HK2 p0 p1 p2 p3 p4 p5 p6
  go_wp2
  go_ret
  rw [HG.out]
  exact ⟨rfl, HB2.out⟩
set_option maxRecDepth 100000 in
set_option maxHeartbeats 1000000 in
theorem frames8_bad {w : World} (m : Mg) (d iv ov : Value) (h : MsgAt w d iv ov m) (hok : MgOk m) (u : Value) (r : List Int) (hk : Ks w) (hu : Bytes w u r) (hg : greatM m = false) (hn : r.length ≤ 3000) (hE : mpE m ≠ 0) :
    Calls Tryd.prog 3 #[.agg #[.int .i64 m.kind, .int .u64 m.n, .int .u32 m.code, d, .int .u32 m.tx.ver, iv, ov], u] w fun e w' => e = .returned (.bool true) ∧ Below w.heap.size w w' := by
  have hnew := below_new w (.cells #[.int .i64 m.kind, .int .u64 m.n, .int .u32 m.code, d, .int .u32 m.tx.ver, iv, ov] 30)
  have HT0 := hide (h.on hnew)
  have HB0 := hide hnew
  have HX0 := hide (MBox.new w (.int .i64 m.kind) (.int .u64 m.n) (.int .u32 m.code) d (.int .u32 m.tx.ver) iv ov 30)
  have GR := hide (fun w (h : MsgAt w d iv ov m) => great8_any m d iv ov w h hok)
  have AL := hide alive8_any
  have HU0 := hide (hu.below hnew)
  have HK0 := hide (hk.on hnew)
  rw [hg] at GR
  have FB := hide (fun w (h : MsgAt w d iv ov m) => mframe_bad m d iv ov w h hok hE)
  obtain ⟨sa, sc, ia, ic, oa, oc, rfl, rfl, rfl⟩ := h.form
  obtain ⟨ra, rc, rfl, hr1, hr2⟩ := hu.form
  have hn1 : ¬ (3000 : Int) < (r.length : Int) := by omega
  generalize mpE m = E at *
  clear hnew h hok hg hu hk hn
  go_enter Tryd.func3, Tryd.ntmps3
  go_upto_region 1 with fail
  generalize w.alloc (.cells #[.int .i64 m.kind, .int .u64 m.n, .int .u32 m.code, .slice sa m.ids.length sc, .int .u32 m.tx.ver, .slice ia m.tx.ins.length ic, .slice oa m.tx.outs.length oc] 30) = W0 at *
  generalize hg : w.heap.size = g at *
  have HG := hide hg
  clear hg
  have HBG : Hid (g ≤ W0.heap.size) := hide (by have := HB0.out.size; have := HG.out; omega)
  go_wp2_with fail
  refine (AL.out _).mono ?_
  rintro e w1 ⟨rfl, hb1⟩
  have HB1 := hide (HB0.out.trans (hb1.mono HBG.out))
  have HBG1 : Hid (g ≤ w1.heap.size) := hide (Nat.le_trans HBG.out hb1.size)
  have HT1 := hide (HT0.out.on hb1)
  have HX1 := hide (HX0.out.on hb1)
  obtain ⟨p0, p1, p2, p3, p4, p5, p6⟩ := HX1.out
  have HU1 := hide (HU0.out.below hb1)
  have HK1 := hide (HK0.out.on hb1)
  clear hb1 HU0 HK0 HB0 HT0 HX0 AL HBG
  go_wp2_with fail
  refine (GR.out _ HT1.out).mono ?_
  rintro e w2 ⟨rfl, hb2⟩
  have HB2 := hide (HB1.out.trans (hb2.mono HBG1.out))
  have HBG2 : Hid (g ≤ w2.heap.size) := hide (Nat.le_trans HBG1.out hb2.size)
  have HT2 := hide (HT1.out.on hb2)
  have HX2 := hide (HX1.out.on hb2)
  have HU2 := hide (HU1.out.below hb2)
  have HK2 := hide (HK1.out.on hb2)
  clear HU1 HK1
  clear p0 p1 p2 p3 p4 p5 p6
  obtain ⟨p0, p1, p2, p3, p4, p5, p6⟩ := HX2.out
  clear hb2 HB1 HT1 HX1 GR HBG1
  go_wp2_with fail
  refine (FB.out _ HT2.out).mono ?_
  rintro e w3 ⟨rfl, hb3⟩
  have R := hide (HB2.out.trans (hb3.mono HBG2.out))
  clear HT2 HX2 HU2 HK2 HB2 HBG2 FB hb3 p0 p1 p2 p3 p4 p5 p6
  go_wp2
  go_ret
  rw [HG.out]
  exact ⟨rfl, R.out⟩
set_option maxRecDepth 100000 in
set_option maxHeartbeats 1000000 in
theorem frames8_some {w : World} (m : Mg) (d iv ov : Value) (h : MsgAt w d iv ov m) (hok : MgOk m) (u : Value) (r : List Int) (hk : Ks w) (hr : AllB r) (hu : Bytes w u r) (hg : greatM m = false) (hn : r.length ≤ 3000) (hE : mpE m = 0) :
    Calls Tryd.prog 3 #[.agg #[.int .i64 m.kind, .int .u64 m.n, .int .u32 m.code, d, .int .u32 m.tx.ver, iv, ov], u] w fun e w' => e = .returned (.bool true) ∧ Below w.heap.size w w' := by
  have hnew := below_new w (.cells #[.int .i64 m.kind, .int .u64 m.n, .int .u32 m.code, d, .int .u32 m.tx.ver, iv, ov] 30)
  have HT0 := hide (h.on hnew)
  have HB0 := hide hnew
  have HX0 := hide (MBox.new w (.int .i64 m.kind) (.int .u64 m.n) (.int .u32 m.code) d (.int .u32 m.tx.ver) iv ov 30)
  have GR := hide (fun w (h : MsgAt w d iv ov m) => great8_any m d iv ov w h hok)
  have AL := hide alive8_any
  have HU0 := hide (hu.below hnew)
  have HK0 := hide (hk.on hnew)
  rw [hg] at GR
  have FG := hide (fun w (h : MsgAt w d iv ov m) (hk : Ks w) => mframe_good m d iv ov w h hok hk hE)
  obtain ⟨n1, n2⟩ := cmd_named hE
  obtain ⟨ball, blen, -⟩ := mpB_all m hok hE
  obtain ⟨g1, g2⟩ := mg_put m hok hE
  obtain ⟨e1, e2, e3, e4⟩ := frame_back (c := strL (mpC m)) (l := mpB m) n1 (by omega) r
  have hfl := frameL_length n1 (mpB m)
  have hfb : AllB (frameL (strL (mpC m)) (mpB m) ++ r) := AllB.append (frameL_byte n1 ball) hr
  have FE := hide (fun w v (h : Bytes w v (frameL (strL (mpC m)) (mpB m) ++ r)) (hk : Ks w) => fget_any w v _ h hfb hk)
  unfold FGetDone at FE
  rw [e1, e2, e3, e4, str_strL] at FE
  have GT := hide (fun w v (h : Bytes w v (mpB m)) => mget_good (mpC m) (mpB m) v w h ball (by omega) m g1 g2)
  have SM := hide (fun w d' iv' ov' (h : MsgAt w d' iv' ov' m) (h' : MsgAt w d iv ov m) => msame_any m m d' iv' ov' d iv ov w h h' hok hok true (by simp))
  obtain ⟨sa, sc, ia, ic, oa, oc, rfl, rfl, rfl⟩ := h.form
  obtain ⟨ra, rc, rfl, hr1, hr2⟩ := hu.form
  have hn1 : ¬ (3000 : Int) < (r.length : Int) := by omega
  have HLEN : Hid ((frameL (strL (mpC m)) (mpB m)).length ≤ 3000) := hide (by omega)
  have hflI : (((frameL (strL (mpC m)) (mpB m)).length : Nat) : Int) = 24 + ((mpB m).length : Int) := by omega
  have HFLI := hide hflI
  have HNN := hide hn
  clear hnew h hok hg hu hk hn hr n1 n2 ball blen g1 g2 e1 e2 e3 e4 hfl hfb hE hflI
  generalize frameL (strL (mpC m)) (mpB m) = F at *
  generalize mpB m = B at *
  generalize mpC m = C at *
  go_enter Tryd.func3, Tryd.ntmps3
  go_upto_region 1 with fail
  generalize w.alloc (.cells #[.int .i64 m.kind, .int .u64 m.n, .int .u32 m.code, .slice sa m.ids.length sc, .int .u32 m.tx.ver, .slice ia m.tx.ins.length ic, .slice oa m.tx.outs.length oc] 30) = W0 at *
  generalize hg : w.heap.size = g at *
  have HG := hide hg
  clear hg
  have HBG : Hid (g ≤ W0.heap.size) := hide (by have := HB0.out.size; have := HG.out; omega)
  go_wp2_with fail
  refine (AL.out _).mono ?_
  rintro e w1 ⟨rfl, hb1⟩
  have HB1 := hide (HB0.out.trans (hb1.mono HBG.out))
  have HBG1 : Hid (g ≤ w1.heap.size) := hide (Nat.le_trans HBG.out hb1.size)
  have HT1 := hide (HT0.out.on hb1)
  have HX1 := hide (HX0.out.on hb1)
  obtain ⟨p0, p1, p2, p3, p4, p5, p6⟩ := HX1.out
  have HU1 := hide (HU0.out.below hb1)
  have HK1 := hide (HK0.out.on hb1)
  clear hb1 HU0 HK0 HB0 HT0 HX0 AL HBG
  go_wp2_with fail
  refine (GR.out _ HT1.out).mono ?_
  rintro e w2 ⟨rfl, hb2⟩
  have HB2 := hide (HB1.out.trans (hb2.mono HBG1.out))
  have HBG2 : Hid (g ≤ w2.heap.size) := hide (Nat.le_trans HBG1.out hb2.size)
  have HT2 := hide (HT1.out.on hb2)
  have HX2 := hide (HX1.out.on hb2)
  have HU2 := hide (HU1.out.below hb2)
  have HK2 := hide (HK1.out.on hb2)
  clear HU1 HK1
  clear p0 p1 p2 p3 p4 p5 p6
  obtain ⟨p0, p1, p2, p3, p4, p5, p6⟩ := HX2.out
  clear hb2 HB1 HT1 HX1 GR HBG1
  go_wp2_with fail
  refine (FG.out _ HT2.out HK2.out).mono ?_
  rintro e w3 ⟨fa, fc, rfl, hby3, hb3⟩
  have HB3 := hide (HB2.out.trans (hb3.mono HBG2.out))
  have HBG3 : Hid (g ≤ w3.heap.size) := hide (Nat.le_trans HBG2.out hb3.size)
  have HX3 := hide (HX2.out.on hb3)
  have HT3 := hide (HT2.out.on hb3)
  have HU3 := hide (HU2.out.below hb3)
  have HK3 := hide (HK2.out.on hb3)
  have HC3 := hide hby3
  clear p0 p1 p2 p3 p4 p5 p6 hb3 hby3 HB2 HX2 HT2 HU2 HK2 HBG2 FG
  -- the copy
  have hm := below_new w3 (.cells #[] 5)
  have HM := hide (Own.made w3 w3.heap.size (Nat.le_refl _))
  have HC4 := hide (HC3.out.below hm)
  have HM3 := hide hm
  clear hm
  go_wp2_with (at_builtin; refine wp_append_by rfl _ _ rfl w3.heap.size _ [] rfl HM.out _ F rfl HC4.out ?c1 ?c2 ?_)
  case c1 => have := HLEN.out; simp; omega
  case c2 => exact HM3.out.size
  intro v4 w4 hown4 hg4
  have hb4 : Below w3.heap.size w3 w4 := HM3.out.trans (HM.out.grew hg4 HM3.out.size)
  have HO4 := hide (show Own w4 w3.heap.size v4 F from hown4)
  have HB4 := hide hb4
  have HU4 := hide (HU3.out.below hb4)
  clear hown4 hg4 hb4 HM HC4 HM3
  go_wp2_with (at_builtin; refine wp_append_by rfl _ _ rfl w3.heap.size _ F rfl HO4.out _ r rfl HU4.out ?c3 ?c4 ?_)
  case c3 => have := HLEN.out; have := HNN.out; omega
  case c4 => exact HB4.out.size
  intro v5 w5 hown5 hg5
  have hb5 := HB4.out.trans (HO4.out.grew hg5 HB4.out.size)
  have HB5 := hide (HB3.out.trans (hb5.mono HBG3.out))
  have HBG5 : Hid (g ≤ w5.heap.size) := hide (Nat.le_trans HBG3.out hb5.size)
  have HC5 := hide hown5.bytes
  have HK5 := hide (HK3.out.on hb5)
  have HX5 := hide (HX3.out.on hb5)
  have HT5 := hide (HT3.out.on hb5)
  clear hown5 hg5 hb5 HO4 HB4 HU4 HB3 HBG3 HX3 HT3 HU3 HK3 HC3
  go_wp2_with fail
  refine (FE.out _ _ HC5.out HK5.out).mono ?_
  rintro e w6 ⟨v6, rfl, hown6, hb6⟩
  obtain ⟨va6, vc6, rfl, -, -⟩ := hown6.bytes.form
  have HB6 := hide (HB5.out.trans (hb6.mono HBG5.out))
  have HBG6 : Hid (g ≤ w6.heap.size) := hide (Nat.le_trans HBG5.out hb6.size)
  have HC6 := hide hown6.bytes
  have HX6 := hide (HX5.out.on hb6)
  have HT6 := hide (HT5.out.on hb6)
  clear hown6 hb6 HB5 HBG5 HC5 HK5 HX5 HT5 FE
  have hfli := HFLI.out
  have hnb : ((24 + (B.length : Int)) == (F.length : Int)) = true := by simpa using hfli.symm
  clear hfli
  go_wp2_with fail
  refine (GT.out _ _ HC6.out).mono ?_
  rintro e w7 ⟨sa7, sc7, ia7, ic7, oa7, oc7, rfl, hb7, hk7⟩
  have hbt := below_new w7 (.cells #[.int .i64 m.kind, .int .u64 m.n, .int .u32 m.code, .slice sa7 m.ids.length sc7, .int .u32 m.tx.ver, .slice ia7 m.tx.ins.length ic7, .slice oa7 m.tx.outs.length oc7] 30)
  have hb8 := below_on hb7 hbt
  have HY8 := hide (MBox.new w7 (.int .i64 m.kind) (.int .u64 m.n) (.int .u32 m.code) (.slice sa7 m.ids.length sc7) (.int .u32 m.tx.ver) (.slice ia7 m.tx.ins.length ic7) (.slice oa7 m.tx.outs.length oc7) 30)
  have HU8 := hide (hk7.on hbt)
  have HB8 := hide (HB6.out.trans (hb8.mono HBG6.out))
  have HBG8 : Hid (g ≤ _) := hide (Nat.le_trans HBG6.out hb8.size)
  have HT8 := hide (HT6.out.on hb8)
  have HX8 := hide (HX6.out.on hb8)
  clear hb7 hk7 hbt hb8 HC6 HX6 HT6 HB6 HBG6 GT
  go_upto_region 12 with fail
  generalize w7.alloc (.cells #[.int .i64 m.kind, .int .u64 m.n, .int .u32 m.code, .slice sa7 m.ids.length sc7, .int .u32 m.tx.ver, .slice ia7 m.tx.ins.length ic7, .slice oa7 m.tx.outs.length oc7] 30) = W8 at *
  generalize w7.heap.size = g7 at *
  obtain ⟨p0, p1, p2, p3, p4, p5, p6⟩ := HX8.out
  obtain ⟨q0, q1, q2, q3, q4, q5, q6⟩ := HY8.out
  go_wp2_with fail
  refine (SM.out _ _ _ _ HU8.out HT8.out).mono ?_
  rintro e w9 ⟨rfl, hb9⟩
  have R := hide (HB8.out.trans (hb9.mono HBG8.out))
  clear hb9 HB8 HBG8 HT8 HU8 HX8 HY8 SM p0 p1 p2 p3 p4 p5 p6 q0 q1 q2 q3 q4 q5 q6
  go_wp2
  go_ret
  rw [HG.out]
  exact ⟨rfl, R.out⟩
theorem frames8_law {w : World} (hk : Ks w) (m : Mg) (d iv ov : Value) (h : MsgAt w d iv ov m) (hok : MgOk m) (u : Value) (r : List Int) (hr : ∀ z ∈ r, Byte z) (hu : Bytes w u r) :
    Calls Tryd.prog 3 #[.agg #[.int .i64 m.kind, .int .u64 m.n, .int .u32 m.code, d, .int .u32 m.tx.ver, iv, ov], u] w fun e w' => e = .returned (.bool true) ∧ Below w.heap.size w w' := by
  cases hg : greatM m with
  | true => exact frames8_great m d iv ov h hok u r hk hu hg
  | false =>
    by_cases hn : r.length ≤ 3000
    · by_cases hE : mpE m = 0
      · exact frames8_some m d iv ov h hok u r hk hr hu hg hn hE
      · exact frames8_bad m d iv ov h hok u r hk hu hg hn hE
    · exact frames8_far m d iv ov h hok u r hk hu hg hn

set_option maxRecDepth 100000 in
theorem msgFrames_lifted (os : Os) (started : os.Started) (H : Type) (enc : TypeId × Value → H) :
    ReturnsInHanded {} Tryd.checked os 3 .any (fun w args => (Rows.msgFramesSpec.pre enc Tryd.prog Tryd.f3 [] false w args ∧ laidMetH Tryd.prog laid3 w) ∧ sizedMet enc Tryd.prog Tryd.f3 (OpenSpec.ofChange Rows.msgFramesSpec) false w args)
      (Rows.msgFramesSpec.post enc Tryd.prog Tryd.f3 false true false false) := by
  refine returnsInHanded_of_change_and (C := Tryd.checked) (X := fun w _ => laidMetH Tryd.prog laid3 w) (fun _ _ _ hh h => h.of_heap hh) own started (by kernel_rfl) Tryd.func3
    (ChangeSpec.witness_shaped (enc := enc) (C := Tryd.checked) (os := os) (X := fun w _ => laidMetH Tryd.prog laid3 w) false (World.laidAll Tryd.prog os laid3) #[.agg #[.int .i64 0, .int .u64 0, .int .u32 0, .slice none 0 0, .int .u32 0, .slice none 0 0, .slice none 0 0], .slice none 0 0] 8 (World.laidAll_os _ _ _) (World.shaped_of_ZipB (by kernel_rfl) (by kernel_rfl)) (by kernel_rfl) (by kernel_rfl) (by kernel_rfl) (laid_met os _)) ?_
  intro W base args ds gs before hval0 hW _ _ hL _
  have hval : ∀ (j : Nat) t v, Tryd.f3.params[j]? = some t → args[j]? = some v → Value.okWide Tryd.prog W .any base t v := hval0
  have hW' := hW
  obtain ⟨p, q, hA0, hV, rfl, hfz, hnd⟩ := hW
  have hA : DataW.TrodAll enc Tryd.prog W 0 (fun _ => true) true Tryd.f3.params.toList args.toList ds p := hA0
  rw [Tryd.params3] at hA hval
  obtain ⟨v0, vs0, d0, ds0, p0, q0, hargs, rfl, rfl, h0, r0⟩ := trodAll_cons hA
  obtain ⟨v1, vs1, d1, ds1, p1, q1, rfl, rfl, rfl, h1, r1⟩ := trodAll_cons r0
  obtain ⟨rfl, rfl, rfl⟩ := trodAll_nil r1
  obtain rfl : args = #[v0, v1] := by cases args; simp_all
  obtain ⟨rfl, rfl⟩ := trodVars_none hV
  have k0 := h0
  have lt0 : ∀ x ∈ p0, x.block < W.heap.size := by obtain ⟨m, hm⟩ := k0; exact DataW.trod_lt m _ _ _ hm
  obtain ⟨t0, c0, a0, b0, rfl, s0, w0⟩ := msg_came (fun _ => rfl) (hval 0 30 v0 rfl rfl) h0
  obtain ⟨b1, len1, cap1, rfl⟩ := okWide_slice Tryd.underlying31 (hval 1 31 v1 rfl rfl)
  have k1 := h1
  have lt1 : ∀ x ∈ p1, x.block < W.heap.size := by obtain ⟨m, hm⟩ := k1; exact DataW.trod_lt m _ _ _ hm
  obtain ⟨l1, s1, w1⟩ : ∃ l, Bytes W (.slice b1 len1 cap1) l ∧ ∀ z ∈ l, Byte z := by
    obtain ⟨fuel, hf⟩ := h1
    rcases open_ints Tryd.underlying31 Tryd.underlying5 (by kernel_rfl) hf with ⟨hcs, _⟩ | ⟨x, l, c, zs, hcs, _, hl, hm, hz, _, hcell, hwz⟩
    · simp [Value.cells] at hcs
      obtain ⟨rfl, rfl, rfl⟩ := hcs
      exact ⟨[], Bytes.nil _, by simp⟩
    · simp [Value.cells] at hcs
      obtain ⟨rfl, rfl, rfl⟩ := hcs
      exact bytes_row hl hm (by simpa using hz) hcell hwz
  clear hA0 hval0
  refine (frames8_law (w := W) (ks_of_laid hL) t0 _ _ _ s0 w0 _ l1 w1 s1).mono fun e W' ⟨he, bel⟩ => ?_
  subst he
  exact ⟨_, rfl, _, _, _, [], _, [], hW', trodAll_mk1 (shut_bool Tryd.underlying4 _), (trodAll_cons_mk (Below.trod laidOut (by kernel_rfl) (of_decide_eq_true (by kernel_rfl)) k0 bel lt0) (trodAll_cons_mk (Below.trod laidOut (by kernel_rfl) (of_decide_eq_true (by kernel_rfl)) k1 bel lt1) trodAll_mk0)), rfl, bel.frame _, fun h => by cases h⟩

theorem msgFrames_holds : Rows.MsgFramesSaid :=
  OpenClaim.holds_of_wide 3 Tryd.f3 rfl rfl rfl rfl rfl rfl rfl ⟨rfl, rfl, rfl, rfl, rfl⟩ rfl rfl rfl rfl rfl (by kernel_rfl) Tryd.func3 (by kernel_rfl)
    (of_decide_eq_true (by kernel_rfl)) (by unfold Func.isWrapper; first | (rw [if_pos (by decide +kernel)]; kernel_rfl) | (rw [if_neg (by decide +kernel)]; exact ⟨rfl, rfl⟩))
    (fun os started H enc _ => msgFrames_lifted os started H enc)
#print axioms msgFrames_holds
theorem msgFrames_card : Rows.MsgFramesCardSaid :=
  Claim7.holds_tied_plain_at .later [] [.data, .data, .pinned] true (true, "3d7e2d98ff3ef7457de4d340f8776aff18aa1651ffd780fe0bbb4c244e7985b3") false
    msgFrames_holds (fun _ h => by cases h) (by kernel_rfl) (fun _ h => by cases h) msgFrames_row_tie rfl ⟨rfl, rfl⟩ (by kernel_rfl) rfl
    (fun f fn hf hfn => by
      obtain rfl : f = 3 := Option.some.inj ((show Tryd.prog.funcNamed "pappus/pappuslaw08.MsgFrames" = some 3 by kernel_rfl).symm.trans hf) |>.symm
      obtain rfl : fn = Tryd.f3 := (Option.some.inj (Tryd.func3.symm.trans hfn)).symm
      exact ⟨by kernel_rfl, fun j t ht => by
        rw [Tryd.params3] at ht
        have hm : t ∈ [30, 31] := by simpa using Array.mem_of_getElem? ht
        have hall : ([30, 31].all fun u => !Tryd.prog.wantsStandIn u) = true := by kernel_rfl
        exact (show Tryd.prog.wantsStandIn t = false by simpa using List.all_eq_true.1 hall t hm)⟩)
    (by kernel_rfl)
#print axioms msgFrames_card
end Go.Proofs.YtjmifgdjmaelfabDoor
