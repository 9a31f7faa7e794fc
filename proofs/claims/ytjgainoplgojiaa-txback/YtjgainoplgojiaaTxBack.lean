/-
  Proved: for every transaction and every slice of bytes the law TxBack answers true, and its arguments read as they did. No condition.
-/
import Derived.Test.YtjgainoplgojiaaTxSameH
import Derived.Test.YtjgainoplgojiaaTxCheckL
import Derived.Test.YtjgainoplgojiaaTxCutP
namespace Go.Proofs.Ytjgainoplgojiaa
open Go.ChangeShapes Go.WideShapes Go.ChangeAt Go.RowKit

theorem whole_put (t : Tr) (h : TrOk t) (hf : formB t = true) (r : List Int) : (r = [] → whE (txB t ++ r) = 0 ∧ whT (txB t ++ r) = t) ∧ (r ≠ [] → whE (txB t ++ r) = 5 ∧ whT (txB t ++ r) = noTr) := by
  obtain ⟨h1, h2, h3⟩ := get_put t h hf r
  have hl : (txB t ++ r).length = (txB t).length + r.length := by simp
  constructor
  · rintro rfl
    have e : whE (txB t ++ []) = 0 := by unfold whE; rw [if_neg (by rw [h1]; decide), h3, if_neg (by simp)]
    exact ⟨e, by unfold whT; rw [if_pos e, h2]⟩
  · intro hr
    have hp : 0 < r.length := List.length_pos_iff.2 hr
    have e : whE (txB t ++ r) = 5 := by unfold whE; rw [if_neg (by rw [h1]; decide), h3, if_pos (by omega)]
    exact ⟨e, by unfold whT; rw [if_neg (by rw [e]; decide)]⟩

set_option maxRecDepth 100000 in
set_option maxHeartbeats 1000000 in
theorem back_form {w : World} (t : Tr) (iv ov : Value) (h : TxAt w iv ov t) (hok : TrOk t) (v : Value) (l : List Int) (hl : AllB l) (hv : Bytes w v l) (hg : greatB t = false) (hn : l.length ≤ 5000) (hf : formB t = true) :
    Calls Try.prog 5 #[.agg #[.int .u32 t.ver, iv, ov], v] w fun e w' => e = .returned (.bool true) ∧ Below w.heap.size w w' := by
  have hnew := below_new w (.cells #[.int .u32 t.ver, iv, ov] 28)
  have HT0 := hide (h.on hnew)
  have HV0 := hide (hv.below hnew)
  have HB0 := hide hnew
  have HX0 := hide (TBox.new w (.int .u32 t.ver) iv ov 28)
  have GR := hide (fun w (h : TxAt w iv ov t) => great_any t iv ov w h.1 h.2 (fun x hx => (hok.2.1 x hx).1))
  rw [hg] at GR
  have AL := hide alive_any
  have PT := hide (fun w (h : TxAt w iv ov t) => tput_any t iv ov w h.1 h.2 hok)
  rw [(ptL_form hf).1, (ptL_form hf).2] at PT
  have SA := hide (fun w iv' ov' (h : TxAt w iv ov t) (h' : TxAt w iv' ov' t) => tsame_any t t iv ov iv' ov' w h h' hok hok true (by simp))
  have SB := hide (fun w iv' ov' (h : TxAt w iv' ov' t) (h' : TxAt w iv ov t) => tsame_any t t iv' ov' iv ov w h h' hok hok true (by simp))
  have RS := hide (fun w iv' ov' (h : TxAt w iv ov t) (h' : TxAt w iv' ov' t) => rsame_eq t iv ov iv' ov' w h h' hok)
  obtain ⟨g1, g2, g3⟩ := get_put t hok hf l
  obtain ⟨w1, w2⟩ := whole_put t hok hf l
  have hle := txB_le t hok hf
  have hall := (txB_all hok).append hl
  have GT := hide (fun w v (h : Bytes w v (txB t ++ l)) => tget_any _ v w h hall (by simp; omega))
  have WH := hide (fun w v (h : Bytes w v (txB t ++ l)) => twhole_any _ v w h hall (by simp; omega))
  unfold GetDone at GT
  unfold WholeDone at WH
  rw [g1, g2, g3] at GT
  have WL := hide w1
  have WR := hide w2
  have HLE := hide hle
  obtain ⟨a, cap, rfl, hc1, hc2⟩ := h.1.form
  obtain ⟨a', cap', rfl, hd1, hd2⟩ := h.2.form
  obtain ⟨ra, rc, rfl, he1, he2⟩ := hv.form
  have hn1 : ¬ (5000 : Int) < (l.length : Int) := by omega
  have HOK := hide hok
  clear hnew h hok hl hv hg hf g1 g2 g3 w1 w2 hle hall
  generalize txB t = tb at *
  go_enter Try.func5, Try.ntmps5
  go_upto_region 1 with fail
  generalize w.alloc (.cells #[.int .u32 t.ver, .slice a t.ins.length cap, .slice a' t.outs.length cap'] 28) = W0 at *
  go_wp2_with fail
  refine (AL.out _).mono ?_
  rintro e w1 ⟨rfl, hb1⟩
  have HB1 := hide (below_on HB0.out hb1)
  have HT1 := hide (HT0.out.on hb1)
  have HV1 := hide (HV0.out.below hb1)
  have HX1 := hide (HX0.out.on hb1)
  obtain ⟨n0, n1, n2⟩ := HX1.out
  clear hb1 HB0 HT0 HX0 HV0 AL
  go_wp2_with fail
  refine (GR.out _ HT1.out).mono ?_
  rintro e w2 ⟨rfl, hb2⟩
  have HB2 := hide (below_on HB1.out hb2)
  have HT2 := hide (HT1.out.on hb2)
  have HV2 := hide (HV1.out.below hb2)
  have HX2 := hide (HX1.out.on hb2)
  clear n0 n1 n2
  obtain ⟨n0, n1, n2⟩ := HX2.out
  clear hb2 HB1 HT1 HX1 HV1 GR
  go_wp2_with fail
  refine (PT.out _ HT2.out).mono ?_
  rintro e w3 ⟨v3, rfl, hown3, hb3⟩
  have HB3 := hide (below_on HB2.out hb3)
  have HT3 := hide (HT2.out.on hb3)
  have HV3 := hide (HV2.out.below hb3)
  have HX3 := hide (HX2.out.on hb3)
  have HC3 := hide hown3.bytes
  obtain ⟨pa, pc, rfl, hp1, hp2⟩ := hown3.bytes.form
  clear hb3 hown3 n0 n1 n2 HB2 HT2 HV2 HX2 PT
  -- the first copy
  have hm := below_new w3 (.cells #[] 5)
  have HM := hide (Own.made w3 w3.heap.size (Nat.le_refl _))
  have HC4 := hide (HC3.out.below hm)
  have HM3 := hide hm
  clear hm
  go_wp2_with (at_builtin; refine wp_append_by rfl _ _ rfl w3.heap.size _ [] rfl HM.out _ tb rfl HC4.out ?c1 ?c2 ?_)
  case c1 => have := HLE.out; simp; omega
  case c2 => exact HM3.out.size
  intro v4 w4 hown4 hg4
  have hb4 : Below w3.heap.size w3 w4 := HM3.out.trans (HM.out.grew hg4 HM3.out.size)
  have HO4 := hide hown4
  have HB4 := hide hb4
  have HV4 := hide (HV3.out.below hb4)
  clear hown4 hg4 hb4 HM HC4 HM3
  go_wp2_with (at_builtin; refine wp_append_by rfl _ _ rfl w3.heap.size _ tb rfl HO4.out _ l rfl HV4.out ?c3 ?c4 ?_)
  case c3 => have := HLE.out; omega
  case c4 => exact HB4.out.size
  intro v5 w5 hown5 hg5
  have HB5 := hide (HB4.out.trans (HO4.out.grew hg5 HB4.out.size))
  have HC5 := hide hown5.bytes
  clear hown5 hg5 HO4 HB4 HV4
  go_wp2_with fail
  refine (GT.out _ _ HC5.out).mono ?_
  rintro e w6 ⟨iv6, ov6, rfl, hb6, hk6⟩
  obtain ⟨ia6, ic6, rfl, -, -⟩ := hk6.self.1.form
  obtain ⟨oa6, oc6, rfl, -, -⟩ := hk6.self.2.form
  have hb7 := below_on hb6 (below_new w6 (.cells #[.int .u32 t.ver, .slice ia6 t.ins.length ic6, .slice oa6 t.outs.length oc6] 28))
  have hb8 := HB5.out.trans (hb7.mono HB5.out.size)
  have HU7 := hide (TxAt.on hk6.self (below_new w6 (.cells #[.int .u32 t.ver, .slice ia6 t.ins.length ic6, .slice oa6 t.outs.length oc6] 28)))
  have HY7 := hide (TBox.new w6 (.int .u32 t.ver) (.slice ia6 t.ins.length ic6) (.slice oa6 t.outs.length oc6) 28)
  have HB7 := hide (below_on HB3.out hb8)
  have HT7 := hide (HT3.out.on hb8)
  have HV7 := hide (HV3.out.below hb8)
  have HX7 := hide (HX3.out.on hb8)
  have HC7 := hide (HC3.out.below hb8)
  clear hb6 hk6 hb7 hb8 HB3 HT3 HV3 HX3 HC3 HB5 HC5 GT
  go_upto_region 9 with fail
  generalize w6.alloc (.cells #[.int .u32 t.ver, .slice ia6 t.ins.length ic6, .slice oa6 t.outs.length oc6] 28) = W7 at *
  generalize w6.heap.size = g7 at *
  -- the second copy
  have hm := below_new W7 (.cells #[] 5)
  have HM := hide (Own.made W7 W7.heap.size (Nat.le_refl _))
  have HC8 := hide (HC7.out.below hm)
  have HM8 := hide hm
  clear hm
  go_wp2_with (at_builtin; refine wp_append_by rfl _ _ rfl W7.heap.size _ [] rfl HM.out _ tb rfl HC8.out ?c1 ?c2 ?_)
  case c1 => have := HLE.out; simp; omega
  case c2 => exact HM8.out.size
  intro v9 w9 hown9 hg9
  have hb9 : Below W7.heap.size W7 w9 := HM8.out.trans (HM.out.grew hg9 HM8.out.size)
  have HO9 := hide hown9
  have HB9 := hide hb9
  have HV9 := hide (HV7.out.below hb9)
  clear hown9 hg9 hb9 HM HC8 HM8
  go_wp2_with (at_builtin; refine wp_append_by rfl _ _ rfl W7.heap.size _ tb rfl HO9.out _ l rfl HV9.out ?c3 ?c4 ?_)
  case c3 => have := HLE.out; omega
  case c4 => exact HB9.out.size
  intro v10 w10 hown10 hg10
  have HB10 := hide (HB9.out.trans (HO9.out.grew hg10 HB9.out.size))
  have HC10 := hide hown10.bytes
  clear hown10 hg10 HO9 HB9 HV9
  go_wp2_with fail
  refine (WH.out _ _ HC10.out).mono ?_
  rintro e w11 ⟨iv11, ov11, rfl, hb11, hk11⟩
  by_cases hr : l = []
  · obtain ⟨q1, q2⟩ := WL.out hr
    rw [q2] at hk11
    rw [q1, q2]
    have hl0 : ¬ (0 : Int) < (l.length : Int) := by rw [hr]; decide
    obtain ⟨ia, ic, rfl, -, -⟩ := hk11.self.1.form
    obtain ⟨oa, oc, rfl, -, -⟩ := hk11.self.2.form
    have hb12 := HB10.out.trans ((below_on hb11 (below_new w11 (.cells #[.int .u32 t.ver, .slice ia t.ins.length ic, .slice oa t.outs.length oc] 28))).mono HB10.out.size)
    have HZ12 := hide (TxAt.on hk11.self (below_new w11 (.cells #[.int .u32 t.ver, .slice ia t.ins.length ic, .slice oa t.outs.length oc] 28)))
    have HW12 := hide (TBox.new w11 (.int .u32 t.ver) (.slice ia t.ins.length ic) (.slice oa t.outs.length oc) 28)
    have HB12 := hide (below_on HB7.out hb12)
    have HT12 := hide (HT7.out.on hb12)
    have HU12 := hide (HU7.out.on hb12)
    obtain ⟨n0, n1, n2⟩ := HX7.out.on hb12
    obtain ⟨m0, m1, m2⟩ := HY7.out.on hb12
    have HX12 := hide (HX7.out.on hb12)
    have HY12 := hide (HY7.out.on hb12)
    clear hb11 hk11 hb12 HB7 HT7 HU7 HV7 HX7 HY7 HC7 HB10 HC10 WH WL WR q1 q2 hr
    go_upto_region 10 with fail
    generalize w11.alloc (.cells #[.int .u32 t.ver, .slice ia t.ins.length ic, .slice oa t.outs.length oc] 28) = W12 at *
    generalize w11.heap.size = g12 at *
    go_wp2_with fail
    refine (SA.out _ _ _ HT12.out HU12.out).mono ?_
    rintro e w13 ⟨rfl, hb13⟩
    have HB13 := hide (below_on HB12.out hb13)
    have HT13 := hide (HT12.out.on hb13)
    have HU13 := hide (HU12.out.on hb13)
    have HZ13 := hide (HZ12.out.on hb13)
    clear n0 n1 n2 m0 m1 m2
    obtain ⟨n0, n1, n2⟩ := HX12.out.on hb13
    obtain ⟨m0, m1, m2⟩ := HY12.out.on hb13
    have HX13 := hide (HX12.out.on hb13)
    have HW13 := hide (HW12.out.on hb13)
    clear hb13 HB12 HT12 HU12 HZ12 HX12 HY12 HW12 SA
    go_wp2_with fail
    refine (RS.out _ _ _ HT13.out HU13.out).mono ?_
    rintro e w14 ⟨rfl, hb14⟩
    have HB14 := hide (below_on HB13.out hb14)
    have HT14 := hide (HT13.out.on hb14)
    have HZ14 := hide (HZ13.out.on hb14)
    clear n0 n1 n2 m0 m1 m2
    obtain ⟨n0, n1, n2⟩ := HX13.out.on hb14
    obtain ⟨m0, m1, m2⟩ := HW13.out.on hb14
    clear hb14 HB13 HT13 HU13 HZ13 HX13 HW13 RS
    go_wp2_with fail
    refine (SB.out _ _ _ HZ14.out HT14.out).mono ?_
    rintro e w15 ⟨rfl, hb15⟩
    have R := hide (below_on HB14.out hb15)
    clear hb15 HB14 HT14 HZ14 SB n0 n1 n2 m0 m1 m2
    go_wp2
    go_ret
    exact ⟨rfl, R.out⟩
  · obtain ⟨q1, q2⟩ := WR.out hr
    rw [q2] at hk11
    rw [q1, q2]
    have hl0 : (0 : Int) < (l.length : Int) := by have := List.length_pos_iff.2 hr; omega
    obtain ⟨ia, ic, oa, oc, rfl, rfl⟩ := hk11.self.none_form
    have hv0 : noTr.ver = 0 := rfl
    rw [hv0]
    have hb12 := HB10.out.trans ((below_on hb11 (below_new w11 (.cells #[.int .u32 0, .slice ia 0 ic, .slice oa 0 oc] 28))).mono HB10.out.size)
    have HW12 := hide (TBox.new w11 (.int .u32 0) (.slice ia 0 ic) (.slice oa 0 oc) 28)
    have HB12 := hide (below_on HB7.out hb12)
    have HT12 := hide (HT7.out.on hb12)
    have HU12 := hide (HU7.out.on hb12)
    obtain ⟨n0, n1, n2⟩ := HX7.out.on hb12
    obtain ⟨m0, m1, m2⟩ := HY7.out.on hb12
    have HX12 := hide (HX7.out.on hb12)
    have HY12 := hide (HY7.out.on hb12)
    clear hb11 hk11 hb12 HB7 HT7 HU7 HV7 HX7 HY7 HC7 HB10 HC10 WH WL WR q1 q2 hr hv0 SB
    go_upto_region 10 with fail
    generalize w11.alloc (.cells #[.int .u32 0, .slice ia 0 ic, .slice oa 0 oc] 28) = W12 at *
    generalize w11.heap.size = g12 at *
    go_wp2_with fail
    refine (SA.out _ _ _ HT12.out HU12.out).mono ?_
    rintro e w13 ⟨rfl, hb13⟩
    have HB13 := hide (below_on HB12.out hb13)
    have HT13 := hide (HT12.out.on hb13)
    have HU13 := hide (HU12.out.on hb13)
    clear n0 n1 n2 m0 m1 m2
    obtain ⟨n0, n1, n2⟩ := HX12.out.on hb13
    obtain ⟨m0, m1, m2⟩ := HY12.out.on hb13
    have HW13 := hide (HW12.out.on hb13)
    clear hb13 HB12 HT12 HU12 HX12 HY12 HW12 SA
    go_wp2_with fail
    refine (RS.out _ _ _ HT13.out HU13.out).mono ?_
    rintro e w14 ⟨rfl, hb14⟩
    have R := hide (below_on HB13.out hb14)
    clear n0 n1 n2 m0 m1 m2
    obtain ⟨m0, m1, m2⟩ := HW13.out.on hb14
    clear hb14 HB13 HT13 HU13 HW13 RS
    go_wp2
    go_ret
    exact ⟨rfl, R.out⟩

set_option maxRecDepth 100000 in
set_option maxHeartbeats 1000000 in
theorem back_long {w : World} (t : Tr) (iv ov : Value) (h : TxAt w iv ov t) (hok : TrOk t) (v : Value) (l : List Int) (hv : Bytes w v l) (hg : greatB t = false) (hn : l.length ≤ 5000) (hf : formB t = false) :
    Calls Try.prog 5 #[.agg #[.int .u32 t.ver, iv, ov], v] w fun e w' => e = .returned (.bool true) ∧ Below w.heap.size w w' := by
  have hnew := below_new w (.cells #[.int .u32 t.ver, iv, ov] 28)
  have HT0 := hide (h.on hnew)
  have HB0 := hide hnew
  have HX0 := hide (TBox.new w (.int .u32 t.ver) iv ov 28)
  have GR := hide (fun w (h : TxAt w iv ov t) => great_any t iv ov w h.1 h.2 (fun x hx => (hok.2.1 x hx).1))
  rw [hg] at GR
  have AL := hide alive_any
  have PT := hide (fun w (h : TxAt w iv ov t) => tput_any t iv ov w h.1 h.2 hok)
  rw [(ptL_long hf).1, (ptL_long hf).2] at PT
  have CH := hide (fun w h => tcheck_long t iv ov w h (fun x hx => (hok.2.1 x hx).1) hf)
  obtain ⟨a, cap, rfl, hc1, hc2⟩ := h.1.form
  obtain ⟨a', cap', rfl, hd1, hd2⟩ := h.2.form
  obtain ⟨ra, rc, rfl, he1, he2⟩ := hv.form
  have hn1 : ¬ (5000 : Int) < (l.length : Int) := by omega
  have HOK := hide hok
  clear hnew h hok hv hg hf
  go_enter Try.func5, Try.ntmps5
  go_upto_region 1 with fail
  generalize w.alloc (.cells #[.int .u32 t.ver, .slice a t.ins.length cap, .slice a' t.outs.length cap'] 28) = W0 at *
  go_wp2_with fail
  refine (AL.out _).mono ?_
  rintro e w1 ⟨rfl, hb1⟩
  have HB1 := hide (below_on HB0.out hb1)
  have HT1 := hide (HT0.out.on hb1)
  have HX1 := hide (HX0.out.on hb1)
  obtain ⟨n0, n1, n2⟩ := HX1.out
  clear hb1 HB0 HT0 HX0 AL
  go_wp2_with fail
  refine (GR.out _ HT1.out).mono ?_
  rintro e w2 ⟨rfl, hb2⟩
  have HB2 := hide (below_on HB1.out hb2)
  have HT2 := hide (HT1.out.on hb2)
  have HX2 := hide (HX1.out.on hb2)
  clear n0 n1 n2
  obtain ⟨n0, n1, n2⟩ := HX2.out
  clear hb2 HB1 HT1 HX1 GR
  go_wp2_with fail
  refine (PT.out _ HT2.out).mono ?_
  rintro e w3 ⟨v3, rfl, hown3, hb3⟩
  have HB3 := hide (below_on HB2.out hb3)
  have HT3 := hide (HT2.out.on hb3)
  obtain ⟨pa, pc, rfl, hp1, hp2⟩ := hown3.bytes.form
  clear n0 n1 n2
  obtain ⟨n0, n1, n2⟩ := HX2.out.on hb3
  clear hb3 hown3 HB2 HT2 HX2 PT
  go_wp2_with fail
  refine (CH.out _ HT3.out).mono ?_
  rintro e w4 ⟨rfl, hb4⟩
  have R := hide (below_on HB3.out hb4)
  clear hb4 HB3 HT3 CH n0 n1 n2
  go_wp2
  go_ret
  exact ⟨rfl, R.out⟩

set_option maxRecDepth 100000 in
set_option maxHeartbeats 1000000 in
theorem back_great {w : World} (t : Tr) (iv ov : Value) (h : TxAt w iv ov t) (hok : TrOk t) (v : Value) (l : List Int) (hv : Bytes w v l) (gb : Bool) (hg : greatB t = gb) (hn : gb = true ∨ 5000 < l.length) :
    Calls Try.prog 5 #[.agg #[.int .u32 t.ver, iv, ov], v] w fun e w' => e = .returned (.bool true) ∧ Below w.heap.size w w' := by
  have hnew := below_new w (.cells #[.int .u32 t.ver, iv, ov] 28)
  have HT0 := hide (h.on hnew)
  have HB0 := hide hnew
  have HX0 := hide (TBox.new w (.int .u32 t.ver) iv ov 28)
  have GR := hide (fun w (h : TxAt w iv ov t) => great_any t iv ov w h.1 h.2 (fun x hx => (hok.2.1 x hx).1))
  rw [hg] at GR
  have AL := hide alive_any
  obtain ⟨a, cap, rfl, hc1, hc2⟩ := h.1.form
  obtain ⟨a', cap', rfl, hd1, hd2⟩ := h.2.form
  obtain ⟨ra, rc, rfl, he1, he2⟩ := hv.form
  have HN := hide hn
  clear hnew h hok hv hg hn
  go_enter Try.func5, Try.ntmps5
  go_upto_region 1 with fail
  generalize w.alloc (.cells #[.int .u32 t.ver, .slice a t.ins.length cap, .slice a' t.outs.length cap'] 28) = W0 at *
  go_wp2_with fail
  refine (AL.out _).mono ?_
  rintro e w1 ⟨rfl, hb1⟩
  have HB1 := hide (below_on HB0.out hb1)
  have HT1 := hide (HT0.out.on hb1)
  obtain ⟨n0, n1, n2⟩ := HX0.out.on hb1
  clear hb1 HB0 HT0 HX0 AL
  go_wp2_with fail
  refine (GR.out _ HT1.out).mono ?_
  rintro e w2 ⟨rfl, hb2⟩
  have R := hide (below_on HB1.out hb2)
  clear hb2 HB1 HT1 GR n0 n1 n2
  cases gb with
  | true =>
    go_wp2
    go_ret
    exact ⟨rfl, R.out⟩
  | false =>
    have hl : 5000 < l.length := by
      rcases HN.out with h | h
      · cases h
      · exact h
    have hl2 : (5000 : Int) < (l.length : Int) := by omega
    clear HN
    go_wp2
    go_ret
    exact ⟨rfl, R.out⟩
theorem back_law {w : World} (t : Tr) (iv ov : Value) (h : TxAt w iv ov t) (hok : TrOk t) (v : Value) (l : List Int) (hl : ∀ z ∈ l, Byte z) (hv : Bytes w v l) :
    Calls Try.prog 5 #[.agg #[.int .u32 t.ver, iv, ov], v] w fun e w' => e = .returned (.bool true) ∧ Below w.heap.size w w' := by
  cases hg : greatB t with
  | true => exact back_great t iv ov h hok v l hv true hg (Or.inl rfl)
  | false =>
    by_cases hn : l.length ≤ 5000
    · cases hf : formB t with
      | true => exact back_form t iv ov h hok v l hl hv hg hn hf
      | false => exact back_long t iv ov h hok v l hv hg hn hf
    · exact back_great t iv ov h hok v l hv false hg (Or.inr (by omega))

set_option maxRecDepth 100000 in
theorem txBack_lifted (os : Os) (started : os.Started) (H : Type) (enc : TypeId × Value → H) :
    ReturnsInHanded {} Try.checked os 5 .any (Rows.txBackSpec.pre6 enc Try.prog Try.f5 Rows.txBackRow.domain false) (Rows.txBackSpec.post enc Try.prog Try.f5 false true false false) := by
  refine returnsInHanded_of_change (C := Try.checked) own started (by kernel_rfl) Try.func5
    (ChangeSpec.witness6 (enc := enc) (C := Try.checked) false ⟨#[], #[.agg #[.int .u32 0, .slice none 0 0, .slice none 0 0], .slice none 0 0], []⟩ 8 (by kernel_rfl) (by kernel_rfl) (by kernel_rfl) (by kernel_rfl)) ?_
  intro W base args ds gs before hval0 hW hcnd _
  have hval : ∀ (j : Nat) t v, Try.f5.params[j]? = some t → args[j]? = some v → Value.okWide Try.prog W .any base t v := hval0
  have hW' := hW
  obtain ⟨p, q, hA0, hV, rfl, hfz, hnd⟩ := hW
  have hA : DataW.TrodAll enc Try.prog W 0 (fun _ => true) true Try.f5.params.toList args.toList ds p := hA0
  rw [Try.params5] at hA hval
  obtain ⟨v0, vs0, d0, ds0, p0, q0, hargs, rfl, rfl, h0, r0⟩ := trodAll_cons hA
  obtain ⟨v1, vs1, d1, ds1, p1, q1, rfl, rfl, rfl, h1, r1⟩ := trodAll_cons r0
  obtain ⟨rfl, rfl, rfl⟩ := trodAll_nil r1
  obtain rfl : args = #[v0, v1] := by cases args; simp_all
  obtain ⟨rfl, rfl⟩ := trodVars_none hV
  have k0 := h0
  have lt0 : ∀ x ∈ p0, x.block < W.heap.size := by obtain ⟨m, hm⟩ := k0; exact DataW.trod_lt m _ _ _ hm
  obtain ⟨t0, a0, b0, rfl, s0, w0⟩ := tx_came (fun _ => rfl) (hval 0 28 v0 rfl rfl) h0
  obtain ⟨b1, len1, cap1, rfl⟩ := okWide_slice Try.underlying22 (hval 1 22 v1 rfl rfl)
  have k1 := h1
  have lt1 : ∀ x ∈ p1, x.block < W.heap.size := by obtain ⟨m, hm⟩ := k1; exact DataW.trod_lt m _ _ _ hm
  obtain ⟨l1, s1, w1⟩ : ∃ l, Bytes W (.slice b1 len1 cap1) l ∧ ∀ z ∈ l, Byte z := by
    obtain ⟨fuel, hf⟩ := h1
    rcases open_ints Try.underlying22 Try.underlying5 (by kernel_rfl) hf with ⟨hcs, _⟩ | ⟨x, l, c, zs, hcs, _, hl, hm, hz, _, hcell, hwz⟩
    · simp [Value.cells] at hcs
      obtain ⟨rfl, rfl, rfl⟩ := hcs
      exact ⟨[], Bytes.nil _, by simp⟩
    · simp [Value.cells] at hcs
      obtain ⟨rfl, rfl, rfl⟩ := hcs
      exact bytes_row hl hm (by simpa using hz) hcell hwz
  clear hA0 hval0
  refine (back_law (w := W) t0 _ _ s0 w0 _ l1 w1 s1).mono fun e W' ⟨he, bel⟩ => ?_
  subst he
  exact ⟨_, rfl, _, _, _, [], _, [], hW', trodAll_mk1 (shut_bool Try.underlying4 _), (trodAll_cons_mk (Below.trod laidOut (by kernel_rfl) (of_decide_eq_true (by kernel_rfl)) k0 bel lt0) (trodAll_cons_mk (Below.trod laidOut (by kernel_rfl) (of_decide_eq_true (by kernel_rfl)) k1 bel lt1) trodAll_mk0)), rfl, bel.frame _, fun h => by cases h⟩

theorem txBack_holds : Rows.TxBackSaid :=
  OpenClaim.holds_of_wide 5 Try.f5 rfl rfl rfl rfl rfl rfl rfl ⟨rfl, rfl, rfl, rfl, rfl⟩ rfl rfl rfl rfl rfl (by kernel_rfl) Try.func5 (by kernel_rfl)
    (of_decide_eq_true (by kernel_rfl)) (by unfold Func.isWrapper; first | (rw [if_pos (by decide +kernel)]; kernel_rfl) | (rw [if_neg (by decide +kernel)]; exact ⟨rfl, rfl⟩))
    (fun os started H enc _ => txBack_lifted os started H enc)
#print axioms txBack_holds
end Go.Proofs.Ytjgainoplgojiaa
