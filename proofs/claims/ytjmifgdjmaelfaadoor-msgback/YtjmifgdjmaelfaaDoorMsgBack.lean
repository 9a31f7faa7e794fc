/-
  Proved: of every message the law MsgBack answers true, and its argument reads as it did. The card: sha's table is listed and tied to the program's text; nothing of it is read.
-/
import Derived.Test.YtjmifgdjmaelfaaDoorMgLawK
import Derived.Test.YtjmifgdjmaelfaaDoorMgFrBad
import Derived.Test.YtjmifgdjmaelfaaDoorRefSame08
import Derived.Test.YtjmifgdjmaelfaaDoorFrName
import Derived.Test.YtjmifgdjmaelfaaDoorDoorLaw
namespace Go.Proofs.YtjmifgdjmaelfaaDoor
open Go.ChangeShapes Go.WideShapes Go.ChangeAt Go.RowKit

theorem cmd_named {m : Mg} (h : mpE m = 0) : namedL (strL (mpC m)) = true ∧ (mpC m).size ≤ 12 := by
  obtain ⟨h1, h2, -⟩ := mp_body h
  rw [h2]
  refine ⟨?_, (shp_ok m.kind).2.2.2.2.2.2⟩
  generalize m.kind = k at *
  rcases kinds h1 with rfl | rfl | rfl | rfl | rfl | rfl | rfl | rfl | rfl | rfl | rfl <;> decide
set_option maxRecDepth 100000 in
set_option maxHeartbeats 1000000 in
theorem back8_great {w : World} (m : Mg) (d iv ov : Value) (h : MsgAt w d iv ov m) (hok : MgOk m) (hg : greatM m = true) :
    Calls Tryd.prog 5 #[.agg #[.int .i64 m.kind, .int .u64 m.n, .int .u32 m.code, d, .int .u32 m.tx.ver, iv, ov]] w fun e w' => e = .returned (.bool true) ∧ Below w.heap.size w w' := by
  have hnew := below_new w (.cells #[.int .i64 m.kind, .int .u64 m.n, .int .u32 m.code, d, .int .u32 m.tx.ver, iv, ov] 51)
  have HT0 := hide (h.on hnew)
  have HB0 := hide hnew
  have HX0 := hide (MBox.new w (.int .i64 m.kind) (.int .u64 m.n) (.int .u32 m.code) d (.int .u32 m.tx.ver) iv ov 51)
  have GR := hide (fun w (h : MsgAt w d iv ov m) => great8_any m d iv ov w h hok)
  have AL := hide alive8_any
  rw [hg] at GR
  obtain ⟨sa, sc, ia, ic, oa, oc, rfl, rfl, rfl⟩ := h.form
  clear hnew h hok hg
  go_enter Tryd.func5, Tryd.ntmps5
  go_upto_region 1 with fail
  generalize w.alloc (.cells #[.int .i64 m.kind, .int .u64 m.n, .int .u32 m.code, .slice sa m.ids.length sc, .int .u32 m.tx.ver, .slice ia m.tx.ins.length ic, .slice oa m.tx.outs.length oc] 51) = W0 at *
  generalize hg : w.heap.size = g at *
  have HG := hide hg
  clear hg
  have HBG : Hid (g ≤ W0.heap.size) := hide (by have := HB0.out.size; have := HG.out; omega)
  go_wp2_with fail
  refine (AL.out _).mono ?_
  rintro e w1 ⟨rfl, hb1⟩
  have HB1 := hide (HB0.out.trans (hb1.mono HBG.out))
  have HBG1 : Hid (g ≤ w1.heap.size) := hide (Nat.le_trans HBG.out hb1.size)
  have HT1 := hide (HT0.out.on hb1)
  have HX1 := hide (HX0.out.on hb1)
  obtain ⟨p0, p1, p2, p3, p4, p5, p6⟩ := HX1.out
  clear hb1 HB0 HT0 HX0 AL HBG
  go_wp2_with fail
  refine (GR.out _ HT1.out).mono ?_
  rintro e w2 ⟨rfl, hb2⟩
  have HB2 := hide (HB1.out.trans (hb2.mono HBG1.out))
  have HBG2 : Hid (g ≤ w2.heap.size) := hide (Nat.le_trans HBG1.out hb2.size)
  have HT2 := hide (HT1.out.on hb2)
  have HX2 := hide (HX1.out.on hb2)
  clear p0 p1 p2 p3 p4 p5 p6
  obtain ⟨p0, p1, p2, p3, p4, p5, p6⟩ := HX2.out
  clear hb2 HB1 HT1 HX1 GR HBG1
  clear HT2 HX2 p0 p1 p2 p3 p4 p5 p6
  go_wp2
  go_ret
  rw [HG.out]
  exact ⟨rfl, HB2.out⟩
set_option maxRecDepth 100000 in
set_option maxHeartbeats 1000000 in
theorem back8_bad {w : World} (m : Mg) (d iv ov : Value) (h : MsgAt w d iv ov m) (hok : MgOk m) (hg : greatM m = false) (hE : mpE m ≠ 0) :
    Calls Tryd.prog 5 #[.agg #[.int .i64 m.kind, .int .u64 m.n, .int .u32 m.code, d, .int .u32 m.tx.ver, iv, ov]] w fun e w' => e = .returned (.bool true) ∧ Below w.heap.size w w' := by
  have hnew := below_new w (.cells #[.int .i64 m.kind, .int .u64 m.n, .int .u32 m.code, d, .int .u32 m.tx.ver, iv, ov] 51)
  have HT0 := hide (h.on hnew)
  have HB0 := hide hnew
  have HX0 := hide (MBox.new w (.int .i64 m.kind) (.int .u64 m.n) (.int .u32 m.code) d (.int .u32 m.tx.ver) iv ov 51)
  have GR := hide (fun w (h : MsgAt w d iv ov m) => great8_any m d iv ov w h hok)
  have AL := hide alive8_any
  rw [hg] at GR
  have PT := hide (fun w (h : MsgAt w d iv ov m) => mput_is m d iv ov w h hok _ _ (mpE m) (mp_bad hE).1 (mp_bad hE).2 rfl)
  have FB := hide (fun w (h : MsgAt w d iv ov m) => mframe_bad m d iv ov w h hok hE)
  obtain ⟨sa, sc, ia, ic, oa, oc, rfl, rfl, rfl⟩ := h.form
  generalize mpE m = E at *
  clear hnew h hok hg
  go_enter Tryd.func5, Tryd.ntmps5
  go_upto_region 1 with fail
  generalize w.alloc (.cells #[.int .i64 m.kind, .int .u64 m.n, .int .u32 m.code, .slice sa m.ids.length sc, .int .u32 m.tx.ver, .slice ia m.tx.ins.length ic, .slice oa m.tx.outs.length oc] 51) = W0 at *
  generalize hg : w.heap.size = g at *
  have HG := hide hg
  clear hg
  have HBG : Hid (g ≤ W0.heap.size) := hide (by have := HB0.out.size; have := HG.out; omega)
  go_wp2_with fail
  refine (AL.out _).mono ?_
  rintro e w1 ⟨rfl, hb1⟩
  have HB1 := hide (HB0.out.trans (hb1.mono HBG.out))
  have HBG1 : Hid (g ≤ w1.heap.size) := hide (Nat.le_trans HBG.out hb1.size)
  have HT1 := hide (HT0.out.on hb1)
  have HX1 := hide (HX0.out.on hb1)
  obtain ⟨p0, p1, p2, p3, p4, p5, p6⟩ := HX1.out
  clear hb1 HB0 HT0 HX0 AL HBG
  go_wp2_with fail
  refine (GR.out _ HT1.out).mono ?_
  rintro e w2 ⟨rfl, hb2⟩
  have HB2 := hide (HB1.out.trans (hb2.mono HBG1.out))
  have HBG2 : Hid (g ≤ w2.heap.size) := hide (Nat.le_trans HBG1.out hb2.size)
  have HT2 := hide (HT1.out.on hb2)
  have HX2 := hide (HX1.out.on hb2)
  clear p0 p1 p2 p3 p4 p5 p6
  obtain ⟨p0, p1, p2, p3, p4, p5, p6⟩ := HX2.out
  clear hb2 HB1 HT1 HX1 GR HBG1
  go_wp2_with fail
  refine (PT.out _ HT2.out).mono ?_
  rintro e w3 ⟨pa, pc, rfl, hown3, hb3⟩
  have HB3 := hide (HB2.out.trans (hb3.mono HBG2.out))
  have HBG3 : Hid (g ≤ w3.heap.size) := hide (Nat.le_trans HBG2.out hb3.size)
  have HX3 := hide (HX2.out.on hb3)
  have HT3 := hide (HT2.out.on hb3)
  have HC3 := hide hown3.bytes
  clear p0 p1 p2 p3 p4 p5 p6
  obtain ⟨p0, p1, p2, p3, p4, p5, p6⟩ := HX3.out
  clear hb3 hown3 HB2 HX2 HT2 HBG2 PT
  go_wp2_with fail
  refine (FB.out _ HT3.out).mono ?_
  rintro e w4 ⟨rfl, hb4⟩
  have R := hide (HB3.out.trans (hb4.mono HBG3.out))
  clear HC3 HX3 HT3 HB3 HBG3 FB hb4 p0 p1 p2 p3 p4 p5 p6
  go_wp2
  go_ret
  rw [HG.out]
  exact ⟨rfl, R.out⟩
set_option maxRecDepth 100000 in
set_option maxHeartbeats 1000000 in
theorem back8_some {w : World} (m : Mg) (d iv ov : Value) (h : MsgAt w d iv ov m) (hok : MgOk m) (hg : greatM m = false) (hE : mpE m = 0) :
    Calls Tryd.prog 5 #[.agg #[.int .i64 m.kind, .int .u64 m.n, .int .u32 m.code, d, .int .u32 m.tx.ver, iv, ov]] w fun e w' => e = .returned (.bool true) ∧ Below w.heap.size w w' := by
  have hnew := below_new w (.cells #[.int .i64 m.kind, .int .u64 m.n, .int .u32 m.code, d, .int .u32 m.tx.ver, iv, ov] 51)
  have HT0 := hide (h.on hnew)
  have HB0 := hide hnew
  have HX0 := hide (MBox.new w (.int .i64 m.kind) (.int .u64 m.n) (.int .u32 m.code) d (.int .u32 m.tx.ver) iv ov 51)
  have GR := hide (fun w (h : MsgAt w d iv ov m) => great8_any m d iv ov w h hok)
  have AL := hide alive8_any
  rw [hg] at GR
  have PT := hide (fun w (h : MsgAt w d iv ov m) => mput_is m d iv ov w h hok _ _ 0 rfl rfl hE)
  obtain ⟨ball, blen, -⟩ := mpB_all m hok hE
  obtain ⟨g1, g2⟩ := mg_put m hok hE
  obtain ⟨n1, n2⟩ := cmd_named hE
  have GT := hide (fun w v (h : Bytes w v (mpB m)) => mget_good (mpC m) (mpB m) v w h ball (by omega) m g1 g2)
  have SM := hide (fun w d' iv' ov' (h : MsgAt w d iv ov m) (h' : MsgAt w d' iv' ov' m) => msame_any m m d iv ov d' iv' ov' w h h' hok hok true (by simp))
  have RS := hide (fun w d' iv' ov' (h : MsgAt w d iv ov m) (h' : MsgAt w d' iv' ov' m) => rsame8_eq m d iv ov d' iv' ov' w h h' hok)
  have NM := hide (fun w => named_any (mpC m) w (by omega))
  rw [n1] at NM
  have hB : ((mpB m).length : Int) ≤ 2048 := by omega
  obtain ⟨sa, sc, ia, ic, oa, oc, rfl, rfl, rfl⟩ := h.form
  clear hnew h hok hg hE ball blen g1 g2 n1 n2
  generalize mpB m = B at *
  generalize mpC m = C at *
  go_enter Tryd.func5, Tryd.ntmps5
  go_upto_region 1 with fail
  generalize w.alloc (.cells #[.int .i64 m.kind, .int .u64 m.n, .int .u32 m.code, .slice sa m.ids.length sc, .int .u32 m.tx.ver, .slice ia m.tx.ins.length ic, .slice oa m.tx.outs.length oc] 51) = W0 at *
  generalize hg : w.heap.size = g at *
  have HG := hide hg
  clear hg
  have HBG : Hid (g ≤ W0.heap.size) := hide (by have := HB0.out.size; have := HG.out; omega)
  go_wp2_with fail
  refine (AL.out _).mono ?_
  rintro e w1 ⟨rfl, hb1⟩
  have HB1 := hide (HB0.out.trans (hb1.mono HBG.out))
  have HBG1 : Hid (g ≤ w1.heap.size) := hide (Nat.le_trans HBG.out hb1.size)
  have HT1 := hide (HT0.out.on hb1)
  have HX1 := hide (HX0.out.on hb1)
  obtain ⟨p0, p1, p2, p3, p4, p5, p6⟩ := HX1.out
  clear hb1 HB0 HT0 HX0 AL HBG
  go_wp2_with fail
  refine (GR.out _ HT1.out).mono ?_
  rintro e w2 ⟨rfl, hb2⟩
  have HB2 := hide (HB1.out.trans (hb2.mono HBG1.out))
  have HBG2 : Hid (g ≤ w2.heap.size) := hide (Nat.le_trans HBG1.out hb2.size)
  have HT2 := hide (HT1.out.on hb2)
  have HX2 := hide (HX1.out.on hb2)
  clear p0 p1 p2 p3 p4 p5 p6
  obtain ⟨p0, p1, p2, p3, p4, p5, p6⟩ := HX2.out
  clear hb2 HB1 HT1 HX1 GR HBG1
  go_wp2_with fail
  refine (PT.out _ HT2.out).mono ?_
  rintro e w3 ⟨pa, pc, rfl, hown3, hb3⟩
  have HB3 := hide (HB2.out.trans (hb3.mono HBG2.out))
  have HBG3 : Hid (g ≤ w3.heap.size) := hide (Nat.le_trans HBG2.out hb3.size)
  have HX3 := hide (HX2.out.on hb3)
  have HT3 := hide (HT2.out.on hb3)
  have HC3 := hide hown3.bytes
  clear p0 p1 p2 p3 p4 p5 p6
  obtain ⟨p0, p1, p2, p3, p4, p5, p6⟩ := HX3.out
  clear hb3 hown3 HB2 HX2 HT2 HBG2 PT
  go_wp2_with fail
  refine (GT.out _ _ HC3.out).mono ?_
  rintro e w4 ⟨sa4, sc4, ia4, ic4, oa4, oc4, rfl, hb4, hk4⟩
  have hbt := below_new w4 (.cells #[.int .i64 m.kind, .int .u64 m.n, .int .u32 m.code, .slice sa4 m.ids.length sc4, .int .u32 m.tx.ver, .slice ia4 m.tx.ins.length ic4, .slice oa4 m.tx.outs.length oc4] 51)
  have hb5 := below_on hb4 hbt
  have HY5 := hide (MBox.new w4 (.int .i64 m.kind) (.int .u64 m.n) (.int .u32 m.code) (.slice sa4 m.ids.length sc4) (.int .u32 m.tx.ver) (.slice ia4 m.tx.ins.length ic4) (.slice oa4 m.tx.outs.length oc4) 51)
  have HU5 := hide (hk4.on hbt)
  have HB5 := hide (HB3.out.trans (hb5.mono HBG3.out))
  have HBG5 := hide (Nat.le_trans HBG3.out hb5.size)
  have HT5 := hide (HT3.out.on hb5)
  have HX5 := hide (HX3.out.on hb5)
  clear p0 p1 p2 p3 p4 p5 p6 hb4 hk4 hbt hb5 HC3 HX3 HT3 HB3 HBG3 GT
  go_upto_region 10 with fail
  generalize w4.alloc (.cells #[.int .i64 m.kind, .int .u64 m.n, .int .u32 m.code, .slice sa4 m.ids.length sc4, .int .u32 m.tx.ver, .slice ia4 m.tx.ins.length ic4, .slice oa4 m.tx.outs.length oc4] 51) = W5 at *
  generalize w4.heap.size = g4 at *
  obtain ⟨p0, p1, p2, p3, p4, p5, p6⟩ := HX5.out
  obtain ⟨q0, q1, q2, q3, q4, q5, q6⟩ := HY5.out
  go_wp2_with fail
  refine (SM.out _ _ _ _ HT5.out HU5.out).mono ?_
  rintro e w6 ⟨rfl, hb6⟩
  have HB6 := hide (HB5.out.trans (hb6.mono HBG5.out))
  have HBG6 := hide (Nat.le_trans HBG5.out hb6.size)
  have HT6 := hide (HT5.out.on hb6)
  have HU6 := hide (HU5.out.on hb6)
  clear p0 p1 p2 p3 p4 p5 p6 q0 q1 q2 q3 q4 q5 q6
  obtain ⟨p0, p1, p2, p3, p4, p5, p6⟩ := HX5.out.on hb6
  obtain ⟨q0, q1, q2, q3, q4, q5, q6⟩ := HY5.out.on hb6
  clear hb6 HB5 HBG5 HT5 HU5 HX5 HY5 SM
  go_wp2_with fail
  refine (RS.out _ _ _ _ HT6.out HU6.out).mono ?_
  rintro e w7 ⟨rfl, hb7⟩
  have R := hide (HB6.out.trans (hb7.mono HBG6.out))
  clear hb7 HB6 HBG6 HT6 HU6 RS p0 p1 p2 p3 p4 p5 p6 q0 q1 q2 q3 q4 q5 q6
  go_wp2_with fail
  refine (NM.out _).mono ?_
  rintro e w8 ⟨rfl, rfl⟩
  clear NM
  go_wp2
  go_ret
  rw [HG.out]
  exact ⟨rfl, R.out⟩
theorem back8_law {w : World} (m : Mg) (d iv ov : Value) (h : MsgAt w d iv ov m) (hok : MgOk m) :
    Calls Tryd.prog 5 #[.agg #[.int .i64 m.kind, .int .u64 m.n, .int .u32 m.code, d, .int .u32 m.tx.ver, iv, ov]] w fun e w' => e = .returned (.bool true) ∧ Below w.heap.size w w' := by
  cases hg : greatM m with
  | true => exact back8_great m d iv ov h hok hg
  | false =>
    by_cases hE : mpE m = 0
    · exact back8_some m d iv ov h hok hg hE
    · exact back8_bad m d iv ov h hok hg hE

set_option maxRecDepth 100000 in
theorem msgBack_lifted (os : Os) (started : os.Started) (H : Type) (enc : TypeId × Value → H) :
    ReturnsInHanded {} Tryd.checked os 5 .any (fun w args => (Rows.msgBackSpec.pre enc Tryd.prog Tryd.f5 [] false w args ∧ laidMetH Tryd.prog laid1 w) ∧ sizedMet enc Tryd.prog Tryd.f5 (OpenSpec.ofChange Rows.msgBackSpec) false w args)
      (Rows.msgBackSpec.post enc Tryd.prog Tryd.f5 false true false false) := by
  refine returnsInHanded_of_change_and (C := Tryd.checked) (X := fun w _ => laidMetH Tryd.prog laid1 w) (fun _ _ _ hh h => h.of_heap hh) own started (by kernel_rfl) Tryd.func5
    (ChangeSpec.witness_shaped (enc := enc) (C := Tryd.checked) (os := os) (X := fun w _ => laidMetH Tryd.prog laid1 w) false (World.doorLaid Tryd.prog 14 os) #[.agg #[.int .i64 0, .int .u64 0, .int .u32 0, .slice none 0 0, .int .u32 0, .slice none 0 0, .slice none 0 0]] 8 rfl (World.shaped_of_RefB (by kernel_rfl) (by kernel_rfl)) (by kernel_rfl) (by kernel_rfl) (by kernel_rfl) (door_met os _)) ?_
  intro W base args ds gs before hval0 hW _ _ hL _
  have hval : ∀ (j : Nat) t v, Tryd.f5.params[j]? = some t → args[j]? = some v → Value.okWide Tryd.prog W .any base t v := hval0
  have hW' := hW
  obtain ⟨p, q, hA0, hV, rfl, hfz, hnd⟩ := hW
  have hA : DataW.TrodAll enc Tryd.prog W 0 (fun _ => true) true Tryd.f5.params.toList args.toList ds p := hA0
  rw [Tryd.params5] at hA hval
  obtain ⟨v0, vs0, d0, ds0, p0, q0, hargs, rfl, rfl, h0, r0⟩ := trodAll_cons hA
  obtain ⟨rfl, rfl, rfl⟩ := trodAll_nil r0
  obtain rfl : args = #[v0] := by cases args; simp_all
  obtain ⟨rfl, rfl⟩ := trodVars_none hV
  have k0 := h0
  have lt0 : ∀ x ∈ p0, x.block < W.heap.size := by obtain ⟨m, hm⟩ := k0; exact DataW.trod_lt m _ _ _ hm
  obtain ⟨t0, c0, a0, b0, rfl, s0, w0⟩ := msg_came (fun _ => rfl) (hval 0 51 v0 rfl rfl) h0
  clear hA0 hval0
  refine (back8_law (w := W) t0 _ _ _ s0 w0).mono fun e W' ⟨he, bel⟩ => ?_
  subst he
  exact ⟨_, rfl, _, _, _, [], _, [], hW', trodAll_mk1 (shut_bool Tryd.underlying4 _), (trodAll_cons_mk (Below.trod laidOut (by kernel_rfl) (of_decide_eq_true (by kernel_rfl)) k0 bel lt0) trodAll_mk0), rfl, bel.frame _, fun h => by cases h⟩

theorem msgBack_holds : Rows.MsgBackSaid :=
  OpenClaim.holds_of_wide 5 Tryd.f5 rfl rfl rfl rfl rfl rfl rfl ⟨rfl, rfl, rfl, rfl, rfl⟩ rfl rfl rfl rfl rfl (by kernel_rfl) Tryd.func5 (by kernel_rfl)
    (of_decide_eq_true (by kernel_rfl)) (by unfold Func.isWrapper; first | (rw [if_pos (by decide +kernel)]; kernel_rfl) | (rw [if_neg (by decide +kernel)]; exact ⟨rfl, rfl⟩))
    (fun os started H enc _ => msgBack_lifted os started H enc)
#print axioms msgBack_holds
theorem msgBack_card : Rows.MsgBackCardSaid :=
  Claim7.holds_tied_plain_at .later [] [.data] true (true, "63be98b54df91c1c028f7b4859c0b799133b80b53fe4d0969b7298db3922ae6f") false
    msgBack_holds (fun _ h => by cases h) (by kernel_rfl) (fun _ h => by cases h) msgBack_row_tie rfl ⟨rfl, rfl⟩ (by kernel_rfl) rfl
    (fun f fn hf hfn => by
      obtain rfl : f = 5 := Option.some.inj ((show Tryd.prog.funcNamed "pappus/pappuslaw08.MsgBack" = some 5 by kernel_rfl).symm.trans hf) |>.symm
      obtain rfl : fn = Tryd.f5 := (Option.some.inj (Tryd.func5.symm.trans hfn)).symm
      exact ⟨by kernel_rfl, fun j t ht => by
        rw [Tryd.params5] at ht
        have hm : t ∈ [51] := by simpa using Array.mem_of_getElem? ht
        have hall : ([51].all fun u => !Tryd.prog.wantsStandIn u) = true := by kernel_rfl
        exact (show Tryd.prog.wantsStandIn t = false by simpa using List.all_eq_true.1 hall t hm)⟩)
    (by kernel_rfl)
#print axioms msgBack_card
end Go.Proofs.YtjmifgdjmaelfaaDoor
