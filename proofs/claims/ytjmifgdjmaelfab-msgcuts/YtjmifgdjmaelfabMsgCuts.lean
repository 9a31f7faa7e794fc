/-
  Proved: for every message, every number of the type uint16 and every byte the law MsgCuts answers true, and its arguments read as they did. No condition.
-/
import Derived.Test.YtjmifgdjmaelfabMgLawK
import Derived.Test.YtjmifgdjmaelfabTxAdd
namespace Go.Proofs.Ytjmifgdjmaelfab
open Go.ChangeShapes Go.WideShapes Go.ChangeAt Go.RowKit

set_option maxRecDepth 100000 in
set_option maxHeartbeats 1000000 in
theorem cuts8_great {w : World} (m : Mg) (d iv ov : Value) (h : MsgAt w d iv ov m) (hok : MgOk m) (x y : Int) (hg : greatM m = true) :
    Calls Try.prog 3 #[.agg #[.int .i64 m.kind, .int .u64 m.n, .int .u32 m.code, d, .int .u32 m.tx.ver, iv, ov], .int .u16 x, .int .u8 y] w fun e w' => e = .returned (.bool true) ∧ Below w.heap.size w w' := by
  have hnew := below_new w (.cells #[.int .i64 m.kind, .int .u64 m.n, .int .u32 m.code, d, .int .u32 m.tx.ver, iv, ov] 30)
  have HT0 := hide (h.on hnew)
  have HB0 := hide hnew
  have HX0 := hide (MBox.new w (.int .i64 m.kind) (.int .u64 m.n) (.int .u32 m.code) d (.int .u32 m.tx.ver) iv ov 30)
  have GR := hide (fun w (h : MsgAt w d iv ov m) => great8_any m d iv ov w h hok)
  have AL := hide alive8_any
  rw [hg] at GR
  obtain ⟨sa, sc, ia, ic, oa, oc, rfl, rfl, rfl⟩ := h.form
  clear hnew h hok hg
  go_enter Try.func3, Try.ntmps3
  go_upto_region 1 with fail
  generalize w.alloc (.cells #[.int .i64 m.kind, .int .u64 m.n, .int .u32 m.code, .slice sa m.ids.length sc, .int .u32 m.tx.ver, .slice ia m.tx.ins.length ic, .slice oa m.tx.outs.length oc] 30) = W0 at *
  generalize hg : w.heap.size = g at *
  have HG := hide hg
  clear hg
  have HBG : Hid (g ≤ W0.heap.size) := hide (by have := HB0.out.size; have := HG.out; omega)
  go_wp2_with fail
  refine (AL.out _).mono ?_
  rintro e w1 ⟨rfl, hb1⟩
  have HB1 := hide (HB0.out.trans (hb1.mono HBG.out))
  have HBG1 : Hid (g ≤ w1.heap.size) := hide (Nat.le_trans HBG.out hb1.size)
  have HT1 := hide (HT0.out.on hb1)
  have HX1 := hide (HX0.out.on hb1)
  obtain ⟨p0, p1, p2, p3, p4, p5, p6⟩ := HX1.out
  clear hb1 HB0 HT0 HX0 AL HBG
  go_wp2_with fail
  refine (GR.out _ HT1.out).mono ?_
  rintro e w2 ⟨rfl, hb2⟩
  have HB2 := hide (HB1.out.trans (hb2.mono HBG1.out))
  have HBG2 : Hid (g ≤ w2.heap.size) := hide (Nat.le_trans HBG1.out hb2.size)
  have HT2 := hide (HT1.out.on hb2)
  have HX2 := hide (HX1.out.on hb2)
  clear p0 p1 p2 p3 p4 p5 p6
  obtain ⟨p0, p1, p2, p3, p4, p5, p6⟩ := HX2.out
  clear hb2 HB1 HT1 HX1 GR HBG1
  clear HT2 HX2 p0 p1 p2 p3 p4 p5 p6
  go_wp2
  go_ret
  rw [HG.out]
  exact ⟨rfl, HB2.out⟩

set_option maxRecDepth 100000 in
set_option maxHeartbeats 1000000 in
theorem cuts8_bad {w : World} (m : Mg) (d iv ov : Value) (h : MsgAt w d iv ov m) (hok : MgOk m) (x y : Int) (hg : greatM m = false) (hE : mpE m ≠ 0) :
    Calls Try.prog 3 #[.agg #[.int .i64 m.kind, .int .u64 m.n, .int .u32 m.code, d, .int .u32 m.tx.ver, iv, ov], .int .u16 x, .int .u8 y] w fun e w' => e = .returned (.bool true) ∧ Below w.heap.size w w' := by
  have hnew := below_new w (.cells #[.int .i64 m.kind, .int .u64 m.n, .int .u32 m.code, d, .int .u32 m.tx.ver, iv, ov] 30)
  have HT0 := hide (h.on hnew)
  have HB0 := hide hnew
  have HX0 := hide (MBox.new w (.int .i64 m.kind) (.int .u64 m.n) (.int .u32 m.code) d (.int .u32 m.tx.ver) iv ov 30)
  have GR := hide (fun w (h : MsgAt w d iv ov m) => great8_any m d iv ov w h hok)
  have AL := hide alive8_any
  rw [hg] at GR
  have PT := hide (fun w (h : MsgAt w d iv ov m) => mput_is m d iv ov w h hok _ _ (mpE m) (mp_bad hE).1 (mp_bad hE).2 rfl)
  obtain ⟨sa, sc, ia, ic, oa, oc, rfl, rfl, rfl⟩ := h.form
  generalize mpE m = E at *
  clear hnew h hok hg
  go_enter Try.func3, Try.ntmps3
  go_upto_region 1 with fail
  generalize w.alloc (.cells #[.int .i64 m.kind, .int .u64 m.n, .int .u32 m.code, .slice sa m.ids.length sc, .int .u32 m.tx.ver, .slice ia m.tx.ins.length ic, .slice oa m.tx.outs.length oc] 30) = W0 at *
  generalize hg : w.heap.size = g at *
  have HG := hide hg
  clear hg
  have HBG : Hid (g ≤ W0.heap.size) := hide (by have := HB0.out.size; have := HG.out; omega)
  go_wp2_with fail
  refine (AL.out _).mono ?_
  rintro e w1 ⟨rfl, hb1⟩
  have HB1 := hide (HB0.out.trans (hb1.mono HBG.out))
  have HBG1 : Hid (g ≤ w1.heap.size) := hide (Nat.le_trans HBG.out hb1.size)
  have HT1 := hide (HT0.out.on hb1)
  have HX1 := hide (HX0.out.on hb1)
  obtain ⟨p0, p1, p2, p3, p4, p5, p6⟩ := HX1.out
  clear hb1 HB0 HT0 HX0 AL HBG
  go_wp2_with fail
  refine (GR.out _ HT1.out).mono ?_
  rintro e w2 ⟨rfl, hb2⟩
  have HB2 := hide (HB1.out.trans (hb2.mono HBG1.out))
  have HBG2 : Hid (g ≤ w2.heap.size) := hide (Nat.le_trans HBG1.out hb2.size)
  have HT2 := hide (HT1.out.on hb2)
  have HX2 := hide (HX1.out.on hb2)
  clear p0 p1 p2 p3 p4 p5 p6
  obtain ⟨p0, p1, p2, p3, p4, p5, p6⟩ := HX2.out
  clear hb2 HB1 HT1 HX1 GR HBG1
  go_wp2_with fail
  refine (PT.out _ HT2.out).mono ?_
  rintro e w3 ⟨pa, pc, rfl, hown3, hb3⟩
  have HB3 := hide (HB2.out.trans (hb3.mono HBG2.out))
  have HBG3 : Hid (g ≤ w3.heap.size) := hide (Nat.le_trans HBG2.out hb3.size)
  have HX3 := hide (HX2.out.on hb3)
  have HT3 := hide (HT2.out.on hb3)
  have HC3 := hide hown3.bytes
  clear p0 p1 p2 p3 p4 p5 p6
  obtain ⟨p0, p1, p2, p3, p4, p5, p6⟩ := HX3.out
  clear hb3 hown3 HB2 HX2 HT2 HBG2 PT
  clear HC3 HX3 HT3 p0 p1 p2 p3 p4 p5 p6
  go_wp2
  go_ret
  rw [HG.out]
  exact ⟨rfl, HB3.out⟩
set_option maxRecDepth 100000 in
set_option maxHeartbeats 1000000 in
theorem cuts8_some {w : World} (m : Mg) (d iv ov : Value) (h : MsgAt w d iv ov m) (hok : MgOk m) (x : Int) (hx : 0 ≤ x ∧ x < 65536) (y : Int) (hy : Byte y) (hg : greatM m = false) (hE : mpE m = 0) :
    Calls Try.prog 3 #[.agg #[.int .i64 m.kind, .int .u64 m.n, .int .u32 m.code, d, .int .u32 m.tx.ver, iv, ov], .int .u16 x, .int .u8 y] w fun e w' => e = .returned (.bool true) ∧ Below w.heap.size w w' := by
  have hnew := below_new w (.cells #[.int .i64 m.kind, .int .u64 m.n, .int .u32 m.code, d, .int .u32 m.tx.ver, iv, ov] 30)
  have HT0 := hide (h.on hnew)
  have HB0 := hide hnew
  have HX0 := hide (MBox.new w (.int .i64 m.kind) (.int .u64 m.n) (.int .u32 m.code) d (.int .u32 m.tx.ver) iv ov 30)
  have GR := hide (fun w (h : MsgAt w d iv ov m) => great8_any m d iv ov w h hok)
  have AL := hide alive8_any
  rw [hg] at GR
  have PT := hide (fun w (h : MsgAt w d iv ov m) => mput_is m d iv ov w h hok _ _ 0 rfl rfl hE)
  obtain ⟨ball, blen, bnil⟩ := mpB_all m hok hE
  have hall1 : AllB (mpB m ++ [y]) := ball.append (fun z hz => by obtain rfl := List.mem_singleton.1 hz; exact hy)
  have GL := hide (fun w v (h : Bytes w v (mpB m ++ [y])) => mget_bad (mpC m) (mpB m ++ [y]) v w h hall1 (by simp; omega) 5 (mg_long m hok hE y) (by decide))
  have GC := hide (fun w v k (hk : k < (mpB m).length) (h : Bytes w v ((mpB m).take k)) => mget_bad (mpC m) ((mpB m).take k) v w h (ball.take k) (by simp; omega) 4 (mg_cut m hok hE k hk) (by decide))
  have HTK := hide (fun w a c k (hk : k ≤ (mpB m).length) (h : Bytes w (.slice a (mpB m).length c) (mpB m)) => h.take k hk)
  have HNIL := hide bnil
  have HLEN := hide blen
  obtain ⟨sa, sc, ia, ic, oa, oc, rfl, rfl, rfl⟩ := h.form
  clear hnew h hok hg hE ball hall1 bnil blen
  generalize mpB m = B at *
  generalize mpC m = C at *
  have HXX := hide hx
  clear hx hy
  go_enter Try.func3, Try.ntmps3
  go_upto_region 1 with fail
  generalize w.alloc (.cells #[.int .i64 m.kind, .int .u64 m.n, .int .u32 m.code, .slice sa m.ids.length sc, .int .u32 m.tx.ver, .slice ia m.tx.ins.length ic, .slice oa m.tx.outs.length oc] 30) = W0 at *
  generalize hg : w.heap.size = g at *
  have HG := hide hg
  clear hg
  have HBG : Hid (g ≤ W0.heap.size) := hide (by have := HB0.out.size; have := HG.out; omega)
  go_wp2_with fail
  refine (AL.out _).mono ?_
  rintro e w1 ⟨rfl, hb1⟩
  have HB1 := hide (HB0.out.trans (hb1.mono HBG.out))
  have HBG1 : Hid (g ≤ w1.heap.size) := hide (Nat.le_trans HBG.out hb1.size)
  have HT1 := hide (HT0.out.on hb1)
  have HX1 := hide (HX0.out.on hb1)
  obtain ⟨p0, p1, p2, p3, p4, p5, p6⟩ := HX1.out
  clear hb1 HB0 HT0 HX0 AL HBG
  go_wp2_with fail
  refine (GR.out _ HT1.out).mono ?_
  rintro e w2 ⟨rfl, hb2⟩
  have HB2 := hide (HB1.out.trans (hb2.mono HBG1.out))
  have HBG2 : Hid (g ≤ w2.heap.size) := hide (Nat.le_trans HBG1.out hb2.size)
  have HT2 := hide (HT1.out.on hb2)
  have HX2 := hide (HX1.out.on hb2)
  clear p0 p1 p2 p3 p4 p5 p6
  obtain ⟨p0, p1, p2, p3, p4, p5, p6⟩ := HX2.out
  clear hb2 HB1 HT1 HX1 GR HBG1
  go_wp2_with fail
  refine (PT.out _ HT2.out).mono ?_
  rintro e w3 ⟨pa, pc, rfl, hown3, hb3⟩
  have HB3 := hide (HB2.out.trans (hb3.mono HBG2.out))
  have HBG3 : Hid (g ≤ w3.heap.size) := hide (Nat.le_trans HBG2.out hb3.size)
  have HX3 := hide (HX2.out.on hb3)
  have HT3 := hide (HT2.out.on hb3)
  have HC3 := hide hown3.bytes
  clear p0 p1 p2 p3 p4 p5 p6
  obtain ⟨p0, p1, p2, p3, p4, p5, p6⟩ := HX3.out
  clear hb3 hown3 HB2 HX2 HT2 HBG2 PT
  -- the copy with a byte more
  have hm := below_new w3 (.cells #[] 5)
  have HM := hide (Own.made w3 w3.heap.size (Nat.le_refl _))
  have HC4 := hide (HC3.out.below hm)
  have HM3 := hide hm
  clear hm
  go_wp2_with (at_builtin; refine wp_append_by rfl _ _ rfl w3.heap.size _ [] rfl HM.out _ B rfl HC4.out ?c1 ?c2 ?_)
  case c1 => have := HLEN.out; simp; omega
  case c2 => exact HM3.out.size
  intro v4 w4 hown4 hg4
  have hb4 : Below w3.heap.size w3 w4 := HM3.out.trans (HM.out.grew hg4 HM3.out.size)
  have hby := below_new w4 (.cells #[.int .u8 y] 5)
  have HO4 := hide (Own.on (show Own w4 w3.heap.size v4 B from hown4) hby)
  have HB4 := hide (hb4.trans (hby.mono hb4.size))
  have HY4 := hide (Bytes.one w4 y)
  clear hown4 hg4 hb4 HM HC4 HM3 hby
  go_wp2_with (at_builtin; refine wp_append_by rfl _ _ rfl w3.heap.size _ B rfl HO4.out _ [y] rfl HY4.out ?c3 ?c4 ?_)
  case c3 => have := HLEN.out; simp; omega
  case c4 => exact HB4.out.size
  intro v5 w5 hown5 hg5
  have HB5 := hide (HB4.out.trans (HO4.out.grew hg5 HB4.out.size))
  have HC5 := hide hown5.bytes
  clear hown5 hg5 HO4 HB4 HY4
  go_wp2_with fail
  refine (GL.out _ _ HC5.out).mono ?_
  rintro e w6 ⟨sa6, sc6, ia6, ic6, oa6, oc6, rfl, hb6⟩
  have hb7 := HB5.out.trans ((below_on hb6 (below_new w6 (.cells #[.int .i64 0, .int .u64 0, .int .u32 0, .slice sa6 0 sc6, .int .u32 0, .slice ia6 0 ic6, .slice oa6 0 oc6] 30))).mono HB5.out.size)
  have HY7 := hide (MBox.new w6 (.int .i64 0) (.int .u64 0) (.int .u32 0) (.slice sa6 0 sc6) (.int .u32 0) (.slice ia6 0 ic6) (.slice oa6 0 oc6) 30)
  have HB7 := hide (HB3.out.trans (hb7.mono HBG3.out))
  have HBG7 : Hid (g ≤ (w6.alloc (.cells #[.int .i64 0, .int .u64 0, .int .u32 0, .slice sa6 0 sc6, .int .u32 0, .slice ia6 0 ic6, .slice oa6 0 oc6] 30)).heap.size) := hide (Nat.le_trans HBG3.out hb7.size)
  have HX7 := hide (HX3.out.on hb7)
  have HC7 := hide (HC3.out.below hb7)
  clear p0 p1 p2 p3 p4 p5 p6 hb6 hb7 HB3 HX3 HC3 HT3 HBG3 HB5 HC5 GL
  go_upto_region 9 with fail
  generalize w6.alloc (.cells #[.int .i64 0, .int .u64 0, .int .u32 0, .slice sa6 0 sc6, .int .u32 0, .slice ia6 0 ic6, .slice oa6 0 oc6] 30) = W7 at *
  generalize w6.heap.size = g6 at *
  obtain ⟨p0, p1, p2, p3, p4, p5, p6⟩ := HX7.out
  obtain ⟨q0, q1, q2, q3, q4, q5, q6⟩ := HY7.out
  by_cases hB : B.length = 0
  · have hk := HNIL.out hB
    have eB : (B.length : Int) = 0 := by omega
    rw [hk] at p0
    clear HC7 HX7 HY7 HTK GC HNIL HLEN hB hk
    go_wp2
    go_ret
    rw [HG.out]
    exact ⟨rfl, HB7.out⟩
  · have hxl : x % (B.length : Int) = ((x % (B.length : Int)).toNat : Int) := (Int.toNat_of_nonneg (Int.emod_nonneg _ (by omega))).symm
    have hkl : (x % (B.length : Int)).toNat < B.length := by have := Int.emod_lt_of_pos x (show (0 : Int) < (B.length : Int) by omega); omega
    generalize hk : (x % (B.length : Int)).toNat = k at *
    have hxt : x.tmod (B.length : Int) = (k : Int) := by rw [Int.tmod_eq_emod_of_nonneg HXX.out.1]; exact hxl
    have hxw : IntKind.i64.wrap x = x := by have := HXX.out; simp [IntKind.wrap, IntKind.bits, IntKind.signed]; omega
    have eB : ¬ (B.length : Int) = 0 := by omega
    have HC8 := hide (HTK.out _ _ _ k (by omega) HC7.out)
    have GK := hide (fun w v h => GC.out w v k hkl h)
    obtain ⟨hp1, hp2⟩ := HC7.out.cap
    clear HC7 HTK GC HNIL HX7 HY7 hxl hk
    go_wp2_with fail
    refine (GK.out _ _ HC8.out).mono ?_
    rintro e w8 ⟨sa8, sc8, ia8, ic8, oa8, oc8, rfl, hb8⟩
    have R := hide (HB7.out.trans ((below_on hb8 (below_new w8 (.cells #[.int .i64 0, .int .u64 0, .int .u32 0, .slice sa8 0 sc8, .int .u32 0, .slice ia8 0 ic8, .slice oa8 0 oc8] 30))).mono HBG7.out))
    clear hb8 HB7 HC8 GK p0 p1 p2 p3 p4 p5 p6 q0 q1 q2 q3 q4 q5 q6
    go_wp2
    go_ret
    rw [HG.out]
    exact ⟨rfl, R.out⟩

theorem cuts8_law {w : World} (m : Mg) (d iv ov : Value) (h : MsgAt w d iv ov m) (hok : MgOk m) (x : Int) (hx : 0 ≤ x ∧ x < 65536) (y : Int) (hy : Byte y) :
    Calls Try.prog 3 #[.agg #[.int .i64 m.kind, .int .u64 m.n, .int .u32 m.code, d, .int .u32 m.tx.ver, iv, ov], .int .u16 x, .int .u8 y] w fun e w' => e = .returned (.bool true) ∧ Below w.heap.size w w' := by
  cases hg : greatM m with
  | true => exact cuts8_great m d iv ov h hok x y hg
  | false =>
    by_cases hE : mpE m = 0
    · exact cuts8_some m d iv ov h hok x hx y hy hg hE
    · exact cuts8_bad m d iv ov h hok x y hg hE

set_option maxRecDepth 100000 in
theorem msgCuts_lifted (os : Os) (started : os.Started) (H : Type) (enc : TypeId × Value → H) :
    ReturnsInHanded {} Try.checked os 3 .any (Rows.msgCutsSpec.pre6 enc Try.prog Try.f3 Rows.msgCutsRow.domain false) (Rows.msgCutsSpec.post enc Try.prog Try.f3 false true false false) := by
  refine returnsInHanded_of_change (C := Try.checked) own started (by kernel_rfl) Try.func3
    (ChangeSpec.witness6 (enc := enc) (C := Try.checked) false ⟨#[], #[.agg #[.int .i64 0, .int .u64 0, .int .u32 0, .slice none 0 0, .int .u32 0, .slice none 0 0, .slice none 0 0], .int .u16 0, .int .u8 0], []⟩ 8 (by kernel_rfl) (by kernel_rfl) (by kernel_rfl) (by kernel_rfl)) ?_
  intro W base args ds gs before hval0 hW hcnd _
  have hval : ∀ (j : Nat) t v, Try.f3.params[j]? = some t → args[j]? = some v → Value.okWide Try.prog W .any base t v := hval0
  have hW' := hW
  obtain ⟨p, q, hA0, hV, rfl, hfz, hnd⟩ := hW
  have hA : DataW.TrodAll enc Try.prog W 0 (fun _ => true) true Try.f3.params.toList args.toList ds p := hA0
  rw [Try.params3] at hA hval
  obtain ⟨v0, vs0, d0, ds0, p0, q0, hargs, rfl, rfl, h0, r0⟩ := trodAll_cons hA
  obtain ⟨v1, vs1, d1, ds1, p1, q1, rfl, rfl, rfl, h1, r1⟩ := trodAll_cons r0
  obtain ⟨v2, vs2, d2, ds2, p2, q2, rfl, rfl, rfl, h2, r2⟩ := trodAll_cons r1
  obtain ⟨rfl, rfl, rfl⟩ := trodAll_nil r2
  obtain rfl : args = #[v0, v1, v2] := by cases args; simp_all
  obtain ⟨rfl, rfl⟩ := trodVars_none hV
  have k0 := h0
  have lt0 : ∀ x ∈ p0, x.block < W.heap.size := by obtain ⟨m, hm⟩ := k0; exact DataW.trod_lt m _ _ _ hm
  obtain ⟨t0, c0, a0, b0, rfl, s0, w0⟩ := msg_came (fun _ => rfl) (hval 0 30 v0 rfl rfl) h0
  obtain ⟨a1, rfl, rfl, rfl, w1⟩ := open_int Try.underlying31 (hval 1 31 v1 rfl rfl) h1
  obtain ⟨a2, rfl, rfl, rfl, w2⟩ := open_int Try.underlying5 (hval 2 5 v2 rfl rfl) h2
  clear hA0 hval0
  refine (cuts8_law (w := W) t0 _ _ _ s0 w0 a1 (short_of_wf w1) a2 (byte_of_wf w2)).mono fun e W' ⟨he, bel⟩ => ?_
  subst he
  exact ⟨_, rfl, _, _, _, [], _, [], hW', trodAll_mk1 (shut_bool Try.underlying4 _), (trodAll_cons_mk (Below.trod laidOut (by kernel_rfl) (of_decide_eq_true (by kernel_rfl)) k0 bel lt0) (trodAll_cons_mk (shut_int Try.underlying31 w1) (trodAll_cons_mk (shut_int Try.underlying5 w2) trodAll_mk0))), rfl, bel.frame _, fun h => by cases h⟩

theorem msgCuts_holds : Rows.MsgCutsSaid :=
  OpenClaim.holds_of_wide 3 Try.f3 rfl rfl rfl rfl rfl rfl rfl ⟨rfl, rfl, rfl, rfl, rfl⟩ rfl rfl rfl rfl rfl (by kernel_rfl) Try.func3 (by kernel_rfl)
    (of_decide_eq_true (by kernel_rfl)) (by unfold Func.isWrapper; first | (rw [if_pos (by decide +kernel)]; kernel_rfl) | (rw [if_neg (by decide +kernel)]; exact ⟨rfl, rfl⟩))
    (fun os started H enc _ => msgCuts_lifted os started H enc)
#print axioms msgCuts_holds
end Go.Proofs.Ytjmifgdjmaelfab
