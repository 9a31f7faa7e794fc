/-
  Proved: for every transaction and every number of the type uint16 the law TxCuts answers true, and its arguments read as they did. No condition.
-/
import Derived.Test.YtjgainoplgojiaaTxLawK
import Derived.Test.YtjgainoplgojiaaTxCutP
namespace Go.Proofs.Ytjgainoplgojiaa
open Go.ChangeShapes Go.WideShapes Go.ChangeAt Go.RowKit

set_option maxRecDepth 100000 in
set_option maxHeartbeats 1000000 in
theorem cuts_some {w : World} (t : Tr) (iv ov : Value) (h : TxAt w iv ov t) (hok : TrOk t) (x : Int) (hx : 0 ≤ x ∧ x < 65536) (hg : greatB t = false) :
    Calls Try.prog 6 #[.agg #[.int .u32 t.ver, iv, ov], .int .u16 x] w fun e w' => e = .returned (.bool true) ∧ Below w.heap.size w w' := by
  have HT0 := hide (h.on (below_new w (.cells #[.int .u32 t.ver, iv, ov] 28)))
  have HB0 := hide (below_new w (.cells #[.int .u32 t.ver, iv, ov] 28))
  have HX0 := hide (TBox.new w (.int .u32 t.ver) iv ov 28)
  have GR := hide (fun w (h : TxAt w iv ov t) => great_any t iv ov w h.1 h.2 (fun x hx => (hok.2.1 x hx).1))
  rw [hg] at GR
  have AL := hide alive_any
  have PT := hide (fun w (h : TxAt w iv ov t) => tput_any t iv ov w h.1 h.2 hok)
  obtain ⟨a, cap, rfl, hc1, hc2⟩ := h.1.form
  obtain ⟨a', cap', rfl, hd1, hd2⟩ := h.2.form
  cases hf : formB t with
  | true =>
    rw [(ptL_form hf).1, (ptL_form hf).2] at PT
    have hlen := txB_ge t
    have hle := txB_le t hok hf
    have hxl : x % ((txB t).length : Int) = ((x % ((txB t).length : Int)).toNat : Int) := (Int.toNat_of_nonneg (Int.emod_nonneg _ (by omega))).symm
    have hkl : (x % ((txB t).length : Int)).toNat < (txB t).length := by have := Int.emod_lt_of_pos x (show (0 : Int) < ((txB t).length : Int) by omega); omega
    generalize hk : (x % ((txB t).length : Int)).toNat = k at *
    have hxt : x.tmod ((txB t).length : Int) = (k : Int) := by rw [Int.tmod_eq_emod_of_nonneg hx.1]; exact hxl
    obtain ⟨g1, g2⟩ := get_cut t hok hf k hkl
    obtain ⟨q1, q2⟩ := get_bad (b := (txB t).take k) (by rw [g1]; decide)
    have hall := txB_all hok
    have GT := hide (fun w v (h : Bytes w v ((txB t).take k)) => tget_any _ v w h (hall.take k) (by simp; omega))
    have WH := hide (fun w v (h : Bytes w v ((txB t).take k)) => twhole_any _ v w h (hall.take k) (by simp; omega))
    unfold GetDone at GT
    unfold WholeDone at WH
    rw [q1, q2, g1] at GT
    rw [g2.1, g2.2] at WH
    have HTK := hide (fun w a c (h : Bytes w (.slice a (txB t).length c) (txB t)) => h.take k (by omega))
    generalize txB t = tb at *
    generalize tb.take k = q at *
    have hxw : IntKind.i64.wrap x = x := by simp [IntKind.wrap, IntKind.bits, IntKind.signed]; omega
    have HXL := hide hxl
    have HX := hide hx
    have HOK := hide hok
    clear hxl hk g1 g2 q1 q2 hall hok h hg hx hf
    go_enter Try.func6, Try.ntmps6
    go_upto_region 1 with fail
    generalize w.alloc (.cells #[.int .u32 t.ver, .slice a t.ins.length cap, .slice a' t.outs.length cap'] 28) = W0 at *
    go_wp2_with fail
    refine (AL.out _).mono ?_
    rintro e w1 ⟨rfl, hb1⟩
    have HB1 := hide (below_on HB0.out hb1)
    have HT1 := hide (HT0.out.on hb1)
    have HX1 := hide (HX0.out.on hb1)
    obtain ⟨n0, n1, n2⟩ := HX1.out
    clear hb1 HB0 HT0 HX0 AL
    go_wp2_with fail
    refine (GR.out _ HT1.out).mono ?_
    rintro e w2 ⟨rfl, hb2⟩
    have HB2 := hide (below_on HB1.out hb2)
    have HT2 := hide (HT1.out.on hb2)
    clear n0 n1 n2
    obtain ⟨n0, n1, n2⟩ := HX1.out.on hb2
    clear hb2 HB1 HT1 HX1 GR
    go_wp2_with fail
    refine (PT.out _ HT2.out).mono ?_
    rintro e w3 ⟨v3, rfl, hown3, hb3⟩
    have HB3 := hide (below_on HB2.out hb3)
    obtain ⟨pa, pc, rfl, hp1, hp2⟩ := hown3.bytes.form
    have HC3 := hide (HTK.out _ _ _ hown3.bytes)
    clear hb3 hown3 n0 n1 n2 HB2 HT2 PT HTK
    go_wp2_with fail
    refine (GT.out _ _ HC3.out).mono ?_
    rintro e w4 ⟨iv4, ov4, rfl, hb4, hk4⟩
    obtain ⟨ia, ic, oa, oc, rfl, rfl⟩ := hk4.self.none_form
    have hv0 : noTr.ver = 0 := rfl
    rw [hv0]
    have hb5 := below_on hb4 (below_new w4 (.cells #[.int .u32 0, .slice ia 0 ic, .slice oa 0 oc] 28))
    have HB5 := hide (below_on HB3.out hb5)
    have HC5 := hide (HC3.out.below hb5)
    have HX5 := hide (TBox.new w4 (.int .u32 0) (.slice ia 0 ic) (.slice oa 0 oc) 28)
    clear hb4 hk4 hb5 HB3 HC3 GT hv0
    go_upto_region 12 with fail
    generalize w4.alloc (.cells #[.int .u32 0, .slice ia 0 ic, .slice oa 0 oc] 28) = W4 at *
    generalize w4.heap.size = g4 at *
    go_wp2_with fail
    refine (WH.out _ _ HC5.out).mono ?_
    rintro e w6 ⟨iv6, ov6, rfl, hb6, hk6⟩
    obtain ⟨ia6, ic6, oa6, oc6, rfl, rfl⟩ := hk6.self.none_form
    have hv0 : noTr.ver = 0 := rfl
    rw [hv0]
    have hb7 := below_on hb6 (below_new w6 (.cells #[.int .u32 0, .slice ia6 0 ic6, .slice oa6 0 oc6] 28))
    have R := hide (below_on HB5.out hb7)
    obtain ⟨n0, n1, n2⟩ := HX5.out.on hb7
    clear hb6 hk6 hb7 HB5 HC5 HX5 WH hv0
    go_upto_region 13 with fail
    generalize w6.alloc (.cells #[.int .u32 0, .slice ia6 0 ic6, .slice oa6 0 oc6] 28) = W6 at *
    go_wp2
    go_ret
    exact ⟨rfl, R.out⟩
  | false =>
    rw [(ptL_long hf).1, (ptL_long hf).2] at PT
    have HOK := hide hok
    clear hok h hg hx hf
    go_enter Try.func6, Try.ntmps6
    go_upto_region 1 with fail
    generalize w.alloc (.cells #[.int .u32 t.ver, .slice a t.ins.length cap, .slice a' t.outs.length cap'] 28) = W0 at *
    go_wp2_with fail
    refine (AL.out _).mono ?_
    rintro e w1 ⟨rfl, hb1⟩
    have HB1 := hide (below_on HB0.out hb1)
    have HT1 := hide (HT0.out.on hb1)
    have HX1 := hide (HX0.out.on hb1)
    obtain ⟨n0, n1, n2⟩ := HX1.out
    clear hb1 HB0 HT0 HX0 AL
    go_wp2_with fail
    refine (GR.out _ HT1.out).mono ?_
    rintro e w2 ⟨rfl, hb2⟩
    have HB2 := hide (below_on HB1.out hb2)
    have HT2 := hide (HT1.out.on hb2)
    clear n0 n1 n2
    obtain ⟨n0, n1, n2⟩ := HX1.out.on hb2
    clear hb2 HB1 HT1 HX1 GR
    go_wp2_with fail
    refine (PT.out _ HT2.out).mono ?_
    rintro e w3 ⟨v3, rfl, hown3, hb3⟩
    have R := hide (below_on HB2.out hb3)
    obtain ⟨pa, pc, rfl, hp1, hp2⟩ := hown3.bytes.form
    clear hb3 hown3 n0 n1 n2 HB2 HT2 PT
    go_wp2
    go_ret
    exact ⟨rfl, R.out⟩
theorem cuts_law {w : World} (t : Tr) (iv ov : Value) (h : TxAt w iv ov t) (hok : TrOk t) (x : Int) (hx : 0 ≤ x ∧ x < 65536) :
    Calls Try.prog 6 #[.agg #[.int .u32 t.ver, iv, ov], .int .u16 x] w fun e w' => e = .returned (.bool true) ∧ Below w.heap.size w w' := by
  cases hg : greatB t with
  | false => exact cuts_some t iv ov h hok x hx hg
  | true =>
    have HT0 := hide (h.on (below_new w (.cells #[.int .u32 t.ver, iv, ov] 28)))
    have HB0 := hide (below_new w (.cells #[.int .u32 t.ver, iv, ov] 28))
    have HX0 := hide (TBox.new w (.int .u32 t.ver) iv ov 28)
    have GR := hide (fun w (h : TxAt w iv ov t) => great_any t iv ov w h.1 h.2 (fun x hx => (hok.2.1 x hx).1))
    rw [hg] at GR
    have AL := hide alive_any
    obtain ⟨a, cap, rfl, hc1, hc2⟩ := h.1.form
    obtain ⟨a', cap', rfl, hd1, hd2⟩ := h.2.form
    clear hok h hg hx
    go_enter Try.func6, Try.ntmps6
    go_upto_region 1 with fail
    generalize w.alloc (.cells #[.int .u32 t.ver, .slice a t.ins.length cap, .slice a' t.outs.length cap'] 28) = W0 at *
    go_wp2_with fail
    refine (AL.out _).mono ?_
    rintro e w1 ⟨rfl, hb1⟩
    have HB1 := hide (below_on HB0.out hb1)
    have HT1 := hide (HT0.out.on hb1)
    obtain ⟨n0, n1, n2⟩ := HX0.out.on hb1
    clear hb1 HB0 HT0 HX0 AL
    go_wp2_with fail
    refine (GR.out _ HT1.out).mono ?_
    rintro e w2 ⟨rfl, hb2⟩
    have R := hide (below_on HB1.out hb2)
    clear hb2 HB1 HT1 GR n0 n1 n2
    go_wp2
    go_ret
    exact ⟨rfl, R.out⟩

set_option maxRecDepth 100000 in
theorem txCuts_lifted (os : Os) (started : os.Started) (H : Type) (enc : TypeId × Value → H) :
    ReturnsInHanded {} Try.checked os 6 .any (Rows.txCutsSpec.pre6 enc Try.prog Try.f6 Rows.txCutsRow.domain false) (Rows.txCutsSpec.post enc Try.prog Try.f6 false true false false) := by
  refine returnsInHanded_of_change (C := Try.checked) own started (by kernel_rfl) Try.func6
    (ChangeSpec.witness6 (enc := enc) (C := Try.checked) false ⟨#[], #[.agg #[.int .u32 0, .slice none 0 0, .slice none 0 0], .int .u16 0], []⟩ 8 (by kernel_rfl) (by kernel_rfl) (by kernel_rfl) (by kernel_rfl)) ?_
  intro W base args ds gs before hval0 hW hcnd _
  have hval : ∀ (j : Nat) t v, Try.f6.params[j]? = some t → args[j]? = some v → Value.okWide Try.prog W .any base t v := hval0
  have hW' := hW
  obtain ⟨p, q, hA0, hV, rfl, hfz, hnd⟩ := hW
  have hA : DataW.TrodAll enc Try.prog W 0 (fun _ => true) true Try.f6.params.toList args.toList ds p := hA0
  rw [Try.params6] at hA hval
  obtain ⟨v0, vs0, d0, ds0, p0, q0, hargs, rfl, rfl, h0, r0⟩ := trodAll_cons hA
  obtain ⟨v1, vs1, d1, ds1, p1, q1, rfl, rfl, rfl, h1, r1⟩ := trodAll_cons r0
  obtain ⟨rfl, rfl, rfl⟩ := trodAll_nil r1
  obtain rfl : args = #[v0, v1] := by cases args; simp_all
  obtain ⟨rfl, rfl⟩ := trodVars_none hV
  have k0 := h0
  have lt0 : ∀ x ∈ p0, x.block < W.heap.size := by obtain ⟨m, hm⟩ := k0; exact DataW.trod_lt m _ _ _ hm
  obtain ⟨t0, a0, b0, rfl, s0, w0⟩ := tx_came (fun _ => rfl) (hval 0 28 v0 rfl rfl) h0
  obtain ⟨a1, rfl, rfl, rfl, w1⟩ := open_int Try.underlying41 (hval 1 41 v1 rfl rfl) h1
  clear hA0 hval0
  refine (cuts_law (w := W) t0 _ _ s0 w0 a1 (short_of_wf w1)).mono fun e W' ⟨he, bel⟩ => ?_
  subst he
  exact ⟨_, rfl, _, _, _, [], _, [], hW', trodAll_mk1 (shut_bool Try.underlying4 _), (trodAll_cons_mk (Below.trod laidOut (by kernel_rfl) (of_decide_eq_true (by kernel_rfl)) k0 bel lt0) (trodAll_cons_mk (shut_int Try.underlying41 w1) trodAll_mk0)), rfl, bel.frame _, fun h => by cases h⟩

theorem txCuts_holds : Rows.TxCutsSaid :=
  OpenClaim.holds_of_wide 6 Try.f6 rfl rfl rfl rfl rfl rfl rfl ⟨rfl, rfl, rfl, rfl, rfl⟩ rfl rfl rfl rfl rfl (by kernel_rfl) Try.func6 (by kernel_rfl)
    (of_decide_eq_true (by kernel_rfl)) (by unfold Func.isWrapper; first | (rw [if_pos (by decide +kernel)]; kernel_rfl) | (rw [if_neg (by decide +kernel)]; exact ⟨rfl, rfl⟩))
    (fun os started H enc _ => txCuts_lifted os started H enc)
#print axioms txCuts_holds
end Go.Proofs.Ytjgainoplgojiaa
