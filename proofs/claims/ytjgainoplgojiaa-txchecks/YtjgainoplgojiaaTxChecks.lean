/-
  Proved: for every transaction the law TxChecks answers true, and its argument reads as it did. No condition.
-/
import Derived.Test.YtjgainoplgojiaaRefCheck07
namespace Go.Proofs.Ytjgainoplgojiaa
open Go.ChangeShapes Go.WideShapes Go.ChangeAt Go.RowKit

theorem bool_is (p : Prop) : (∃ b : Bool, b = true ↔ p) ∧ ∃ b : Bool, b = false ↔ p := by
  by_cases h : p
  · exact ⟨⟨true, by simp [h]⟩, ⟨false, by simp [h]⟩⟩
  · exact ⟨⟨false, by simp [h]⟩, ⟨true, by simp [h]⟩⟩
set_option maxRecDepth 100000 in
set_option maxHeartbeats 1000000 in
theorem checks_law {w : World} (t : Tr) (iv ov : Value) (h : TxAt w iv ov t) (hok : TrOk t) :
    Calls Try.prog 4 #[.agg #[.int .u32 t.ver, iv, ov]] w fun e w' => e = .returned (.bool true) ∧ Below w.heap.size w w' := by
  obtain ⟨p, hp⟩ := (bool_is (PayOk t.outs)).1
  obtain ⟨d, hd⟩ := (bool_is (t.ins.map ptOf).Nodup).2
  have HT0 := hide (h.on (below_new w (.cells #[.int .u32 t.ver, iv, ov] 28)))
  have HB0 := hide (below_new w (.cells #[.int .u32 t.ver, iv, ov] 28))
  have HX0 := hide (TBox.new w (.int .u32 t.ver) iv ov 28)
  have GR := hide (fun w (h : TxAt w iv ov t) => great_any t iv ov w h.1 h.2 (fun x hx => (hok.2.1 x hx).1))
  have AL := hide alive_any
  have C1 := hide (fun w h => tcheck_any t iv ov w h hok p d hp hd)
  have C2 := hide (fun w h => rcheck_any t iv ov w h hok p d hp hd)
  generalize chE t p d = E at *
  obtain ⟨a, cap, rfl, hc1, hc2⟩ := h.1.form
  obtain ⟨a', cap', rfl, hd1, hd2⟩ := h.2.form
  clear h hok hp hd
  generalize greatB t = gb at *
  go_enter Try.func4, Try.ntmps4
  go_upto_region 1 with fail
  generalize w.alloc (.cells #[.int .u32 t.ver, .slice a t.ins.length cap, .slice a' t.outs.length cap'] 28) = W0 at *
  go_wp2_with fail
  refine (AL.out _).mono ?_
  rintro e w1 ⟨rfl, hb1⟩
  have HB1 := hide (below_on HB0.out hb1)
  have HT1 := hide (HT0.out.on hb1)
  have HX1 := hide (HX0.out.on hb1)
  obtain ⟨n0, n1, n2⟩ := HX1.out
  clear hb1 HB0 HT0 HX0 AL
  go_wp2_with fail
  refine (GR.out _ HT1.out).mono ?_
  rintro e w2 ⟨rfl, hb2⟩
  have HB2 := hide (below_on HB1.out hb2)
  have HT2 := hide (HT1.out.on hb2)
  have HX2 := hide (HX1.out.on hb2)
  clear n0 n1 n2
  obtain ⟨n0, n1, n2⟩ := HX2.out
  clear hb2 HB1 HT1 HX1 GR
  cases gb with
  | true =>
    go_wp2
    go_ret
    exact ⟨rfl, HB2.out⟩
  | false =>
    have HCC : Hid (∀ wx, Below w2.heap.size w2 wx → Below w2.heap.size w2 wx ∧ wx.cell? ⟨w.heap.size, 0, none⟩ = some (.int .u32 t.ver) ∧ wx.cell? ⟨w.heap.size, 1, none⟩ = some (.slice a t.ins.length cap) ∧ wx.cell? ⟨w.heap.size, 2, none⟩ = some (.slice a' t.outs.length cap')) := hide (fun wx h => ⟨h, (HX2.out.on h).1, (HX2.out.on h).2.1, (HX2.out.on h).2.2⟩)
    generalize hg : w.heap.size = g at *
    have HG := hide hg
    clear hg
    go_wp2_with fail
    go_region_held3 (fun wx => Below w2.heap.size w2 wx ∧ wx.cell? ⟨g, 0, none⟩ = some (.int .u32 t.ver) ∧ wx.cell? ⟨g, 1, none⟩ = some (.slice a t.ins.length cap) ∧ wx.cell? ⟨g, 2, none⟩ = some (.slice a' t.outs.length cap'))
      (((with_reducible refine HCC.out _ ?_); (repeat (with_reducible first | exact hb4 | exact hb3 | exact Below.refl _ _ | refine Below.drew ?_ | fail))))
      (first
        | (go_at_call 15; (with_reducible refine (C1.out _ (HT2.out.on (Below.refl _ _).drew)).mono ?_); rintro e w3 ⟨rfl, hb3'⟩; have hb3 : Below w2.heap.size w2 w3 := below_on (Below.refl _ _).drew hb3')
        | (go_at_call 16; (with_reducible refine (C2.out _ (HT2.out.on hb3)).mono ?_); rintro e w4 ⟨rfl, hb4'⟩; have hb4 : Below w2.heap.size w2 w4 := below_on hb3 hb4'))
    all_goals
      go_wp2
      go_ret
      rw [HG.out]
      exact ⟨by simp, HB2.out.trans (hb4.mono (by have := HB2.out.size; have := HG.out; omega))⟩

set_option maxRecDepth 100000 in
theorem txChecks_lifted (os : Os) (started : os.Started) (H : Type) (enc : TypeId × Value → H) :
    ReturnsInHanded {} Try.checked os 4 .any (Rows.txChecksSpec.pre6 enc Try.prog Try.f4 Rows.txChecksRow.domain false) (Rows.txChecksSpec.post enc Try.prog Try.f4 false true false false) := by
  refine returnsInHanded_of_change (C := Try.checked) own started (by kernel_rfl) Try.func4
    (ChangeSpec.witness6 (enc := enc) (C := Try.checked) false ⟨#[], #[.agg #[.int .u32 0, .slice none 0 0, .slice none 0 0]], []⟩ 8 (by kernel_rfl) (by kernel_rfl) (by kernel_rfl) (by kernel_rfl)) ?_
  intro W base args ds gs before hval0 hW hcnd _
  have hval : ∀ (j : Nat) t v, Try.f4.params[j]? = some t → args[j]? = some v → Value.okWide Try.prog W .any base t v := hval0
  have hW' := hW
  obtain ⟨p, q, hA0, hV, rfl, hfz, hnd⟩ := hW
  have hA : DataW.TrodAll enc Try.prog W 0 (fun _ => true) true Try.f4.params.toList args.toList ds p := hA0
  rw [Try.params4] at hA hval
  obtain ⟨v0, vs0, d0, ds0, p0, q0, hargs, rfl, rfl, h0, r0⟩ := trodAll_cons hA
  obtain ⟨rfl, rfl, rfl⟩ := trodAll_nil r0
  obtain rfl : args = #[v0] := by cases args; simp_all
  obtain ⟨rfl, rfl⟩ := trodVars_none hV
  have k0 := h0
  have lt0 : ∀ x ∈ p0, x.block < W.heap.size := by obtain ⟨m, hm⟩ := k0; exact DataW.trod_lt m _ _ _ hm
  obtain ⟨t0, a0, b0, rfl, s0, w0⟩ := tx_came (fun _ => rfl) (hval 0 28 v0 rfl rfl) h0
  clear hA0 hval0
  refine (checks_law (w := W) t0 _ _ s0 w0).mono fun e W' ⟨he, bel⟩ => ?_
  subst he
  exact ⟨_, rfl, _, _, _, [], _, [], hW', trodAll_mk1 (shut_bool Try.underlying4 _), (trodAll_cons_mk (Below.trod laidOut (by kernel_rfl) (of_decide_eq_true (by kernel_rfl)) k0 bel lt0) trodAll_mk0), rfl, bel.frame _, fun h => by cases h⟩

theorem txChecks_holds : Rows.TxChecksSaid :=
  OpenClaim.holds_of_wide 4 Try.f4 rfl rfl rfl rfl rfl rfl rfl ⟨rfl, rfl, rfl, rfl, rfl⟩ rfl rfl rfl rfl rfl (by kernel_rfl) Try.func4 (by kernel_rfl)
    (of_decide_eq_true (by kernel_rfl)) (by unfold Func.isWrapper; first | (rw [if_pos (by decide +kernel)]; kernel_rfl) | (rw [if_neg (by decide +kernel)]; exact ⟨rfl, rfl⟩))
    (fun os started H enc _ => txChecks_lifted os started H enc)
#print axioms txChecks_holds
end Go.Proofs.Ytjgainoplgojiaa
