/-
  Proved: for every slice of bytes the law TxGets answers true, and its argument reads as it did. No condition.
-/
import Derived.Test.YtjmifgdjmaelfaaTxGetX
import Derived.Test.YtjmifgdjmaelfaaTxAlive
import Derived.Test.YtjmifgdjmaelfaaLawKit
import Derived.Test.YtjmifgdjmaelfaaRefSame07
namespace Go.Proofs.Ytjmifgdjmaelfaa
open Go.ChangeShapes Go.WideShapes Go.ChangeAt Go.RowKit

theorem noTr_ok : TrOk noTr := ⟨⟨by decide, by decide⟩, fun _ h => (by cases h), fun _ h => (by cases h)⟩
theorem gtT_ok {l : List Int} (h : AllB l) : TrOk (gtT l) := by
  unfold gtT
  split
  · exact (txS_all (s := (l, 0)) h).1
  · exact noTr_ok
theorem whT_ok {l : List Int} (h : AllB l) : TrOk (whT l) := by
  unfold whT
  split
  · exact gtT_ok h
  · exact noTr_ok

set_option maxRecDepth 100000 in
set_option maxHeartbeats 2000000 in
theorem gets_some {w : World} (l : List Int) (v : Value) (hl : AllB l) (hv : Bytes w v l) (hn : l.length ≤ 5000) :
    Calls Try.prog 3 #[v] w fun e w' => e = .returned (.bool true) ∧ Below w.heap.size w w' := by
    have AL := hide (alive_any w)
    have C1 := hide (fun w (h : Bytes w v l) => tget_any l v w h hl (by omega))
    have C2 := hide (fun w (h : Bytes w v l) => rget7_any l v w h hl (by omega))
    have C3 := hide (fun w (h : Bytes w v l) => twhole_any l v w h hl (by omega))
    have C4 := hide (fun w (h : Bytes w v l) => rwhole7_any l v w h hl (by omega))
    have R1 := hide (fun iv ov iv' ov' w h h' => rsame_eq (gtT l) iv ov iv' ov' w h h' (gtT_ok hl))
    have R2 := hide (fun iv ov iv' ov' w h h' => rsame_eq (whT l) iv ov iv' ov' w h h' (whT_ok hl))
    unfold GetDone at C1 C2
    unfold WholeDone at C3 C4
    have HV := hide hv
    obtain ⟨a, cap, rfl, hc1, hc2⟩ := hv.form
    have hn1 : ¬ (5000 : Int) < (l.length : Int) := by omega
    clear hl hv
    generalize gtT l = T at *
    generalize whT l = U at *
    generalize gtE l = E at *
    generalize whE l = F at *
    generalize gtN l = N at *
    go_enter Try.func3, Try.ntmps3
    go_wp2_with fail
    refine AL.out.mono ?_
    rintro e w1 ⟨rfl, hb1⟩
    have HB1 := hide hb1
    have HV1 := hide (HV.out.below hb1)
    clear hb1 AL HV
    go_wp2_with fail
    refine (C1.out _ HV1.out).mono ?_
    rintro e q1 ⟨iv1, ov1, rfl, hb, hk⟩
    have hs := hk.self
    obtain ⟨ia1, ic1, rfl, -, -⟩ := hs.1.form
    obtain ⟨oa1, oc1, rfl, -, -⟩ := hs.2.form
    have hbt := below_new q1 (.cells #[.int .u32 T.ver, .slice ia1 T.ins.length ic1, .slice oa1 T.outs.length oc1] 28)
    have hb2 := below_on hb hbt
    have HX1 := hide (TBox.new q1 (.int .u32 T.ver) (.slice ia1 T.ins.length ic1) (.slice oa1 T.outs.length oc1) 28)
    have HT1 := hide (TxAt.on hs hbt)
    have HB2 := hide (below_on HB1.out hb2)
    have HV2 := hide (HV1.out.below hb2)
    clear hb hk hs hbt hb2 C1 HB1 HV1
    go_upto_region 6 with fail
    generalize q1.alloc (.cells #[.int .u32 T.ver, .slice ia1 T.ins.length ic1, .slice oa1 T.outs.length oc1] 28) = W1 at *
    generalize q1.heap.size = g1 at *
    go_wp2_with fail
    refine (C2.out _ HV2.out).mono ?_
    rintro e q2 ⟨iv2, ov2, rfl, hb, hk⟩
    have hs := hk.self
    obtain ⟨ia2, ic2, rfl, -, -⟩ := hs.1.form
    obtain ⟨oa2, oc2, rfl, -, -⟩ := hs.2.form
    have hbt := below_new q2 (.cells #[.int .u32 T.ver, .slice ia2 T.ins.length ic2, .slice oa2 T.outs.length oc2] 28)
    have hb2 := below_on hb hbt
    have HX2 := hide (TBox.new q2 (.int .u32 T.ver) (.slice ia2 T.ins.length ic2) (.slice oa2 T.outs.length oc2) 28)
    have HT2 := hide (TxAt.on hs hbt)
    have HB3 := hide (below_on HB2.out hb2)
    have HV3 := hide (HV2.out.below hb2)
    have HX1 := hide (HX1.out.on hb2)
    have HT1 := hide (HT1.out.on hb2)
    clear hb hk hs hbt hb2 C2 HB2 HV2
    go_upto_region 7 with fail
    generalize q2.alloc (.cells #[.int .u32 T.ver, .slice ia2 T.ins.length ic2, .slice oa2 T.outs.length oc2] 28) = W2 at *
    generalize q2.heap.size = g2 at *
    go_wp2_with fail
    refine (C3.out _ HV3.out).mono ?_
    rintro e q3 ⟨iv3, ov3, rfl, hb, hk⟩
    have hs := hk.self
    obtain ⟨ia3, ic3, rfl, -, -⟩ := hs.1.form
    obtain ⟨oa3, oc3, rfl, -, -⟩ := hs.2.form
    have hbt := below_new q3 (.cells #[.int .u32 U.ver, .slice ia3 U.ins.length ic3, .slice oa3 U.outs.length oc3] 28)
    have hb2 := below_on hb hbt
    have HX3 := hide (TBox.new q3 (.int .u32 U.ver) (.slice ia3 U.ins.length ic3) (.slice oa3 U.outs.length oc3) 28)
    have HT3 := hide (TxAt.on hs hbt)
    have HB4 := hide (below_on HB3.out hb2)
    have HV4 := hide (HV3.out.below hb2)
    have HX1 := hide (HX1.out.on hb2)
    have HT1 := hide (HT1.out.on hb2)
    have HX2 := hide (HX2.out.on hb2)
    have HT2 := hide (HT2.out.on hb2)
    clear hb hk hs hbt hb2 C3 HB3 HV3
    go_upto_region 8 with fail
    generalize q3.alloc (.cells #[.int .u32 U.ver, .slice ia3 U.ins.length ic3, .slice oa3 U.outs.length oc3] 28) = W3 at *
    generalize q3.heap.size = g3 at *
    go_wp2_with fail
    refine (C4.out _ HV4.out).mono ?_
    rintro e q4 ⟨iv4, ov4, rfl, hb, hk⟩
    have hs := hk.self
    obtain ⟨ia4, ic4, rfl, -, -⟩ := hs.1.form
    obtain ⟨oa4, oc4, rfl, -, -⟩ := hs.2.form
    have hbt := below_new q4 (.cells #[.int .u32 U.ver, .slice ia4 U.ins.length ic4, .slice oa4 U.outs.length oc4] 28)
    have hb2 := below_on hb hbt
    have HX4 := hide (TBox.new q4 (.int .u32 U.ver) (.slice ia4 U.ins.length ic4) (.slice oa4 U.outs.length oc4) 28)
    have HT4 := hide (TxAt.on hs hbt)
    have HB5 := hide (below_on HB4.out hb2)
    have HV5 := hide (HV4.out.below hb2)
    have HX1 := hide (HX1.out.on hb2)
    have HT1 := hide (HT1.out.on hb2)
    have HX2 := hide (HX2.out.on hb2)
    have HT2 := hide (HT2.out.on hb2)
    have HX3 := hide (HX3.out.on hb2)
    have HT3 := hide (HT3.out.on hb2)
    clear hb hk hs hbt hb2 C4 HB4 HV4
    go_upto_region 9 with fail
    generalize q4.alloc (.cells #[.int .u32 U.ver, .slice ia4 U.ins.length ic4, .slice oa4 U.outs.length oc4] 28) = W4 at *
    generalize q4.heap.size = g4 at *
    obtain ⟨a0, a1, a2⟩ := HX1.out
    obtain ⟨b0, b1, b2⟩ := HX2.out
    obtain ⟨c0, c1, c2⟩ := HX3.out
    obtain ⟨d0, d1, d2⟩ := HX4.out
    go_wp2_with fail
    refine (R1.out _ _ _ _ _ HT1.out HT2.out).mono ?_
    rintro e w5 ⟨rfl, hb5⟩
    have HB6 := hide (below_on HB5.out hb5)
    have HT3 := hide (HT3.out.on hb5)
    have HT4 := hide (HT4.out.on hb5)
    have HX3 := hide (HX3.out.on hb5)
    have HX4 := hide (HX4.out.on hb5)
    clear a0 a1 a2 b0 b1 b2 c0 c1 c2 d0 d1 d2 hb5 HB5 HT1 HT2 HX1 HX2 R1
    obtain ⟨c0, c1, c2⟩ := HX3.out
    obtain ⟨d0, d1, d2⟩ := HX4.out
    go_wp2_with fail
    refine (R2.out _ _ _ _ _ HT3.out HT4.out).mono ?_
    rintro e w6 ⟨rfl, hb6⟩
    have HB7 := hide (below_on HB6.out hb6)
    clear c0 c1 c2 d0 d1 d2 hb6 HB6 HT3 HT4 HX3 HX4 R2
    go_wp2
    go_ret
    exact ⟨rfl, HB7.out⟩

theorem gets_law {w : World} (v : Value) (l : List Int) (hl : ∀ z ∈ l, Byte z) (hv : Bytes w v l) :
    Calls Try.prog 3 #[v] w fun e w' => e = .returned (.bool true) ∧ Below w.heap.size w w' := by
  by_cases hn : l.length ≤ 5000
  · exact gets_some l v hl hv hn
  · obtain ⟨a, cap, rfl, _, _⟩ := hv.form
    have hn1 : (5000 : Int) < (l.length : Int) := by omega
    clear hn hv hl
    generalize l.length = n at *
    go_enter Try.func3, Try.ntmps3
    go_wp2_with fail
    refine (alive_any _).mono ?_
    rintro e w1 ⟨rfl, hbel⟩
    have HB := hide hbel
    clear hbel
    go_wp2
    go_ret
    exact ⟨rfl, HB.out⟩

set_option maxRecDepth 100000 in
theorem txGets_lifted (os : Os) (started : os.Started) (H : Type) (enc : TypeId × Value → H) :
    ReturnsInHanded {} Try.checked os 3 .any (Rows.txGetsSpec.pre6 enc Try.prog Try.f3 Rows.txGetsRow.domain false) (Rows.txGetsSpec.post enc Try.prog Try.f3 false true false false) := by
  refine returnsInHanded_of_change (C := Try.checked) own started (by kernel_rfl) Try.func3
    (ChangeSpec.witness6 (enc := enc) (C := Try.checked) false ⟨#[], #[.slice none 0 0], []⟩ 8 (by kernel_rfl) (by kernel_rfl) (by kernel_rfl) (by kernel_rfl)) ?_
  intro W base args ds gs before hval0 hW hcnd _
  have hval : ∀ (j : Nat) t v, Try.f3.params[j]? = some t → args[j]? = some v → Value.okWide Try.prog W .any base t v := hval0
  have hW' := hW
  obtain ⟨p, q, hA0, hV, rfl, hfz, hnd⟩ := hW
  have hA : DataW.TrodAll enc Try.prog W 0 (fun _ => true) true Try.f3.params.toList args.toList ds p := hA0
  rw [Try.params3] at hA hval
  obtain ⟨v0, vs0, d0, ds0, p0, q0, hargs, rfl, rfl, h0, r0⟩ := trodAll_cons hA
  obtain ⟨rfl, rfl, rfl⟩ := trodAll_nil r0
  obtain rfl : args = #[v0] := by cases args; simp_all
  obtain ⟨rfl, rfl⟩ := trodVars_none hV
  obtain ⟨b0, len0, cap0, rfl⟩ := okWide_slice Try.underlying22 (hval 0 22 v0 rfl rfl)
  have k0 := h0
  have lt0 : ∀ x ∈ p0, x.block < W.heap.size := by obtain ⟨m, hm⟩ := k0; exact DataW.trod_lt m _ _ _ hm
  obtain ⟨l0, s0, w0⟩ : ∃ l, Bytes W (.slice b0 len0 cap0) l ∧ ∀ z ∈ l, Byte z := by
    obtain ⟨fuel, hf⟩ := h0
    rcases open_ints Try.underlying22 Try.underlying5 (by kernel_rfl) hf with ⟨hcs, _⟩ | ⟨x, l, c, zs, hcs, _, hl, hm, hz, _, hcell, hwz⟩
    · simp [Value.cells] at hcs
      obtain ⟨rfl, rfl, rfl⟩ := hcs
      exact ⟨[], Bytes.nil _, by simp⟩
    · simp [Value.cells] at hcs
      obtain ⟨rfl, rfl, rfl⟩ := hcs
      exact bytes_row hl hm (by simpa using hz) hcell hwz
  clear hA0 hval0
  refine (gets_law (w := W) _ l0 w0 s0).mono fun e W' ⟨he, bel⟩ => ?_
  subst he
  exact ⟨_, rfl, _, _, _, [], _, [], hW', trodAll_mk1 (shut_bool Try.underlying4 _), (trodAll_cons_mk (Below.trod laidOut (by kernel_rfl) (of_decide_eq_true (by kernel_rfl)) k0 bel lt0) trodAll_mk0), rfl, bel.frame _, fun h => by cases h⟩

theorem txGets_holds : Rows.TxGetsSaid :=
  OpenClaim.holds_of_wide 3 Try.f3 rfl rfl rfl rfl rfl rfl rfl ⟨rfl, rfl, rfl, rfl, rfl⟩ rfl rfl rfl rfl rfl (by kernel_rfl) Try.func3 (by kernel_rfl)
    (of_decide_eq_true (by kernel_rfl)) (by unfold Func.isWrapper; first | (rw [if_pos (by decide +kernel)]; kernel_rfl) | (rw [if_neg (by decide +kernel)]; exact ⟨rfl, rfl⟩))
    (fun os started H enc _ => txGets_lifted os started H enc)
#print axioms txGets_holds
end Go.Proofs.Ytjmifgdjmaelfaa
