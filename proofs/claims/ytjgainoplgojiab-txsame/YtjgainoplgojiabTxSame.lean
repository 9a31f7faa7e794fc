/-
  Proved: for every transaction and every number of the type uint16 the law TxSame answers true, and its arguments read as they did. No condition.
-/
import Derived.Test.YtjgainoplgojiabTxSameH
import Derived.Test.YtjgainoplgojiabTxCutP
import Derived.Test.YtjgainoplgojiabKitA
namespace Go.Proofs.Ytjgainoplgojiab
open Go.ChangeShapes Go.WideShapes Go.ChangeAt Go.RowKit

/-- What is read of turned bytes is another transaction. -/
theorem turned_other (t : Tr) (h : TrOk t) (i : Nat) (hi : i < (txB t).length) {X : Int} (hX : Byte X) (hne : X ≠ (txB t).getD i 0) (he : gtE ((txB t).set i X) = 0) : gtT ((txB t).set i X) ≠ t ∧ TrOk (gtT ((txB t).set i X)) := by
  have hb : AllB ((txB t).set i X) := fun z hz => by
    rcases List.mem_or_eq_of_mem_set hz with q | q
    · exact txB_all h z q
    · subst q; exact hX
  obtain ⟨n, -, h2, h3, h4, -⟩ := get_ok hb he
  refine ⟨fun e => ?_, h4⟩
  rw [e] at h3
  have hl := congrArg List.length h3
  rw [List.length_set] at h2
  rw [List.length_take, List.length_set] at hl
  have hn : n = (txB t).length := by omega
  rw [hn, List.take_of_length_le (by simp)] at h3
  have : (txB t).getD i 0 = X := by
    rw [h3]
    simp [List.getD, hi]
  exact hne this.symm

set_option maxRecDepth 100000 in
set_option maxHeartbeats 1000000 in
theorem same_form {w : World} (t : Tr) (iv ov : Value) (h : TxAt w iv ov t) (hok : TrOk t) (x : Int) (hx : 0 ≤ x ∧ x < 65536) (hg : greatB t = false) (hf : formB t = true) :
    Calls Try.prog 4 #[.agg #[.int .u32 t.ver, iv, ov], .int .u16 x] w fun e w' => e = .returned (.bool true) ∧ Below w.heap.size w w' := by
  have hnew := below_new w (.cells #[.int .u32 t.ver, iv, ov] 26)
  have HT0 := hide (h.on hnew)
  have HB0 := hide hnew
  have HX0 := hide (TBox.new w (.int .u32 t.ver) iv ov 26)
  have GR := hide (fun w (h : TxAt w iv ov t) => great_any t iv ov w h.1 h.2 (fun x hx => (hok.2.1 x hx).1))
  rw [hg] at GR
  have AL := hide alive_any
  have PT := hide (fun w (h : TxAt w iv ov t) => tput_any t iv ov w h.1 h.2 hok)
  rw [(ptL_form hf).1, (ptL_form hf).2] at PT
  have SA := hide (fun w (h : TxAt w iv ov t) => tsame_any t t iv ov iv ov w h h hok hok true (by simp))
  have hlen := txB_ge t
  have hle := txB_le t hok hf
  obtain ⟨q, hq⟩ : ∃ q : Int, x / 8 = q := ⟨_, rfl⟩
  have hq0 : 0 ≤ q := by omega
  have hq8 : q < 8192 := by omega
  have hq1 : IntKind.u16.wrap (x.tdiv 8) = q := by rw [Int.tdiv_eq_ediv_of_nonneg (by omega), hq]; simp [IntKind.wrap, IntKind.bits, IntKind.signed]; omega
  have hqw : IntKind.i64.wrap q = q := by simp [IntKind.wrap, IntKind.bits, IntKind.signed]; omega
  obtain ⟨i, hi⟩ : ∃ i : Nat, q % ((txB t).length : Int) = (i : Int) := ⟨(q % ((txB t).length : Int)).toNat, (Int.toNat_of_nonneg (Int.emod_nonneg _ (by omega))).symm⟩
  have hil : i < (txB t).length := by have := Int.emod_lt_of_pos q (show (0 : Int) < ((txB t).length : Int) by omega); omega
  have hq2 : q.tmod ((txB t).length : Int) = (i : Int) := by rw [Int.tmod_eq_emod_of_nonneg hq0, hi]
  obtain ⟨j, hj⟩ : ∃ j : Nat, x % 8 = (j : Int) := ⟨(x % 8).toNat, by omega⟩
  have hj8 : j < 8 := by omega
  have hj1 : IntKind.u16.wrap (x.tmod 8) = (j : Int) := by rw [Int.tmod_eq_emod_of_nonneg (by omega), hj]; simp [IntKind.wrap, IntKind.bits, IntKind.signed]; omega
  have hY : (2 : Int) ^ j % 256 = 2 ^ j := by
    rcases (show j = 0 ∨ j = 1 ∨ j = 2 ∨ j = 3 ∨ j = 4 ∨ j = 5 ∨ j = 6 ∨ j = 7 by omega) with rfl | rfl | rfl | rfl | rfl | rfl | rfl | rfl <;> decide
  have hz : Byte ((txB t).getD i 0) := txB_all hok _ (by simp [List.getD, hil])
  have hne := byte_turned hz j hj8
  rw [← hY] at hne
  obtain ⟨X, hX⟩ : ∃ X, X = bits .xor .u8 ((txB t).getD i 0) ((2 : Int) ^ j % 256) := ⟨_, rfl⟩
  rw [← hX] at hne
  have hXb : Byte X := by rw [hX]; exact byte_of_wf (wf_bits _ _ _ _)
  have hbset : AllB ((txB t).set i X) := fun z hz => by
    rcases List.mem_or_eq_of_mem_set hz with q | q
    · exact txB_all hok z q
    · subst q; exact hXb
  have GT := hide (fun w v (h : Bytes w v ((txB t).set i X)) => tget_any _ v w h hbset (by rw [List.length_set]; omega))
  unfold GetDone at GT
  have TO := hide (turned_other t hok i hil hXb hne)
  have S1 := hide (fun (he : gtE ((txB t).set i X) = 0) w iv' ov' (h : TxAt w iv ov t) (h' : TxAt w iv' ov' (gtT ((txB t).set i X))) => tsame_any t _ iv ov iv' ov' w h h' hok (TO.out he).2 false ⟨fun h => (by cases h), fun h => absurd h.symm (TO.out he).1⟩)
  have S2 := hide (fun (he : gtE ((txB t).set i X) = 0) w iv' ov' (h : TxAt w iv' ov' (gtT ((txB t).set i X))) (h' : TxAt w iv ov t) => tsame_any _ t iv' ov' iv ov w h h' (TO.out he).2 hok false ⟨fun h => (by cases h), fun h => absurd h (TO.out he).1⟩)
  obtain ⟨a, cap, rfl, hc1, hc2⟩ := h.1.form
  obtain ⟨a', cap', rfl, hd1, hd2⟩ := h.2.form
  have HOK := hide hok
  obtain ⟨t0, t1⟩ := hx
  clear hnew h hok hg hf hq hi hY hz hne hXb hbset TO
  generalize gtT ((txB t).set i X) = U at *
  generalize gtE ((txB t).set i X) = E at *
  generalize gtN ((txB t).set i X) = N at *
  generalize txB t = tb at *
  have hlen0 : ((tb.length : Int) == 0) = false := beq_eq_false_iff_ne.2 (by omega)
  have hil' : (i : Int) < (tb.length : Int) := by omega
  obtain ⟨z0, hz0⟩ : ∃ z, tb.getD i 0 = z := ⟨_, rfl⟩
  rw [hz0] at hX
  have HZ0 := hide hz0
  have HX := hide hX
  clear hz0 hX
  go_enter Try.func4, Try.ntmps4
  go_upto_region 1 with fail
  generalize w.alloc (.cells #[.int .u32 t.ver, .slice a t.ins.length cap, .slice a' t.outs.length cap'] 26) = W0 at *
  go_wp2_with fail
  refine (AL.out _).mono ?_
  rintro e w1 ⟨rfl, hb1⟩
  have HB1 := hide (below_on HB0.out hb1)
  have HT1 := hide (HT0.out.on hb1)
  have HX1 := hide (HX0.out.on hb1)
  obtain ⟨n0, n1, n2⟩ := HX1.out
  clear hb1 HB0 HT0 HX0 AL
  go_wp2_with fail
  refine (GR.out _ HT1.out).mono ?_
  rintro e w2 ⟨rfl, hb2⟩
  have HB2 := hide (below_on HB1.out hb2)
  have HT2 := hide (HT1.out.on hb2)
  have HX2 := hide (HX1.out.on hb2)
  clear n0 n1 n2
  obtain ⟨n0, n1, n2⟩ := HX2.out
  clear hb2 HB1 HT1 HX1 GR
  go_wp2_with fail
  refine (SA.out _ HT2.out).mono ?_
  rintro e w3 ⟨rfl, hb3⟩
  have HB3 := hide (below_on HB2.out hb3)
  have HT3 := hide (HT2.out.on hb3)
  have HX3 := hide (HX2.out.on hb3)
  clear n0 n1 n2
  obtain ⟨n0, n1, n2⟩ := HX3.out
  clear hb3 HB2 HT2 HX2 SA
  go_wp2_with fail
  refine (PT.out _ HT3.out).mono ?_
  rintro e w4 ⟨v4, rfl, hown4, hb4⟩
  obtain ⟨b2, cap2, rfl, hq3, hq4, hq5, hA⟩ := hown4.mine (by omega)
  have c0 := hA.cell0 i hil
  have c1 := hA.free0 i hil
  rw [HZ0.out] at c0
  have hBs : Below w3.heap.size w3 (w4.setCell ⟨b2, i, none⟩ (.int .u8 X)) := hb4.setCell hq5 _
  have hVs : Bytes (w4.setCell ⟨b2, i, none⟩ (.int .u8 X)) (.slice (some ⟨b2, 0, none⟩) tb.length cap2) (tb.set i X) := by
    have := hA.set0 i hil X
    exact ⟨_, _, by rw [List.length_set], by rw [List.length_set]; exact hq3, hq4, by simp, fun _ => ⟨b2, 0, rfl, fun k hk => this.cell k hk⟩⟩
  have HVs := hide hVs
  have HB5 := hide (below_on HB3.out hBs)
  have HT5 := hide (HT3.out.on hBs)
  have HX5 := hide (HX3.out.on hBs)
  clear n0 n1 n2 hA hBs hVs hb4 hown4 hil HB3 HT3 HX3 PT
  go_wp2_with fail
  rw [← HX.out]
  generalize w4.setCell ⟨b2, i, none⟩ (.int .u8 X) = W5 at *
  refine (GT.out _ _ HVs.out).mono ?_
  rintro e w6 ⟨iv6, ov6, rfl, hb6, hk6⟩
  obtain ⟨ia6, ic6, rfl, -, -⟩ := hk6.self.1.form
  obtain ⟨oa6, oc6, rfl, -, -⟩ := hk6.self.2.form
  have hb7 := below_on hb6 (below_new w6 (.cells #[.int .u32 U.ver, .slice ia6 U.ins.length ic6, .slice oa6 U.outs.length oc6] 26))
  have HU7 := hide (TxAt.on hk6.self (below_new w6 (.cells #[.int .u32 U.ver, .slice ia6 U.ins.length ic6, .slice oa6 U.outs.length oc6] 26)))
  have HY7 := hide (TBox.new w6 (.int .u32 U.ver) (.slice ia6 U.ins.length ic6) (.slice oa6 U.outs.length oc6) 26)
  have HB7 := hide (below_on HB5.out hb7)
  have HT7 := hide (HT5.out.on hb7)
  have HX7 := hide (HX5.out.on hb7)
  clear hb6 hk6 hb7 HB5 HT5 HX5 HVs GT c0 c1
  go_upto_region 12 with fail
  generalize w6.alloc (.cells #[.int .u32 U.ver, .slice ia6 U.ins.length ic6, .slice oa6 U.outs.length oc6] 26) = W7 at *
  generalize w6.heap.size = g7 at *
  by_cases hE : E = 0
  · have A1 := hide (S1.out hE W7 _ _ HT7.out HU7.out)
    have A2 := hide (S2.out hE)
    obtain ⟨n0, n1, n2⟩ := HX7.out
    obtain ⟨m0, m1, m2⟩ := HY7.out
    subst hE
    clear S1 S2
    go_wp2_with fail
    refine A1.out.mono ?_
    rintro e w8 ⟨rfl, hb8⟩
    have HB8 := hide (below_on HB7.out hb8)
    have A3 := hide (A2.out w8 _ _ (HU7.out.on hb8) (HT7.out.on hb8))
    clear n0 n1 n2 m0 m1 m2
    obtain ⟨n0, n1, n2⟩ := HX7.out.on hb8
    obtain ⟨m0, m1, m2⟩ := HY7.out.on hb8
    clear hb8 HB7 HT7 HU7 HX7 HY7 A1 A2
    go_wp2_with fail
    refine A3.out.mono ?_
    rintro e w9 ⟨rfl, hb9⟩
    have R := hide (below_on HB8.out hb9)
    clear hb9 HB8 A3 n0 n1 n2 m0 m1 m2
    go_wp2
    go_ret
    exact ⟨rfl, R.out⟩
  · have hE' : (E == 0) = false := by simpa using hE
    clear S1 S2 HT7 HU7 HX7 HY7
    go_wp2
    go_ret
    exact ⟨rfl, HB7.out⟩

set_option maxRecDepth 100000 in
set_option maxHeartbeats 1000000 in
theorem same_rest {w : World} (t : Tr) (iv ov : Value) (h : TxAt w iv ov t) (hok : TrOk t) (x : Int) (gb : Bool) (hg : greatB t = gb) (hf : gb = true ∨ formB t = false) :
    Calls Try.prog 4 #[.agg #[.int .u32 t.ver, iv, ov], .int .u16 x] w fun e w' => e = .returned (.bool true) ∧ Below w.heap.size w w' := by
  have hnew := below_new w (.cells #[.int .u32 t.ver, iv, ov] 26)
  have HT0 := hide (h.on hnew)
  have HB0 := hide hnew
  have HX0 := hide (TBox.new w (.int .u32 t.ver) iv ov 26)
  have GR := hide (fun w (h : TxAt w iv ov t) => great_any t iv ov w h.1 h.2 (fun x hx => (hok.2.1 x hx).1))
  rw [hg] at GR
  have AL := hide alive_any
  have PT := hide (fun (hf : formB t = false) w (h : TxAt w iv ov t) => by
    have := tput_any t iv ov w h.1 h.2 hok
    rw [(ptL_long hf).1, (ptL_long hf).2] at this
    exact this)
  have SA := hide (fun w (h : TxAt w iv ov t) => tsame_any t t iv ov iv ov w h h hok hok true (by simp))
  obtain ⟨a, cap, rfl, hc1, hc2⟩ := h.1.form
  obtain ⟨a', cap', rfl, hd1, hd2⟩ := h.2.form
  have HF := hide hf
  have HOK := hide hok
  clear hnew h hok hg hf
  go_enter Try.func4, Try.ntmps4
  go_upto_region 1 with fail
  generalize w.alloc (.cells #[.int .u32 t.ver, .slice a t.ins.length cap, .slice a' t.outs.length cap'] 26) = W0 at *
  go_wp2_with fail
  refine (AL.out _).mono ?_
  rintro e w1 ⟨rfl, hb1⟩
  have HB1 := hide (below_on HB0.out hb1)
  have HT1 := hide (HT0.out.on hb1)
  have HX1 := hide (HX0.out.on hb1)
  obtain ⟨n0, n1, n2⟩ := HX1.out
  clear hb1 HB0 HT0 HX0 AL
  go_wp2_with fail
  refine (GR.out _ HT1.out).mono ?_
  rintro e w2 ⟨rfl, hb2⟩
  have HB2 := hide (below_on HB1.out hb2)
  have HT2 := hide (HT1.out.on hb2)
  have HX2 := hide (HX1.out.on hb2)
  clear n0 n1 n2
  obtain ⟨n0, n1, n2⟩ := HX2.out
  clear hb2 HB1 HT1 HX1 GR
  cases gb with
  | true =>
    go_wp2
    go_ret
    exact ⟨rfl, HB2.out⟩
  | false =>
    have hf : formB t = false := by
      rcases HF.out with q | q
      · cases q
      · exact q
    have PT2 := hide (PT.out hf)
    clear PT HF hf
    go_wp2_with fail
    refine (SA.out _ HT2.out).mono ?_
    rintro e w3 ⟨rfl, hb3⟩
    have HB3 := hide (below_on HB2.out hb3)
    have HT3 := hide (HT2.out.on hb3)
    clear n0 n1 n2
    obtain ⟨n0, n1, n2⟩ := HX2.out.on hb3
    clear hb3 HB2 HT2 HX2 SA
    go_wp2_with fail
    refine (PT2.out _ HT3.out).mono ?_
    rintro e w4 ⟨v4, rfl, hown4, hb4⟩
    have R := hide (below_on HB3.out hb4)
    obtain ⟨pa, pc, rfl, hp1, hp2⟩ := hown4.bytes.form
    clear hb4 hown4 n0 n1 n2 HB3 HT3 PT2
    go_wp2
    go_ret
    exact ⟨rfl, R.out⟩
theorem same_law {w : World} (t : Tr) (iv ov : Value) (h : TxAt w iv ov t) (hok : TrOk t) (x : Int) (hx : 0 ≤ x ∧ x < 65536) :
    Calls Try.prog 4 #[.agg #[.int .u32 t.ver, iv, ov], .int .u16 x] w fun e w' => e = .returned (.bool true) ∧ Below w.heap.size w w' := by
  cases hg : greatB t with
  | true => exact same_rest t iv ov h hok x true hg (Or.inl rfl)
  | false =>
    cases hf : formB t with
    | true => exact same_form t iv ov h hok x hx hg hf
    | false => exact same_rest t iv ov h hok x false hg (Or.inr hf)

set_option maxRecDepth 100000 in
theorem txSame_lifted (os : Os) (started : os.Started) (H : Type) (enc : TypeId × Value → H) :
    ReturnsInHanded {} Try.checked os 4 .any (Rows.txSameSpec.pre6 enc Try.prog Try.f4 Rows.txSameRow.domain false) (Rows.txSameSpec.post enc Try.prog Try.f4 false true false false) := by
  refine returnsInHanded_of_change (C := Try.checked) own started (by kernel_rfl) Try.func4
    (ChangeSpec.witness6 (enc := enc) (C := Try.checked) false ⟨#[], #[.agg #[.int .u32 0, .slice none 0 0, .slice none 0 0], .int .u16 0], []⟩ 8 (by kernel_rfl) (by kernel_rfl) (by kernel_rfl) (by kernel_rfl)) ?_
  intro W base args ds gs before hval0 hW hcnd _
  have hval : ∀ (j : Nat) t v, Try.f4.params[j]? = some t → args[j]? = some v → Value.okWide Try.prog W .any base t v := hval0
  have hW' := hW
  obtain ⟨p, q, hA0, hV, rfl, hfz, hnd⟩ := hW
  have hA : DataW.TrodAll enc Try.prog W 0 (fun _ => true) true Try.f4.params.toList args.toList ds p := hA0
  rw [Try.params4] at hA hval
  obtain ⟨v0, vs0, d0, ds0, p0, q0, hargs, rfl, rfl, h0, r0⟩ := trodAll_cons hA
  obtain ⟨v1, vs1, d1, ds1, p1, q1, rfl, rfl, rfl, h1, r1⟩ := trodAll_cons r0
  obtain ⟨rfl, rfl, rfl⟩ := trodAll_nil r1
  obtain rfl : args = #[v0, v1] := by cases args; simp_all
  obtain ⟨rfl, rfl⟩ := trodVars_none hV
  have k0 := h0
  have lt0 : ∀ x ∈ p0, x.block < W.heap.size := by obtain ⟨m, hm⟩ := k0; exact DataW.trod_lt m _ _ _ hm
  obtain ⟨t0, a0, b0, rfl, s0, w0⟩ := tx_came (fun _ => rfl) (hval 0 26 v0 rfl rfl) h0
  obtain ⟨a1, rfl, rfl, rfl, w1⟩ := open_int Try.underlying44 (hval 1 44 v1 rfl rfl) h1
  clear hA0 hval0
  refine (same_law (w := W) t0 _ _ s0 w0 a1 (short_of_wf w1)).mono fun e W' ⟨he, bel⟩ => ?_
  subst he
  exact ⟨_, rfl, _, _, _, [], _, [], hW', trodAll_mk1 (shut_bool Try.underlying4 _), (trodAll_cons_mk (Below.trod laidOut (by kernel_rfl) (of_decide_eq_true (by kernel_rfl)) k0 bel lt0) (trodAll_cons_mk (shut_int Try.underlying44 w1) trodAll_mk0)), rfl, bel.frame _, fun h => by cases h⟩

theorem txSame_holds : Rows.TxSameSaid :=
  OpenClaim.holds_of_wide 4 Try.f4 rfl rfl rfl rfl rfl rfl rfl ⟨rfl, rfl, rfl, rfl, rfl⟩ rfl rfl rfl rfl rfl (by kernel_rfl) Try.func4 (by kernel_rfl)
    (of_decide_eq_true (by kernel_rfl)) (by unfold Func.isWrapper; first | (rw [if_pos (by decide +kernel)]; kernel_rfl) | (rw [if_neg (by decide +kernel)]; exact ⟨rfl, rfl⟩))
    (fun os started H enc _ => txSame_lifted os started H enc)
#print axioms txSame_holds
end Go.Proofs.Ytjgainoplgojiab
