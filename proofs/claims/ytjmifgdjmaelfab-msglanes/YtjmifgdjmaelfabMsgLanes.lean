/-
  Proved: for every transaction and every number of the type int the law MsgLanes answers true, and its arguments read as they did. No condition.
-/
import Derived.Test.YtjmifgdjmaelfabMgLawK
import Derived.Test.YtjmifgdjmaelfabRefName
namespace Go.Proofs.Ytjmifgdjmaelfab
open Go.ChangeShapes Go.WideShapes Go.ChangeAt Go.RowKit

def laneL (k : Int) : Int := if k = 9 then 1 else 0
theorem lane_any (k : Int) (w : World) : Calls Try.prog 14 #[.int .i64 k] w fun e w' => e = .returned (.int .i64 (laneL k)) ∧ w' = w := by
  by_cases h : k = 9
  · have R : Hid (laneL k = 1) := hide (if_pos h)
    go_enter Try.func14, Try.ntmps14
    go_wp2
    go_ret
    exact ⟨by rw [R.out]; rfl, rfl⟩
  · have R : Hid (laneL k = 0) := hide (if_neg h)
    go_enter Try.func14, Try.ntmps14
    go_wp2
    go_ret
    exact ⟨by rw [R.out]; rfl, rfl⟩
theorem txm_ok {t : Tr} (k : Int) (hk : -9223372036854775808 ≤ k ∧ k < 9223372036854775808) (hok : TrOk t) : MgOk ⟨k, 0, 0, [], t⟩ := ⟨hk, ⟨Int.le_refl 0, by show (0 : Int) < _; decide⟩, ⟨Int.le_refl 0, by show (0 : Int) < _; decide⟩, fun _ h => (by cases h), hok⟩
theorem txm_put (t : Tr) (k : Int) (hk : k = 8 ∨ k = 9) : mpE ⟨k, 0, 0, [], t⟩ = ptE t ∧ mpB ⟨k, 0, 0, [], t⟩ = ptL t ∧ (ptE t = 0 → mpC ⟨k, 0, 0, [], t⟩ = (shp k).cmd) ∧ (ptE t ≠ 0 → mpC ⟨k, 0, 0, [], t⟩ = ⟨#[]⟩) := by
  have hkk : isKind k = true := by rcases hk with rfl | rfl <;> decide
  have htx : (shp k).hasTx = true ∧ (shp k).maxCode = 0 := by rcases hk with rfl | rfl <;> decide
  have hc : chkE (shp k) ⟨k, 0, 0, [], t⟩ = 0 := by
    refine chkE_zero ((coversB_iff _ _).2 ⟨fun _ => rfl, fun _ => rfl, fun _ => rfl, fun h => ?_⟩) (fun h => ?_) (Nat.zero_le _) ?_
    · rw [htx.1] at h; cases h
    · rcases hk with rfl | rfl <;> exact absurd h (by decide)
    · rw [htx.2]; exact Int.le_refl 0
  have e1 : mpE ⟨k, 0, 0, [], t⟩ = ptE t := by
    unfold mpE
    rw [if_neg (by rw [hkk]; decide), if_neg (by show ¬ chkE (shp k) _ ≠ 0; rw [hc]; decide)]
    exact (mb_tx htx.1).2
  refine ⟨e1, ?_, fun h => if_pos (e1.trans h), fun h => if_neg (by rw [e1]; exact h)⟩
  by_cases h : ptE t = 0
  · exact (if_pos (e1.trans h)).trans (mb_tx htx.1).1
  · have e2 : mpB ⟨k, 0, 0, [], t⟩ = [] := if_neg (by rw [e1]; exact h)
    rw [e2]
    unfold ptL
    rw [if_neg]
    intro hf
    exact h (form_ptE hf).1
set_option maxRecDepth 100000 in
set_option maxHeartbeats 1000000 in
theorem lanes_law {w : World} (t : Tr) (iv ov : Value) (h : TxAt w iv ov t) (hok : TrOk t) (k : Int) (_ : -9223372036854775808 ≤ k ∧ k ≤ 9223372036854775807) :
    Calls Try.prog 7 #[.agg #[.int .u32 t.ver, iv, ov], .int .i64 k] w fun e w' => e = .returned (.bool true) ∧ Below w.heap.size w w' := by
  have hnew := below_new w (.cells #[.int .u32 t.ver, iv, ov] 28)
  have HT0 := hide (h.on hnew)
  have HB0 := hide hnew
  have HX0 := hide (TBox.new w (.int .u32 t.ver) iv ov 28)
  have AL := hide alive8_any
  have GR := hide (fun w (h : TxAt w iv ov t) => great8_any ⟨0, 0, 0, [], t⟩ (.slice none 0 0) iv ov w ⟨IdsAt.nil w, h⟩ (txm_ok 0 (by decide) hok))
  obtain ⟨a1, a2, a3, a4⟩ := txm_put t 8 (Or.inl rfl)
  obtain ⟨b1, b2, b3, b4⟩ := txm_put t 9 (Or.inr rfl)
  have okk : ∀ j : Int, j = 8 ∨ j = 9 → MgOk ⟨j, 0, 0, [], t⟩ := fun j hj => txm_ok j (by rcases hj with rfl | rfl <;> decide) hok
  have LN := hide (fun w => lane_any k w)
  have hlane : (laneL k = 1 ∧ k = 9) ∨ (laneL k = 0 ∧ ¬ k = 9) := by
    by_cases h9 : k = 9
    · exact Or.inl ⟨if_pos h9, h9⟩
    · exact Or.inr ⟨if_neg h9, h9⟩
  have SB := hide (fun w v u (h : Bytes w v (ptL t)) (h' : Bytes w u (ptL t)) => same_any (ptL t) (ptL t) v u w h h')
  rw [decide_eq_true rfl] at SB
  have NM := hide (fun w => rnamed_any ⟨#[116, 120]⟩ w (by decide))
  have NS := hide (fun w => rnamed_any ⟨#[115, 116, 101, 109, 116, 120]⟩ w (by decide))
  rw [show namedL (strL ⟨#[116, 120]⟩) = true by decide] at NM
  rw [show namedL (strL ⟨#[115, 116, 101, 109, 116, 120]⟩) = true by decide] at NS
  have hne : ((⟨#[116, 120]⟩ : ByteArray).toList == (⟨#[115, 116, 101, 109, 116, 120]⟩ : ByteArray).toList) = false := by rw [str_beq]; decide
  have P8 : Hid (∀ C, (ptE t = 0 → C = (⟨#[116, 120]⟩ : ByteArray)) → (ptE t ≠ 0 → C = ⟨#[]⟩) → ∀ w, TxAt w iv ov t → Calls Try.prog 10 #[.agg #[.int .i64 8, .int .u64 0, .int .u32 0, .slice none 0 0, .int .u32 t.ver, iv, ov]] w fun e w' => ∃ a c, e = .returned (.tuple #[.string C, .slice a (ptL t).length c, .int .i64 (ptE t)]) ∧ Own w' w.heap.size (.slice a (ptL t).length c) (ptL t) ∧ Below w.heap.size w w') := hide (by
    intro C h0 h1 w hw
    refine mput_is ⟨8, 0, 0, [], t⟩ (.slice none 0 0) iv ov w ⟨IdsAt.nil w, hw⟩ (okk 8 (Or.inl rfl)) C (ptL t) (ptE t) ?_ a2 a1
    by_cases hz : ptE t = 0
    · rw [a3 hz, h0 hz]; rfl
    · rw [a4 hz, h1 hz])
  have P9 : Hid (∀ C, (ptE t = 0 → C = (⟨#[115, 116, 101, 109, 116, 120]⟩ : ByteArray)) → (ptE t ≠ 0 → C = ⟨#[]⟩) → ∀ w, TxAt w iv ov t → Calls Try.prog 10 #[.agg #[.int .i64 9, .int .u64 0, .int .u32 0, .slice none 0 0, .int .u32 t.ver, iv, ov]] w fun e w' => ∃ a c, e = .returned (.tuple #[.string C, .slice a (ptL t).length c, .int .i64 (ptE t)]) ∧ Own w' w.heap.size (.slice a (ptL t).length c) (ptL t) ∧ Below w.heap.size w w') := hide (by
    intro C h0 h1 w hw
    refine mput_is ⟨9, 0, 0, [], t⟩ (.slice none 0 0) iv ov w ⟨IdsAt.nil w, hw⟩ (okk 9 (Or.inr rfl)) C (ptL t) (ptE t) ?_ b2 b1
    by_cases hz : ptE t = 0
    · rw [b3 hz, h0 hz]; rfl
    · rw [b4 hz, h1 hz])
  obtain ⟨ia, ic, rfl, -, -⟩ := h.1.form
  obtain ⟨oa, oc, rfl, -, -⟩ := h.2.form
  clear hnew h hok a1 a2 a3 a4 b1 b2 b3 b4 okk
  generalize ptL t = L at *
  generalize ptE t = E at *
  generalize hgg : greatM ⟨0, 0, 0, [], t⟩ = G at *
  clear hgg
  go_enter Try.func7, Try.ntmps7
  go_upto_region 1 with fail
  generalize w.alloc (.cells #[.int .u32 t.ver, .slice ia t.ins.length ic, .slice oa t.outs.length oc] 28) = W0 at *
  generalize hg : w.heap.size = g at *
  have HG := hide hg
  clear hg
  have HBG : Hid (g ≤ W0.heap.size) := hide (by have := HB0.out.size; have := HG.out; omega)
  go_wp2_with fail
  refine (AL.out _).mono ?_
  rintro e w1 ⟨rfl, hb1⟩
  have HB1 := hide (HB0.out.trans (hb1.mono HBG.out))
  have HBG1 : Hid (g ≤ w1.heap.size) := hide (Nat.le_trans HBG.out hb1.size)
  have HT1 := hide (HT0.out.on hb1)
  have HX1 := hide (HX0.out.on hb1)
  obtain ⟨p0, p1, p2⟩ := HX1.out
  clear hb1 HB0 HT0 HX0 AL HBG
  go_wp2_with fail
  refine (GR.out _ HT1.out).mono ?_
  rintro e w2 ⟨rfl, hb2⟩
  have HB2 := hide (HB1.out.trans (hb2.mono HBG1.out))
  have HBG2 : Hid (g ≤ w2.heap.size) := hide (Nat.le_trans HBG1.out hb2.size)
  have HT2 := hide (HT1.out.on hb2)
  have HX2 := hide (HX1.out.on hb2)
  clear p0 p1 p2
  obtain ⟨p0, p1, p2⟩ := HX2.out
  clear hb2 HB1 HT1 HX1 GR HBG1
  cases G with
  | true =>
    clear LN SB NM NS P8 P9 HT2 HX2
    go_wp2
    go_ret
    rw [HG.out]
    exact ⟨rfl, HB2.out⟩
  | false =>
    rcases hlane with ⟨l1, hk9⟩ | ⟨l1, hk9⟩
    focus
      subst hk9
      rw [l1] at LN
      go_wp2_with fail
      refine (LN.out _).mono ?_
      rintro e w3 ⟨rfl, rfl⟩
      go_wp2_with fail
      refine (LN.out _).mono ?_
      rintro e w3 ⟨rfl, rfl⟩
      go_wp2_with fail
      refine (LN.out _).mono ?_
      rintro e w3 ⟨rfl, rfl⟩
      clear l1 LN
      go_upto_region 7 with fail
    rotate_left
    focus
      rw [l1] at LN
      go_wp2_with fail
      refine (LN.out _).mono ?_
      rintro e w3 ⟨rfl, rfl⟩
      go_wp2_with fail
      refine (LN.out _).mono ?_
      rintro e w3 ⟨rfl, rfl⟩
      clear l1 LN
      go_upto_region 7 with fail
    rotate_left
    all_goals
      by_cases hE : E = 0
      · have Q8 := hide (P8.out _ (fun _ => rfl) (fun h => absurd hE h))
        have Q9 := hide (P9.out _ (fun _ => rfl) (fun h => absurd hE h))
        subst hE
        clear P8 P9
        go_wp2_with fail
        refine (Q8.out _ HT2.out).mono ?_
        rintro e w4 ⟨pa, pc, rfl, hown4, hb4⟩
        have HB4 := hide (HB2.out.trans (hb4.mono HBG2.out))
        have HBG4 := hide (Nat.le_trans HBG2.out hb4.size)
        have HX4 := hide (HX2.out.on hb4)
        have HT4 := hide (HT2.out.on hb4)
        have HC4 := hide hown4.bytes
        clear p0 p1 p2
        obtain ⟨p0, p1, p2⟩ := HX4.out
        clear hown4 hb4 HB2 HX2 HT2 HBG2 Q8
        go_wp2_with fail
        refine (Q9.out _ HT4.out).mono ?_
        rintro e w5 ⟨qa, qc, rfl, hown5, hb5⟩
        have HB5 := hide (HB4.out.trans (hb5.mono HBG4.out))
        have HBG5 := hide (Nat.le_trans HBG4.out hb5.size)
        have HC5 := hide (HC4.out.below hb5)
        have HD5 := hide hown5.bytes
        clear hown5 hb5 HB4 HX4 HT4 HBG4 HC4 Q9 p0 p1 p2
        go_wp2_with fail
        refine (SB.out _ _ _ HC5.out HD5.out).mono ?_
        rintro e w6 ⟨rfl, n6, rfl⟩
        have R := hide (HB5.out.trans ((below_drewN (Below.refl w5.heap.size w5) n6).mono HBG5.out))
        clear HB5 HBG5 HC5 HD5 SB
        generalize w5.drewN n6 = W6 at *
        go_wp2_with fail
        refine (NM.out _).mono ?_
        rintro e w7 ⟨rfl, rfl⟩
        go_wp2_with fail
        refine (NS.out _).mono ?_
        rintro e w7 ⟨rfl, rfl⟩
        clear NM NS
        go_wp2
        go_ret
        rw [HG.out]
        exact ⟨rfl, R.out⟩
      · have Q8 := hide (P8.out _ (fun h => absurd h hE) (fun _ => rfl))
        have Q9 := hide (P9.out _ (fun h => absurd h hE) (fun _ => rfl))
        clear P8 P9 NM NS
        go_wp2_with fail
        refine (Q8.out _ HT2.out).mono ?_
        rintro e w4 ⟨pa, pc, rfl, hown4, hb4⟩
        have HB4 := hide (HB2.out.trans (hb4.mono HBG2.out))
        have HBG4 := hide (Nat.le_trans HBG2.out hb4.size)
        have HX4 := hide (HX2.out.on hb4)
        have HT4 := hide (HT2.out.on hb4)
        have HC4 := hide hown4.bytes
        clear p0 p1 p2
        obtain ⟨p0, p1, p2⟩ := HX4.out
        clear hown4 hb4 HB2 HX2 HT2 HBG2 Q8
        go_wp2_with fail
        refine (Q9.out _ HT4.out).mono ?_
        rintro e w5 ⟨qa, qc, rfl, hown5, hb5⟩
        have HB5 := hide (HB4.out.trans (hb5.mono HBG4.out))
        have HBG5 := hide (Nat.le_trans HBG4.out hb5.size)
        have HC5 := hide (HC4.out.below hb5)
        have HD5 := hide hown5.bytes
        clear hown5 hb5 HB4 HX4 HT4 HBG4 HC4 Q9 p0 p1 p2
        go_wp2_with fail
        refine (SB.out _ _ _ HC5.out HD5.out).mono ?_
        rintro e w6 ⟨rfl, n6, rfl⟩
        have R := hide (HB5.out.trans ((below_drewN (Below.refl w5.heap.size w5) n6).mono HBG5.out))
        clear HB5 HBG5 HC5 HD5 SB
        generalize w5.drewN n6 = W6 at *
        go_wp2
        go_ret
        rw [HG.out]
        exact ⟨rfl, R.out⟩

set_option maxRecDepth 100000 in
theorem msgLanes_lifted (os : Os) (started : os.Started) (H : Type) (enc : TypeId × Value → H) :
    ReturnsInHanded {} Try.checked os 7 .any (Rows.msgLanesSpec.pre6 enc Try.prog Try.f7 Rows.msgLanesRow.domain false) (Rows.msgLanesSpec.post enc Try.prog Try.f7 false true false false) := by
  refine returnsInHanded_of_change (C := Try.checked) own started (by kernel_rfl) Try.func7
    (ChangeSpec.witness6 (enc := enc) (C := Try.checked) false ⟨#[], #[.agg #[.int .u32 0, .slice none 0 0, .slice none 0 0], .int .i64 0], []⟩ 8 (by kernel_rfl) (by kernel_rfl) (by kernel_rfl) (by kernel_rfl)) ?_
  intro W base args ds gs before hval0 hW hcnd _
  have hval : ∀ (j : Nat) t v, Try.f7.params[j]? = some t → args[j]? = some v → Value.okWide Try.prog W .any base t v := hval0
  have hW' := hW
  obtain ⟨p, q, hA0, hV, rfl, hfz, hnd⟩ := hW
  have hA : DataW.TrodAll enc Try.prog W 0 (fun _ => true) true Try.f7.params.toList args.toList ds p := hA0
  rw [Try.params7] at hA hval
  obtain ⟨v0, vs0, d0, ds0, p0, q0, hargs, rfl, rfl, h0, r0⟩ := trodAll_cons hA
  obtain ⟨v1, vs1, d1, ds1, p1, q1, rfl, rfl, rfl, h1, r1⟩ := trodAll_cons r0
  obtain ⟨rfl, rfl, rfl⟩ := trodAll_nil r1
  obtain rfl : args = #[v0, v1] := by cases args; simp_all
  obtain ⟨rfl, rfl⟩ := trodVars_none hV
  have k0 := h0
  have lt0 : ∀ x ∈ p0, x.block < W.heap.size := by obtain ⟨m, hm⟩ := k0; exact DataW.trod_lt m _ _ _ hm
  obtain ⟨t0, a0, b0, rfl, s0, w0⟩ := tx_came (fun _ => rfl) (hval 0 28 v0 rfl rfl) h0
  obtain ⟨a1, rfl, rfl, rfl, w1⟩ := open_int Try.underlying3 (hval 1 3 v1 rfl rfl) h1
  clear hA0 hval0
  refine (lanes_law (w := W) t0 _ _ s0 w0 a1 (int_of_wf w1)).mono fun e W' ⟨he, bel⟩ => ?_
  subst he
  exact ⟨_, rfl, _, _, _, [], _, [], hW', trodAll_mk1 (shut_bool Try.underlying4 _), (trodAll_cons_mk (Below.trod laidOut (by kernel_rfl) (of_decide_eq_true (by kernel_rfl)) k0 bel lt0) (trodAll_cons_mk (shut_int Try.underlying3 w1) trodAll_mk0)), rfl, bel.frame _, fun h => by cases h⟩

theorem msgLanes_holds : Rows.MsgLanesSaid :=
  OpenClaim.holds_of_wide 7 Try.f7 rfl rfl rfl rfl rfl rfl rfl ⟨rfl, rfl, rfl, rfl, rfl⟩ rfl rfl rfl rfl rfl (by kernel_rfl) Try.func7 (by kernel_rfl)
    (of_decide_eq_true (by kernel_rfl)) (by unfold Func.isWrapper; first | (rw [if_pos (by decide +kernel)]; kernel_rfl) | (rw [if_neg (by decide +kernel)]; exact ⟨rfl, rfl⟩))
    (fun os started H enc _ => msgLanes_lifted os started H enc)
#print axioms msgLanes_holds
end Go.Proofs.Ytjmifgdjmaelfab
