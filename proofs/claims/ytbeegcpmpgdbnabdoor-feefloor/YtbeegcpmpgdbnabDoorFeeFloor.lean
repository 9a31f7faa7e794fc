/-
  Proved: for every two sizes and every transaction the law FeeFloor answers true, and its arguments read as they did. Condition: the table of the sum's constants stands, as the card says.
-/
import Derived.Test.YtbeegcpmpgdbnabDoorFeeAl
import Derived.Test.YtbeegcpmpgdbnabDoorFeeGr
import Derived.Test.YtbeegcpmpgdbnabDoorTxSize
import Derived.Test.YtbeegcpmpgdbnabDoorRefTxSz
import Derived.Test.YtbeegcpmpgdbnabDoorTxP
import Derived.Test.YtbeegcpmpgdbnabDoorCameB
import Derived.Test.YtbeegcpmpgdbnabDoorShaLaw
namespace Go.Proofs.YtbeegcpmpgdbnabDoor
open Go.ChangeShapes Go.WideShapes Go.ChangeAt Go.RowKit

theorem floorV_is {n : Int} (h : n < 9223372036854775808) : floorV n = (((sz0 n) * 100 + 999) / 1000 : Nat) := by
  unfold floorV
  rw [(need_okV (x := sz0 n) (y := 100) (by unfold sz0; omega)).1]
theorem floorV_le {a b : Int} (h : a ≤ b) (hb : b < 9223372036854775808) : floorV a ≤ floorV b := by
  rw [floorV_is (by omega), floorV_is hb]
  unfold sz0
  omega
theorem floorV_some {n : Nat} (h : 0 < n) (hn : n ≤ 2000) : 0 < floorV n ∧ floorV n ≤ n := by
  rw [floorV_is (by omega)]
  unfold sz0
  omega

set_option maxRecDepth 100000 in
set_option maxHeartbeats 4000000 in
/-- From where the sizes stand in their order. -/
theorem floors_in_order (a b : Int) (ha : -9223372036854775808 ≤ a ∧ a ≤ 9223372036854775807) (hb : -9223372036854775808 ≤ b ∧ b ≤ 9223372036854775807) (x y : Int) (hx : x = min a b) (hy : y = max a b) : floorV x ≤ floorV y ∧ (-9223372036854775808 ≤ x ∧ x < 9223372036854775808) ∧ (-9223372036854775808 ≤ y ∧ y < 9223372036854775808) := by
  refine ⟨floorV_le (by omega) (by omega), by omega, by omega⟩
set_option maxRecDepth 100000 in
set_option maxHeartbeats 4000000 in
theorem feeFloor_walk {w : World} (hk : Ks w) (a : Int) (ha : -9223372036854775808 ≤ a ∧ a ≤ 9223372036854775807) (b : Int) (hb : -9223372036854775808 ≤ b ∧ b ≤ 9223372036854775807) (t : Tr) (iv ov : Value) (h : TxAt w iv ov t) (hok : TrOk t) :
    Calls Tryd.prog 4 #[.int .i64 a, .int .i64 b, .agg #[.int .u32 t.ver, iv, ov]] w fun e w' => e = .returned (.bool true) ∧ Below w.heap.size w w' := by
  have hnew := below_new w (.cells #[.int .u32 t.ver, iv, ov] 36)
  have HT0 := hide (h.on hnew)
  have HB0 := hide hnew
  have HX0 := hide (TBox.new w (.int .u32 t.ver) iv ov 36)
  have HK0 := hide (hk.on hnew)
  have AL := hide (fun w (k : Ks w) => alive10_any w k)
  have GR := hide (fun w (h : TxAt w iv ov t) => great10_any t iv ov none 0 0 w h.1 h.2 (fun x hx => (hok.2.1 x hx).1))
  have SZ := hide (fun w (h : TxAt w iv ov t) => tsize_any t iv ov w h.1 h.2 hok)
  have RZ := hide (fun w (h : TxAt w iv ov t) => rtsize_any t iv ov w h hok)
  obtain ⟨x, hx⟩ : ∃ x, x = min a b := ⟨_, rfl⟩
  obtain ⟨y, hy⟩ : ∃ y, y = max a b := ⟨_, rfl⟩
  obtain ⟨hle, hx2, hy2⟩ := floors_in_order a b ha hb x y hx hy
  have FX := hide (fun w => floor_any x hx2.1 hx2.2 w)
  have FY := hide (fun w => floor_any y hy2.1 hy2.2 w)
  have FK := hide (fun w => floor_any 1000 (by decide) (by decide) w)
  rw [show floorV 1000 = 100 by decide] at FK
  have FN := hide (fun w => floor_any 0 (by decide) (by decide) w)
  rw [show floorV 0 = 0 by decide] at FN
  have HS : Hid (ptE t ≠ 0 ∨ (ptE t = 0 ∧ 0 < (ptL t).length ∧ (ptL t).length ≤ 2000 ∧ 0 < floorV (ptL t).length ∧ floorV (ptL t).length ≤ (ptL t).length)) := hide (by
    cases hf : formB t with
    | false =>
      refine Or.inl ?_
      unfold ptE
      rw [if_neg (by rw [hf]; decide)]
      decide
    | true =>
      have e1 : ptL t = txB t := if_pos hf
      have e2 : ptE t = 0 := if_pos hf
      have h1 := txB_ge t
      have h2 := txB_le t hok hf
      rw [e1]
      exact Or.inr ⟨e2, by omega, h2, floorV_some (by omega) h2⟩)
  have FS := hide (fun (h2 : (ptL t).length ≤ 2000) w => floor_any ((ptL t).length : Nat) (by omega) (by omega) w)
  obtain ⟨ia, ic, rfl, -, -⟩ := h.1.form
  obtain ⟨oa, oc, rfl, -, -⟩ := h.2.form
  clear h hok hk hnew hx2 hy2
  generalize hXX : floorV x = fx at *
  generalize hYY : floorV y = fy at *
  have hle' : ¬ fy < fx := by omega
  generalize g10 t 0 = gg at *
  generalize hpl : (ptL t).length = n at *
  generalize floorV (n : Int) = fn at *
  generalize ptE t = pe at *
  clear hpl hXX hYY
  have hsw : (a ≤ b ∧ x = a ∧ y = b) ∨ (b < a ∧ x = b ∧ y = a) := by omega
  clear hx hy ha hb hle
  rcases hsw with ⟨hab, rfl, rfl⟩ | ⟨hab, rfl, rfl⟩
  · have hd : ¬ x > y := by omega
    have hd' : ¬ y < x := by omega
    go_enter Tryd.func4, Tryd.ntmps4
    go_upto_region 1 with fail
    generalize w.alloc (.cells #[.int .u32 t.ver, .slice ia t.ins.length ic, .slice oa t.outs.length oc] 36) = W0 at *
    generalize hwq : w.heap.size = q at *
    have HQ := hide hwq
    clear hwq
    go_wp2_with fail
    refine (AL.out _ HK0.out).mono ?_
    rintro e w1 ⟨rfl, hb1⟩
    have HB1 := hide (below_on (show Below w.heap.size w W0 by rw [HQ.out]; exact HB0.out) hb1)
    have HT1 := hide (HT0.out.on hb1)
    have HX1 := hide (HX0.out.on hb1)
    clear hb1 HB0 HT0 HX0 HK0 AL
    go_wp2_with fail
    refine (FX.out _).mono ?_
    rintro e w2 ⟨rfl, hb2⟩
    go_wp2_with fail
    refine (FY.out _).mono ?_
    rintro e w3 ⟨rfl, hb3⟩
    go_wp2_with fail
    refine (FK.out _).mono ?_
    rintro e w4 ⟨rfl, hb4⟩
    go_wp2_with fail
    refine (FN.out _).mono ?_
    rintro e w5 ⟨rfl, hb5⟩
    have hb6 := below_on (below_on (below_on hb2 hb3) hb4) hb5
    have HB5 := hide (below_on HB1.out hb6)
    have HT5 := hide (HT1.out.on hb6)
    have HX5 := hide (HX1.out.on hb6)
    clear hb2 hb3 hb4 hb5 hb6 HB1 HT1 HX1 FX FY FK FN
    obtain ⟨n0, n1, n2⟩ := HX5.out
    go_wp2_with fail
    refine (GR.out _ HT5.out).mono ?_
    rintro e w6 ⟨rfl, hb6⟩
    have HB6 := hide (below_on HB5.out hb6)
    have HT6 := hide (HT5.out.on hb6)
    have HX6 := hide (HX5.out.on hb6)
    clear hb6 n0 n1 n2 HB5 HT5 HX5 GR
    obtain ⟨n0, n1, n2⟩ := HX6.out
    cases gg with
    | true =>
      go_wp2
      go_ret
      exact ⟨rfl, HB6.out⟩
    | false =>
      go_wp2_with fail
      refine (SZ.out _ HT6.out).mono ?_
      rintro e w7 ⟨rfl, hb7⟩
      have HB7 := hide (below_on HB6.out hb7)
      have HT7 := hide (HT6.out.on hb7)
      have HX7 := hide (HX6.out.on hb7)
      clear hb7 n0 n1 n2 HB6 HT6 HX6 SZ
      obtain ⟨n0, n1, n2⟩ := HX7.out
      go_wp2_with fail
      refine (RZ.out _ HT7.out).mono ?_
      rintro e w8 ⟨rfl, hb8⟩
      have HB8 := hide (below_on HB7.out hb8)
      clear hb8 n0 n1 n2 HB7 HT7 HX7 RZ
      rcases HS.out with h0 | ⟨h0, h1, h2, h3, h4⟩
      · have h0' : (pe == 0) = false := by rw [beq_eq_false_iff_ne]; exact h0
        go_wp2
        go_ret
        exact ⟨rfl, HB8.out⟩
      · subst h0
        have CS := FS.out h2
        have e1 : IntKind.u64.wrap (n : Int) = (n : Int) := by rw [IntKind.wrap_u64]; omega
        have h3' : ¬ fn ≤ 0 := by omega
        go_wp2_with fail
        refine (CS _).mono ?_
        rintro e w9 ⟨rfl, hb9⟩
        have HB9 := hide (below_on HB8.out hb9)
        clear hb9 HB8
        go_wp2_with fail
        refine (CS _).mono ?_
        rintro e w10 ⟨rfl, hb10⟩
        have HB10 := hide (below_on HB9.out hb10)
        clear hb10 HB9 CS
        go_wp2
        go_ret
        exact ⟨by first | rfl | simp, HB10.out⟩
  · have hd : y > x := hab
    go_enter Tryd.func4, Tryd.ntmps4
    go_upto_region 1 with fail
    generalize w.alloc (.cells #[.int .u32 t.ver, .slice ia t.ins.length ic, .slice oa t.outs.length oc] 36) = W0 at *
    generalize hwq : w.heap.size = q at *
    have HQ := hide hwq
    clear hwq
    go_wp2_with fail
    refine (AL.out _ HK0.out).mono ?_
    rintro e w1 ⟨rfl, hb1⟩
    have HB1 := hide (below_on (show Below w.heap.size w W0 by rw [HQ.out]; exact HB0.out) hb1)
    have HT1 := hide (HT0.out.on hb1)
    have HX1 := hide (HX0.out.on hb1)
    clear hb1 HB0 HT0 HX0 HK0 AL
    go_wp2_with fail
    refine (FX.out _).mono ?_
    rintro e w2 ⟨rfl, hb2⟩
    go_wp2_with fail
    refine (FY.out _).mono ?_
    rintro e w3 ⟨rfl, hb3⟩
    go_wp2_with fail
    refine (FK.out _).mono ?_
    rintro e w4 ⟨rfl, hb4⟩
    go_wp2_with fail
    refine (FN.out _).mono ?_
    rintro e w5 ⟨rfl, hb5⟩
    have hb6 := below_on (below_on (below_on hb2 hb3) hb4) hb5
    have HB5 := hide (below_on HB1.out hb6)
    have HT5 := hide (HT1.out.on hb6)
    have HX5 := hide (HX1.out.on hb6)
    clear hb2 hb3 hb4 hb5 hb6 HB1 HT1 HX1 FX FY FK FN
    obtain ⟨n0, n1, n2⟩ := HX5.out
    go_wp2_with fail
    refine (GR.out _ HT5.out).mono ?_
    rintro e w6 ⟨rfl, hb6⟩
    have HB6 := hide (below_on HB5.out hb6)
    have HT6 := hide (HT5.out.on hb6)
    have HX6 := hide (HX5.out.on hb6)
    clear hb6 n0 n1 n2 HB5 HT5 HX5 GR
    obtain ⟨n0, n1, n2⟩ := HX6.out
    cases gg with
    | true =>
      go_wp2
      go_ret
      exact ⟨rfl, HB6.out⟩
    | false =>
      go_wp2_with fail
      refine (SZ.out _ HT6.out).mono ?_
      rintro e w7 ⟨rfl, hb7⟩
      have HB7 := hide (below_on HB6.out hb7)
      have HT7 := hide (HT6.out.on hb7)
      have HX7 := hide (HX6.out.on hb7)
      clear hb7 n0 n1 n2 HB6 HT6 HX6 SZ
      obtain ⟨n0, n1, n2⟩ := HX7.out
      go_wp2_with fail
      refine (RZ.out _ HT7.out).mono ?_
      rintro e w8 ⟨rfl, hb8⟩
      have HB8 := hide (below_on HB7.out hb8)
      clear hb8 n0 n1 n2 HB7 HT7 HX7 RZ
      rcases HS.out with h0 | ⟨h0, h1, h2, h3, h4⟩
      · have h0' : (pe == 0) = false := by rw [beq_eq_false_iff_ne]; exact h0
        go_wp2
        go_ret
        exact ⟨rfl, HB8.out⟩
      · subst h0
        have CS := FS.out h2
        have e1 : IntKind.u64.wrap (n : Int) = (n : Int) := by rw [IntKind.wrap_u64]; omega
        have h3' : ¬ fn ≤ 0 := by omega
        go_wp2_with fail
        refine (CS _).mono ?_
        rintro e w9 ⟨rfl, hb9⟩
        have HB9 := hide (below_on HB8.out hb9)
        clear hb9 HB8
        go_wp2_with fail
        refine (CS _).mono ?_
        rintro e w10 ⟨rfl, hb10⟩
        have HB10 := hide (below_on HB9.out hb10)
        clear hb10 HB9 CS
        go_wp2
        go_ret
        exact ⟨by first | rfl | simp, HB10.out⟩

set_option maxRecDepth 100000 in
theorem feeFloor_lifted (os : Os) (started : os.Started) (H : Type) (enc : TypeId × Value → H) :
    ReturnsInHanded {} Tryd.checked os 4 .any (fun w args => (Rows.feeFloorSpec.pre enc Tryd.prog Tryd.f4 [] false w args ∧ laidMetH Tryd.prog laid1 w) ∧ sizedMet enc Tryd.prog Tryd.f4 (OpenSpec.ofChange Rows.feeFloorSpec) false w args)
      (Rows.feeFloorSpec.post enc Tryd.prog Tryd.f4 false true false false) := by
  refine returnsInHanded_of_change_and (C := Tryd.checked) (X := fun w _ => laidMetH Tryd.prog laid1 w) (fun _ _ _ hh h => h.of_heap hh) own started (by kernel_rfl) Tryd.func4
    (ChangeSpec.witness_shaped (enc := enc) (C := Tryd.checked) (os := os) (X := fun w _ => laidMetH Tryd.prog laid1 w) false (World.doorLaid Tryd.prog 14 os) #[.int .i64 0, .int .i64 0, .agg #[.int .u32 0, .slice none 0 0, .slice none 0 0]] 8 rfl (World.shaped_of_RefB (by kernel_rfl) (by kernel_rfl)) (by kernel_rfl) (by kernel_rfl) (by kernel_rfl) (door_met os _)) ?_
  intro W base args ds gs before hval0 hW _ _ hL _
  have hval : ∀ (j : Nat) t v, Tryd.f4.params[j]? = some t → args[j]? = some v → Value.okWide Tryd.prog W .any base t v := hval0
  have hW' := hW
  obtain ⟨p, q, hA0, hV, rfl, hfz, hnd⟩ := hW
  have hA : DataW.TrodAll enc Tryd.prog W 0 (fun _ => true) true Tryd.f4.params.toList args.toList ds p := hA0
  rw [Tryd.params4] at hA hval
  obtain ⟨v0, vs0, d0, ds0, p0, q0, hargs, rfl, rfl, h0, r0⟩ := trodAll_cons hA
  obtain ⟨v1, vs1, d1, ds1, p1, q1, rfl, rfl, rfl, h1, r1⟩ := trodAll_cons r0
  obtain ⟨v2, vs2, d2, ds2, p2, q2, rfl, rfl, rfl, h2, r2⟩ := trodAll_cons r1
  obtain ⟨rfl, rfl, rfl⟩ := trodAll_nil r2
  obtain rfl : args = #[v0, v1, v2] := by cases args; simp_all
  obtain ⟨rfl, rfl⟩ := trodVars_none hV
  obtain ⟨a0, rfl, rfl, rfl, w0⟩ := open_int Tryd.underlying3 (hval 0 3 v0 rfl rfl) h0
  obtain ⟨a1, rfl, rfl, rfl, w1⟩ := open_int Tryd.underlying3 (hval 1 3 v1 rfl rfl) h1
  have k2 := h2
  have lt2 : ∀ x ∈ p2, x.block < W.heap.size := by obtain ⟨m, hm⟩ := k2; exact DataW.trod_lt m _ _ _ hm
  obtain ⟨t2, a2, b2, rfl, s2, w2⟩ := tx_came (fun _ => rfl) (hval 2 36 v2 rfl rfl) h2
  clear hA0 hval0
  refine (feeFloor_walk (w := W) (ks_of_laid hL) a0 (int_of_wf w0) a1 (int_of_wf w1) t2 _ _ s2 w2).mono fun e W' ⟨he, bel⟩ => ?_
  subst he
  exact ⟨_, rfl, _, _, _, [], _, [], hW', trodAll_mk1 (shut_bool Tryd.underlying4 _), (trodAll_cons_mk (shut_int Tryd.underlying3 w0) (trodAll_cons_mk (shut_int Tryd.underlying3 w1) (trodAll_cons_mk (Below.trod laidOut (by kernel_rfl) (of_decide_eq_true (by kernel_rfl)) k2 bel lt2) trodAll_mk0))), rfl, bel.frame _, fun h => by cases h⟩

theorem feeFloor_holds : Rows.FeeFloorSaid :=
  OpenClaim.holds_of_wide 4 Tryd.f4 rfl rfl rfl rfl rfl rfl rfl ⟨rfl, rfl, rfl, rfl, rfl⟩ rfl rfl rfl rfl rfl (by kernel_rfl) Tryd.func4 (by kernel_rfl)
    (of_decide_eq_true (by kernel_rfl)) (by unfold Func.isWrapper; first | (rw [if_pos (by decide +kernel)]; kernel_rfl) | (rw [if_neg (by decide +kernel)]; exact ⟨rfl, rfl⟩))
    (fun os started H enc _ => feeFloor_lifted os started H enc)
#print axioms feeFloor_holds
theorem feeFloor_card : Rows.FeeFloorCardSaid :=
  Claim7.holds_tied_plain_at .later [] [.data] true (true, "eddde559ab52757c4675ab0e4b17f8dddaf60b994cbb0901cdbb52561b7b926c") false
    feeFloor_holds (fun _ h => by cases h) (by kernel_rfl) (fun _ h => by cases h) feeFloor_row_tie rfl ⟨rfl, rfl⟩ (by kernel_rfl) rfl
    (fun f fn hf hfn => by
      obtain rfl : f = 4 := Option.some.inj ((show Tryd.prog.funcNamed "pappus/pappuslaw10.FeeFloor" = some 4 by kernel_rfl).symm.trans hf) |>.symm
      obtain rfl : fn = Tryd.f4 := (Option.some.inj (Tryd.func4.symm.trans hfn)).symm
      exact ⟨by kernel_rfl, fun j t ht => by
        rw [Tryd.params4] at ht
        have hm : t ∈ [3, 3, 36] := by simpa using Array.mem_of_getElem? ht
        have hall : ([3, 3, 36].all fun u => !Tryd.prog.wantsStandIn u) = true := by kernel_rfl
        exact (show Tryd.prog.wantsStandIn t = false by simpa using List.all_eq_true.1 hall t hm)⟩)
    (by kernel_rfl)
#print axioms feeFloor_card
end Go.Proofs.YtbeegcpmpgdbnabDoor
