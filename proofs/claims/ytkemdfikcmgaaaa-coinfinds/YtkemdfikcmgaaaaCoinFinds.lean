/-
  For every list of coins and every point the law CoinFinds returns true: each coin of a set is found in it, and nothing else; no condition.
-/
import Derived.Test.YtkemdfikcmgaaaaCoAlive
import Derived.Test.YtkemdfikcmgaaaaCoBackP
import Derived.Test.YtkemdfikcmgaaaaCoCame
namespace Go.Proofs.Ytkemdfikcmgaaaa
open Go.ChangeShapes Go.WideShapes Go.ChangeAt Go.RowKit

set_option maxRecDepth 100000 in
set_option maxHeartbeats 600000 in
theorem finds_long (w : World) (v : Value) (L : List Cn) (p : Pt) (hV : CnsAt w v L) (hlen : 300 < L.length) :
    Calls Try.prog 5 #[v, .agg (pC p).toArray] w fun e w' => e = .returned (.bool true) ∧ Below w.heap.size w w' := by
  have hb0 := below_new w (.cells (pC p).toArray 47)
  have CAL := hide (alive9_any (w.alloc (.cells (pC p).toArray 47)))
  have HB0 := hide hb0
  obtain ⟨a, cap, rfl, hc1, hc2⟩ := hV.form
  have HML := hide (fun w' => many_yes L.length a cap w' hlen)
  clear hV hlen hb0
  go_enter Try.func5, Try.ntmps5
  go_upto_region 1 with fail
  generalize w.alloc (.cells (pC p).toArray 47) = W0 at *
  go_wp2_with fail
  refine CAL.out.mono ?_
  rintro e w1 ⟨rfl, hb1⟩
  have HB1 := hide (below_on HB0.out hb1)
  clear hb1 CAL
  go_wp2_with fail
  refine (HML.out w1).mono ?_
  rintro e w2 ⟨rfl, rfl⟩
  go_wp2
  go_ret
  exact ⟨rfl, HB1.out⟩
set_option maxRecDepth 100000 in
set_option maxHeartbeats 600000 in
theorem finds_twice (w : World) (v : Value) (L : List Cn) (p : Pt) (hV : CnsAt w v L) (hok : ∀ c ∈ L, CnOk c) (hlen : L.length ≤ 300) (hN : ¬ (L.map Cn.pt).Nodup) :
    Calls Try.prog 5 #[v, .agg (pC p).toArray] w fun e w' => e = .returned (.bool true) ∧ Below w.heap.size w w' := by
  have hb0 := below_new w (.cells (pC p).toArray 47)
  have CAL := hide (alive9_any (w.alloc (.cells (pC p).toArray 47)))
  have HB0 := hide hb0
  have HV := hide hV
  have HOK := hide hok
  have HN := hide hN
  have HLN : Hid (L.length ≤ 1000) := hide (by omega)
  obtain ⟨a, cap, rfl, hc1, hc2⟩ := hV.form
  have HML := hide (fun w' => many_no L.length a cap w' hlen)
  clear hV hlen hb0 hok hN
  go_enter Try.func5, Try.ntmps5
  go_upto_region 1 with fail
  generalize w.alloc (.cells (pC p).toArray 47) = W0 at *
  go_wp2_with fail
  refine CAL.out.mono ?_
  rintro e w1 ⟨rfl, hb1⟩
  have HB1 := hide (below_on HB0.out hb1)
  have CN := hide (new_twice L _ w1 (HV.out.on HB1.out) HOK.out HLN.out HN.out)
  clear hb1 CAL
  go_wp2_with fail
  refine (HML.out w1).mono ?_
  rintro e w2 ⟨rfl, hw2⟩
  rw [hw2]
  clear hw2
  go_wp2_with fail
  refine CN.out.mono ?_
  rintro e w3 ⟨rfl, hb3⟩
  have HB3 := hide (below_on HB1.out hb3)
  clear hb3
  go_wp2
  go_ret
  exact ⟨rfl, HB3.out⟩
/-- So far each one is found. -/
def FindI (w : World) (p : Pt) (L : List Cn) (x i : Value) (wr : World) : Prop := ∃ j : Nat, j ≤ L.length ∧ i = .int .i64 j ∧ Below w.heap.size w wr ∧ ∃ r : Bool, x = .bool r ∧ (r = true ↔ p ∈ (L.take j).map Cn.pt)
set_option maxRecDepth 100000 in
set_option maxHeartbeats 1000000 in
theorem finds_main (w : World) (v : Value) (L : List Cn) (p : Pt) (hV : CnsAt w v L) (hok : ∀ c ∈ L, CnOk c) (hp : PtOk p) (hlen : L.length ≤ 300) (hN : (L.map Cn.pt).Nodup) :
    Calls Try.prog 5 #[v, .agg (pC p).toArray] w fun e w' => e = .returned (.bool true) ∧ Below w.heap.size w w' := by
  have hb0 := below_new w (.cells (pC p).toArray 47)
  have CAL := hide (alive9_any (w.alloc (.cells (pC p).toArray 47)))
  have HB0 := hide hb0
  have HP0 := hide (range_new w (pC p) 47)
  have HIP : Hid ((Try.prog.info? 47).map (·.size) = some (pC p).length) := hide (by rw [pC_length hp]; exact info_pt)
  have HV := hide hV
  have HOK := hide hok
  have HPK := hide hp
  have HN := hide hN
  have HZ := hide zero_cn
  have HLN : Hid (L.length ≤ 1000) := hide (by omega)
  obtain ⟨a, cap, rfl, hc1, hc2⟩ := hV.form
  have HML := hide (fun w' => many_no L.length a cap w' hlen)
  have hle : (L.length : Int) ≤ 300 := by omega
  clear hV hlen hb0 hok hN hp
  go_enter Try.func5, Try.ntmps5
  go_upto_region 1 with fail
  generalize w.alloc (.cells (pC p).toArray 47) = W0 at *
  go_wp2_with fail
  refine CAL.out.mono ?_
  rintro e w1 ⟨rfl, hb1⟩
  have HB1 := hide (below_on HB0.out hb1)
  have HP1 := hide (range_on HP0.out hb1)
  have CN := hide (new_ok L _ w1 (HV.out.on HB1.out) HOK.out HLN.out HN.out)
  clear hb1 CAL HP0 HB0
  go_wp2_with fail
  refine (HML.out w1).mono ?_
  rintro e w2 ⟨rfl, hw2⟩
  rw [hw2]
  clear hw2
  go_wp2_with fail
  refine CN.out.mono ?_
  rintro e w3 ⟨b, k, rfl, hset, -, -, hb3⟩
  have HS3 := hide hset
  have HB3 := hide (below_on HB1.out hb3)
  have HP3 := hide (range_on HP1.out hb3)
  clear hset hb3 CN HP1 HB1
  have HSZ : Hid (w.heap.size < w3.heap.size) := hide (by
    have := HP3.out 0 _ (List.getElem?_eq_getElem (show 0 < (pC p).length by rw [pC_length HPK.out]; omega))
    exact World.block_lt_of_cell? _ _ this)
  generalize hg : w.heap.size = g at *
  have HG := hide hg
  clear hg
  generalize hQ : pC p = Q at *
  have HQ := hide hQ
  clear hQ
  have HS0 : Hid (FindI w3 p L (.bool false) (.int .i64 0) w3) := hide ⟨0, Nat.zero_le _, rfl, Below.refl _ _, false, rfl, by simp⟩
  go_wp2_with fail
  go_loopw [7, 27] (fun x i wr => FindI w3 p L x i wr) (fun _ i _ => L.length - (intOf i).toNat)
  case atStart => exact HS0.out
  case round =>
    clear HS0
    obtain ⟨j, hj, rfl, hB, r, rfl, hr⟩ := hrel
    have HB := hide hB
    have HR := hide hr
    by_cases hlt : j < L.length
    · obtain ⟨x, hx⟩ : ∃ x, L[j]? = some x := ⟨_, List.getElem?_eq_getElem hlt⟩
      have hB3 := HB3.out
      rw [← HG.out] at hB3
      obtain ⟨b2, off2, rfl, hrr⟩ := ((HV.out.on hB3).on hB).get hx
      have hxm := List.mem_of_getElem? hx
      have hxo := HOK.out x hxm
      have HXO := hide hxo
      have HX := hide hx
      have HR1 := hide hrr
      have HN1 : Hid ((Try.prog.info? 59).map (·.size) = some (cnC x).length) := hide (by rw [cnC_length hxo]; exact info_cn)
      have H1 : Hid (∀ u ∈ cnC x, u.oneCell' = true) := hide (cnC_one x)
      have HT : Hid (∀ w : World, (w.alloc (.cells coinZ 59)).there w.heap.size 0 (cnC x).length) := hide (fun w => by rw [cnC_length hxo]; exact cn_there w)
      have HIX : Hid ((Try.prog.info? 47).map (·.size) = some (pC x.pt).length) := hide (by rw [pC_length hxo.1]; exact info_pt)
      have HLO : Hid ((Try.prog.info? 50).map (·.size) = some (outC x.out).length) := hide (by rw [outC_length hxo.2.2.1]; exact info_out)
      have HTO : Hid (∀ w : World, (w.alloc (.cells #[.int .u64 0, .int .u8 0, .int .u8 0, .int .u8 0, .int .u8 0, .int .u8 0, .int .u8 0, .int .u8 0, .int .u8 0, .int .u8 0, .int .u8 0, .int .u8 0, .int .u8 0, .int .u8 0, .int .u8 0, .int .u8 0, .int .u8 0, .int .u8 0, .int .u8 0, .int .u8 0, .int .u8 0, .int .u8 0, .int .u8 0, .int .u8 0, .int .u8 0, .int .u8 0, .int .u8 0, .int .u8 0, .int .u8 0, .int .u8 0, .int .u8 0, .int .u8 0, .int .u8 0] 50)).there w.heap.size 0 (outC x.out).length) := hide (fun w => by rw [outC_length hxo.2.2.1]; exact o_there w)
      have HO1 : Hid (∀ u ∈ outC x.out, u.oneCell' = true) := hide (outC_one _)
      have hk1 : (j : Int) < (L.length : Int) := by omega
      have hEQ := eql_out x.out x.out hxo.2.2.1 hxo.2.2.1
      simp only [decide_true, Bool.and_self] at hEQ
      have hEP := eql_pt x.tx p.1 x.n p.2 hxo.1.1 HPK.out.1
      have hpd : (decide (x.tx = p.1) && decide (x.n = p.2)) = decide (x.pt = p) := by
        rw [Bool.eq_iff_iff]
        simp only [Bool.and_eq_true, decide_eq_true_eq]
        exact ⟨fun h => Prod.ext h.1 h.2, fun h => by rw [← h]; exact ⟨rfl, rfl⟩⟩
      rw [hpd, show ptC p.1 p.2 = pC p from rfl, HQ.out] at hEP
      have HEP : Hid (∀ w, (Op.equalIn 10000 47 (.agg (pC x.pt).toArray) (.agg Q.toArray)).run Try.prog w = .ok (decide (x.pt = p)) w) := hide hEP
      have hzc := HZ.out wr
      have HXM := hide hxm
      clear hrr hx hxo hB hr hEP hpd hB3 hxm
      go_upto_region 12 with (first | (refine wpList_load_mid rfl 59 (.tmp 29) rfl b2 (off2 + j * 66) rfl (cnC x) _ HR1.out Try.underlying59 rfl HN1.out ?_) | (refine wp_store_row rfl 59 (.tmp 9) (.tmp 30) rfl wr.heap.size 0 (cnC x) rfl rfl (HT.out wr) HN1.out H1.out ?_))
      have hW : ((wr.alloc (.cells coinZ 59)).setCells wr.heap.size 0 (cnC x)).rangeAt wr.heap.size 0 (cnC x) := World.rangeAt_setCells_same _ _ _ _ (HT.out wr)
      have hB2 : Below wr.heap.size wr ((wr.alloc (.cells coinZ 59)).setCells wr.heap.size 0 (cnC x)) := below_sets (Nat.le_refl _) _ _ _ (below_new wr _)
      generalize (wr.alloc (.cells coinZ 59)).setCells wr.heap.size 0 (cnC x) = W at *
      have HRP := hide (cn_range hW HXO.out).1
      have HRO : Hid (W.rangeAt wr.heap.size 33 (outC x.out)) := hide (by have h := (cn_range hW HXO.out).2; rw [Nat.zero_add] at h; exact h)
      have HB2 := hide (below_on HB.out hB2)
      have CF := hide (find_any W b _ _ (HS3.out.on HB2.out) x.pt HXO.out.1 x.out true (Or.inl ⟨rfl, x, HXM.out, rfl, rfl⟩))
      have HPW := hide (range_on HP3.out HB2.out)
      clear hW hB2 HR1 HN1 H1 HT hzc HB
      generalize wr.heap.size = gb at *
      generalize outC x.out = X at *
      generalize pC x.pt = P at *
      try simp only [Act.put]
      go_wp2_with (refine wpList_load_mid rfl 47 (.tmp 33) rfl gb 0 rfl P _ HRP.out Try.underlying47 rfl HIX.out ?_)
      refine CF.out.mono ?_
      rintro e W2 ⟨rfl, hb2⟩
      have HRP2 := hide (range_on HRP.out hb2)
      have HRO2 := hide (range_on HRO.out hb2)
      have HPW2 := hide (range_on HPW.out hb2)
      have HB3' := hide (below_on HB2.out hb2)
      clear hb2 CF HRP HRO HPW HB2
      go_upto_region 13 with ((with_reducible show wpList _ _ _ (_ :: _) _ _); refine wp_store_row rfl 50 (.tmp 10) (.tmp 36) rfl W2.heap.size 0 X rfl rfl (HTO.out W2) HLO.out HO1.out ?_)
      have HRX : Hid (((W2.alloc (.cells #[.int .u64 0, .int .u8 0, .int .u8 0, .int .u8 0, .int .u8 0, .int .u8 0, .int .u8 0, .int .u8 0, .int .u8 0, .int .u8 0, .int .u8 0, .int .u8 0, .int .u8 0, .int .u8 0, .int .u8 0, .int .u8 0, .int .u8 0, .int .u8 0, .int .u8 0, .int .u8 0, .int .u8 0, .int .u8 0, .int .u8 0, .int .u8 0, .int .u8 0, .int .u8 0, .int .u8 0, .int .u8 0, .int .u8 0, .int .u8 0, .int .u8 0, .int .u8 0, .int .u8 0] 50)).setCells W2.heap.size 0 X).rangeAt W2.heap.size 0 X) := hide (World.rangeAt_setCells_same _ _ _ _ (HTO.out W2))
      have hb3 : Below W2.heap.size W2 ((W2.alloc (.cells #[.int .u64 0, .int .u8 0, .int .u8 0, .int .u8 0, .int .u8 0, .int .u8 0, .int .u8 0, .int .u8 0, .int .u8 0, .int .u8 0, .int .u8 0, .int .u8 0, .int .u8 0, .int .u8 0, .int .u8 0, .int .u8 0, .int .u8 0, .int .u8 0, .int .u8 0, .int .u8 0, .int .u8 0, .int .u8 0, .int .u8 0, .int .u8 0, .int .u8 0, .int .u8 0, .int .u8 0, .int .u8 0, .int .u8 0, .int .u8 0, .int .u8 0, .int .u8 0, .int .u8 0] 50)).setCells W2.heap.size 0 X) := below_sets (Nat.le_refl _) _ _ _ (below_new W2 _)
      generalize (W2.alloc (.cells #[.int .u64 0, .int .u8 0, .int .u8 0, .int .u8 0, .int .u8 0, .int .u8 0, .int .u8 0, .int .u8 0, .int .u8 0, .int .u8 0, .int .u8 0, .int .u8 0, .int .u8 0, .int .u8 0, .int .u8 0, .int .u8 0, .int .u8 0, .int .u8 0, .int .u8 0, .int .u8 0, .int .u8 0, .int .u8 0, .int .u8 0, .int .u8 0, .int .u8 0, .int .u8 0, .int .u8 0, .int .u8 0, .int .u8 0, .int .u8 0, .int .u8 0, .int .u8 0, .int .u8 0] 50)).setCells W2.heap.size 0 X = W4 at *
      have HRP4 := hide (range_on HRP2.out hb3)
      have HRO4 := hide (range_on HRO2.out hb3)
      have HPW4 := hide (range_on HPW2.out hb3)
      have HB4 := hide (below_on HB3'.out hb3)
      clear hb3 HRP2 HRO2 HPW2 HB3' HTO HO1
      generalize W2.heap.size = q2 at *
      have hep := HEP.out
      have R : Hid (∀ r' : Bool, (r' = true ↔ r = true ∨ x.pt = p) → FindI w3 p L (.bool r') (.int .i64 ((j + 1 : Nat) : Int)) W4) := hide fun r' h => ⟨j + 1, by omega, rfl, HB4.out, r', rfl, by
        rw [h, HR.out, take_more (f := Cn.pt) HX.out, List.mem_append, List.mem_singleton]
        exact ⟨fun h => h.imp id Eq.symm, fun h => h.imp id Eq.symm⟩⟩
      cases r with
      | true =>
        have R2 := hide (R.out true (by simp))
        go_wp2_with (first
          | (refine cw_load (by rfl) 50 (.tmp 10) rfl q2 0 rfl X _ HRX.out Try.underlying50 rfl HLO.out ?_)
          | (refine cw_load (by rfl) 50 (.tmp 42) rfl gb 33 rfl X _ HRO4.out Try.underlying50 rfl HLO.out ?_))
        go_roundw
        case rel => first | exact R2.out | ((repeat apply Exists.intro); exact ⟨R2.out, rfl⟩)
        case measure => simp [intOf]; omega
      | false =>
        have R2 := hide (R.out (decide (x.pt = p)) (by simp))
        generalize decide (x.pt = p) = d at *
        go_wp2_with (first
          | (refine cw_load (by rfl) 50 (.tmp 10) rfl q2 0 rfl X _ HRX.out Try.underlying50 rfl HLO.out ?_)
          | (refine cw_load (by rfl) 50 (.tmp 42) rfl gb 33 rfl X _ HRO4.out Try.underlying50 rfl HLO.out ?_)
          | (refine cw_load (by rfl) 47 (.tmp 48) rfl gb 0 rfl P _ HRP4.out Try.underlying47 rfl HIX.out ?_)
          | (refine cw_load (by rfl) 47 (.tmp 3) rfl g 0 rfl Q _ HPW4.out Try.underlying47 rfl HIP.out ?_))
        go_roundw
        case rel => first | exact R2.out | ((repeat apply Exists.intro); exact ⟨R2.out, rfl⟩)
        case measure => simp [intOf]; omega
    · have hk2 : (L.length : Int) ≤ (j : Int) := by omega
      have HSR := hide (HS3.out.on hB)
      have HPR := hide (range_on HP3.out hB)
      have HBR : Hid (Below g w wr) := hide (by have h := HB3.out; rw [← HG.out] at h ⊢; exact below_on h hB)
      rw [List.take_of_length_le (by omega)] at hr
      have HRR := hide hr
      clear hB hr HB HR
      obtain ⟨o, r', hl⟩ := looks L p
      obtain rfl : r' = r := by
        rw [Bool.eq_iff_iff, hl.is, HRR.out]
      have CF := hide (find_any wr b _ _ HSR.out p HPK.out o r' hl)
      have hol := hl.lock HOK.out
      have HLO : Hid ((Try.prog.info? 50).map (·.size) = some (outC o).length) := hide (by rw [outC_length hol]; exact info_out)
      have HTO : Hid (∀ w : World, (w.alloc (.cells #[.int .u64 0, .int .u8 0, .int .u8 0, .int .u8 0, .int .u8 0, .int .u8 0, .int .u8 0, .int .u8 0, .int .u8 0, .int .u8 0, .int .u8 0, .int .u8 0, .int .u8 0, .int .u8 0, .int .u8 0, .int .u8 0, .int .u8 0, .int .u8 0, .int .u8 0, .int .u8 0, .int .u8 0, .int .u8 0, .int .u8 0, .int .u8 0, .int .u8 0, .int .u8 0, .int .u8 0, .int .u8 0, .int .u8 0, .int .u8 0, .int .u8 0, .int .u8 0, .int .u8 0] 50)).there w.heap.size 0 (outC o).length) := hide (fun w => by rw [outC_length hol]; exact o_there w)
      have HO1 : Hid (∀ u ∈ outC o, u.oneCell' = true) := hide (outC_one _)
      have HNO : Hid (r' = false → outC o = outC noOut) := hide (by
        rcases hl with ⟨h1, -⟩ | ⟨-, -, rfl⟩
        · intro h; rw [h1] at h; cases h
        · intro _; rfl)
      have hEQ := eql_out noOut noOut rfl rfl
      simp only [decide_true, Bool.and_self] at hEQ
      clear hl hol
      generalize outC o = X at *
      rw [HQ.out] at CF
      go_wp2_with (refine wpList_load_mid rfl 47 (.tmp 3) rfl g 0 rfl Q _ HPR.out Try.underlying47 rfl HIP.out ?_)
      refine CF.out.mono ?_
      rintro e W2 ⟨rfl, hb2⟩
      have HBX : Hid (Below g w W2) := hide (by have h := HBR.out; rw [← HG.out] at h ⊢; exact below_on h hb2)
      clear hb2 CF
      go_upto_region 18 with ((with_reducible show wpList _ _ _ (_ :: _) _ _); refine wp_store_row rfl 50 (.tmp 12) (.tmp 58) rfl W2.heap.size 0 X rfl rfl (HTO.out W2) HLO.out HO1.out ?_)
      have HRX : Hid (((W2.alloc (.cells #[.int .u64 0, .int .u8 0, .int .u8 0, .int .u8 0, .int .u8 0, .int .u8 0, .int .u8 0, .int .u8 0, .int .u8 0, .int .u8 0, .int .u8 0, .int .u8 0, .int .u8 0, .int .u8 0, .int .u8 0, .int .u8 0, .int .u8 0, .int .u8 0, .int .u8 0, .int .u8 0, .int .u8 0, .int .u8 0, .int .u8 0, .int .u8 0, .int .u8 0, .int .u8 0, .int .u8 0, .int .u8 0, .int .u8 0, .int .u8 0, .int .u8 0, .int .u8 0, .int .u8 0] 50)).setCells W2.heap.size 0 X).rangeAt W2.heap.size 0 X) := hide (World.rangeAt_setCells_same _ _ _ _ (HTO.out W2))
      have hb3 : Below W2.heap.size W2 ((W2.alloc (.cells #[.int .u64 0, .int .u8 0, .int .u8 0, .int .u8 0, .int .u8 0, .int .u8 0, .int .u8 0, .int .u8 0, .int .u8 0, .int .u8 0, .int .u8 0, .int .u8 0, .int .u8 0, .int .u8 0, .int .u8 0, .int .u8 0, .int .u8 0, .int .u8 0, .int .u8 0, .int .u8 0, .int .u8 0, .int .u8 0, .int .u8 0, .int .u8 0, .int .u8 0, .int .u8 0, .int .u8 0, .int .u8 0, .int .u8 0, .int .u8 0, .int .u8 0, .int .u8 0, .int .u8 0] 50)).setCells W2.heap.size 0 X) := below_sets (Nat.le_refl _) _ _ _ (below_new W2 _)
      generalize (W2.alloc (.cells #[.int .u64 0, .int .u8 0, .int .u8 0, .int .u8 0, .int .u8 0, .int .u8 0, .int .u8 0, .int .u8 0, .int .u8 0, .int .u8 0, .int .u8 0, .int .u8 0, .int .u8 0, .int .u8 0, .int .u8 0, .int .u8 0, .int .u8 0, .int .u8 0, .int .u8 0, .int .u8 0, .int .u8 0, .int .u8 0, .int .u8 0, .int .u8 0, .int .u8 0, .int .u8 0, .int .u8 0, .int .u8 0, .int .u8 0, .int .u8 0, .int .u8 0, .int .u8 0, .int .u8 0] 50)).setCells W2.heap.size 0 X = W4 at *
      have R : Hid (Below g w W4) := hide (by have h := HBX.out; rw [← HG.out] at h ⊢; exact below_on h hb3)
      clear hb3 HTO HO1
      generalize W2.heap.size = q2 at *
      cases r' with
      | true =>
        go_wp2
        go_ret
        rw [HG.out]
        exact ⟨rfl, R.out⟩
      | false =>
        obtain rfl := HNO.out rfl
        go_wp2_with (first
          | (refine cw_load (by rfl) 50 (.tmp 12) rfl q2 0 rfl (outC noOut) _ HRX.out Try.underlying50 rfl HLO.out ?_)
          | (refine cw_constG (by rfl) 50 _ rfl (v := .agg (outC noOut).toArray) (by kernel_rfl) ?_))
        go_ret
        rw [HG.out]
        exact ⟨rfl, R.out⟩
theorem coinFinds_any {w : World} (v : Value) (L : List Cn) (hok : ∀ c ∈ L, CnOk c) (hV : CnsAt w v L) (p : Pt) (hp : PtOk p) :
    Calls Try.prog 5 #[v, .agg (pC p).toArray] w fun e w' => e = .returned (.bool true) ∧ Below w.heap.size w w' := by
  by_cases h1 : L.length ≤ 300
  · rcases nodup_or L with hN | hN
    · exact finds_main w v L p hV hok hp h1 hN
    · exact finds_twice w v L p hV hok h1 hN
  · exact finds_long w v L p hV (by omega)
set_option maxRecDepth 100000 in
theorem coinFinds_lifted (os : Os) (started : os.Started) (H : Type) (enc : TypeId × Value → H) :
    ReturnsInHanded {} Try.checked os 5 .any (Rows.coinFindsSpec.pre6 enc Try.prog Try.f5 Rows.coinFindsRow.domain false) (Rows.coinFindsSpec.post enc Try.prog Try.f5 false true false false) := by
  refine returnsInHanded_of_change (C := Try.checked) own started (by kernel_rfl) Try.func5
    (ChangeSpec.witness6 (enc := enc) (C := Try.checked) false ⟨#[], #[.slice none 0 0, .agg #[.int .u8 0, .int .u8 0, .int .u8 0, .int .u8 0, .int .u8 0, .int .u8 0, .int .u8 0, .int .u8 0, .int .u8 0, .int .u8 0, .int .u8 0, .int .u8 0, .int .u8 0, .int .u8 0, .int .u8 0, .int .u8 0, .int .u8 0, .int .u8 0, .int .u8 0, .int .u8 0, .int .u8 0, .int .u8 0, .int .u8 0, .int .u8 0, .int .u8 0, .int .u8 0, .int .u8 0, .int .u8 0, .int .u8 0, .int .u8 0, .int .u8 0, .int .u8 0, .int .u32 0]], []⟩ 8 (by kernel_rfl) (by kernel_rfl) (by kernel_rfl) (by kernel_rfl)) ?_
  intro W base args ds gs before hval0 hW hcnd _
  have hval : ∀ (j : Nat) t v, Try.f5.params[j]? = some t → args[j]? = some v → Value.okWide Try.prog W .any base t v := hval0
  have hW' := hW
  obtain ⟨p, q, hA0, hV, rfl, hfz, hnd⟩ := hW
  have hA : DataW.TrodAll enc Try.prog W 0 (fun _ => true) true Try.f5.params.toList args.toList ds p := hA0
  rw [Try.params5] at hA hval
  obtain ⟨v0, vs0, d0, ds0, p0, q0, hargs, rfl, rfl, h0, r0⟩ := trodAll_cons hA
  obtain ⟨v1, vs1, d1, ds1, p1, q1, rfl, rfl, rfl, h1, r1⟩ := trodAll_cons r0
  obtain ⟨rfl, rfl, rfl⟩ := trodAll_nil r1
  obtain rfl : args = #[v0, v1] := by cases args; simp_all
  obtain ⟨rfl, rfl⟩ := trodVars_none hV
  have k0 := h0
  have lt0 : ∀ x ∈ p0, x.block < W.heap.size := by obtain ⟨m, hm⟩ := k0; exact DataW.trod_lt m _ _ _ hm
  obtain ⟨l0, s0, w0⟩ := cns_arg (hval 0 30 v0 rfl rfl) h0
  have k1 := h1
  have lt1 : ∀ x ∈ p1, x.block < W.heap.size := by obtain ⟨m, hm⟩ := k1; exact DataW.trod_lt m _ _ _ hm
  obtain ⟨l1, rfl, w1⟩ := pt_arg (hval 1 47 v1 rfl rfl) h1
  clear hA0 hval0
  refine (coinFinds_any (w := W) _ l0 w0 s0 l1 w1).mono fun e W' ⟨he, bel⟩ => ?_
  subst he
  exact ⟨_, rfl, _, _, _, [], _, [], hW', trodAll_mk1 (shut_bool Try.underlying4 _), (trodAll_cons_mk (Below.trod laidOut (by kernel_rfl) (of_decide_eq_true (by kernel_rfl)) k0 bel lt0) (trodAll_cons_mk (Below.trod laidOut (by kernel_rfl) (of_decide_eq_true (by kernel_rfl)) k1 bel lt1) trodAll_mk0)), rfl, bel.frame _, fun h => by cases h⟩

theorem coinFinds_holds : Rows.CoinFindsSaid :=
  OpenClaim.holds_of_wide 5 Try.f5 rfl rfl rfl rfl rfl rfl rfl ⟨rfl, rfl, rfl, rfl, rfl⟩ rfl rfl rfl rfl rfl (by kernel_rfl) Try.func5 (by kernel_rfl)
    (of_decide_eq_true (by kernel_rfl)) (by unfold Func.isWrapper; first | (rw [if_pos (by decide +kernel)]; kernel_rfl) | (rw [if_neg (by decide +kernel)]; exact ⟨rfl, rfl⟩))
    (fun os started H enc _ => coinFinds_lifted os started H enc)
#print axioms coinFinds_holds

end Go.Proofs.Ytkemdfikcmgaaaa
