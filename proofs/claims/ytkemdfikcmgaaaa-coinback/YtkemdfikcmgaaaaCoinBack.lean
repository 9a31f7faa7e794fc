/-
  For every two lists of coins the law CoinBack returns true: coins that are put into a set and taken out of it come out as they went in, and leave the set as it was; no condition.
-/
import Derived.Test.YtkemdfikcmgaaaaCoAlive
import Derived.Test.YtkemdfikcmgaaaaCoBackP
import Derived.Test.YtkemdfikcmgaaaaCoCame
import Derived.Test.YtkemdfikcmgaaaaRefCoAts
namespace Go.Proofs.Ytkemdfikcmgaaaa
open Go.ChangeShapes Go.WideShapes Go.ChangeAt Go.RowKit

set_option maxRecDepth 100000 in
set_option maxHeartbeats 600000 in
theorem back_long1 (w : World) (v v' : Value) (L M : List Cn) (hV : CnsAt w v L) (_hV' : CnsAt w v' M) (hlen : 300 < L.length) :
    Calls Try.prog 4 #[v, v'] w fun e w' => e = .returned (.bool true) ∧ Below w.heap.size w w' := by
  have CAL := hide (alive9_any w)
  obtain ⟨a, cap, rfl, hc1, hc2⟩ := hV.form
  have HML := hide (fun w' => many_yes L.length a cap w' hlen)
  clear hV hlen
  go_enter Try.func4, Try.ntmps4
  go_wp2_with fail
  refine CAL.out.mono ?_
  rintro e w1 ⟨rfl, hb1⟩
  have HB1 := hide hb1
  clear hb1 CAL
  go_wp2_with fail
  refine (HML.out w1).mono ?_
  rintro e w2 ⟨rfl, rfl⟩
  go_wp2
  go_ret
  exact ⟨rfl, HB1.out⟩
set_option maxRecDepth 100000 in
set_option maxHeartbeats 600000 in
theorem back_long2 (w : World) (v v' : Value) (L M : List Cn) (hV : CnsAt w v L) (hV' : CnsAt w v' M) (hlen : L.length ≤ 300) (hlen' : 300 < M.length) :
    Calls Try.prog 4 #[v, v'] w fun e w' => e = .returned (.bool true) ∧ Below w.heap.size w w' := by
  have CAL := hide (alive9_any w)
  obtain ⟨a, cap, rfl, hc1, hc2⟩ := hV.form
  obtain ⟨a', cap', rfl, hd1, hd2⟩ := hV'.form
  have HML := hide (fun w' => many_no L.length a cap w' hlen)
  have HMM := hide (fun w' => many_yes M.length a' cap' w' hlen')
  clear hV hV' hlen hlen'
  go_enter Try.func4, Try.ntmps4
  go_wp2_with fail
  refine CAL.out.mono ?_
  rintro e w1 ⟨rfl, hb1⟩
  have HB1 := hide hb1
  clear hb1 CAL
  go_wp2_with fail
  refine (HML.out w1).mono ?_
  rintro e w2 ⟨rfl, rfl⟩
  go_wp2_with fail
  refine (HMM.out w2).mono ?_
  rintro e w3 ⟨rfl, rfl⟩
  go_wp2
  go_ret
  exact ⟨rfl, HB1.out⟩
set_option maxRecDepth 100000 in
set_option maxHeartbeats 600000 in
theorem back_twice (w : World) (v v' : Value) (L M : List Cn) (hV : CnsAt w v L) (hV' : CnsAt w v' M) (hok : ∀ c ∈ L, CnOk c) (hlen : L.length ≤ 300) (hlen' : M.length ≤ 300) (hN : ¬ (L.map Cn.pt).Nodup) :
    Calls Try.prog 4 #[v, v'] w fun e w' => e = .returned (.bool true) ∧ Below w.heap.size w w' := by
  have CAL := hide (alive9_any w)
  have HV := hide hV
  have HOK := hide hok
  have HN := hide hN
  have HLN : Hid (L.length ≤ 1000) := hide (by omega)
  obtain ⟨a, cap, rfl, hc1, hc2⟩ := hV.form
  obtain ⟨a', cap', rfl, hd1, hd2⟩ := hV'.form
  have HML := hide (fun w' => many_no L.length a cap w' hlen)
  have HMM := hide (fun w' => many_no M.length a' cap' w' hlen')
  clear hV hV' hlen hlen' hok hN
  go_enter Try.func4, Try.ntmps4
  go_wp2_with fail
  refine CAL.out.mono ?_
  rintro e w1 ⟨rfl, hb1⟩
  have HB1 := hide hb1
  have CN := hide (new_twice L _ w1 (HV.out.on hb1) HOK.out HLN.out HN.out)
  clear hb1 CAL
  go_wp2_with fail
  refine (HML.out w1).mono ?_
  rintro e w2 ⟨rfl, hw2⟩
  rw [hw2]
  clear hw2
  go_wp2_with fail
  refine (HMM.out w1).mono ?_
  rintro e w3 ⟨rfl, hw3⟩
  rw [hw3]
  clear hw3
  go_wp2_with fail
  refine CN.out.mono ?_
  rintro e w4 ⟨rfl, hb4⟩
  have HB4 := hide (below_on HB1.out hb4)
  clear hb4
  go_wp2
  go_ret
  exact ⟨rfl, HB4.out⟩
set_option maxRecDepth 100000 in
set_option maxHeartbeats 600000 in
theorem back_refused (w : World) (v v' : Value) (L M : List Cn) (hV : CnsAt w v L) (hV' : CnsAt w v' M) (hok : ∀ c ∈ L, CnOk c) (hok' : ∀ c ∈ M, CnOk c) (hlen : L.length ≤ 300) (hlen' : M.length ≤ 300) (hN : (L.map Cn.pt).Nodup)
    (hno : ¬ (M.map Cn.pt).Nodup ∨ ∃ p ∈ M.map Cn.pt, p ∈ L.map Cn.pt) :
    Calls Try.prog 4 #[v, v'] w fun e w' => e = .returned (.bool true) ∧ Below w.heap.size w w' := by
  have CAL := hide (alive9_any w)
  have HV := hide hV
  have HV' := hide hV'
  have HOK := hide hok
  have HOK' := hide hok'
  have HN := hide hN
  have HLN : Hid (L.length ≤ 1000) := hide (by omega)
  have HMN : Hid (M.length ≤ 1000) := hide (by omega)
  have HNO := hide hno
  have hle : (L.length : Int) ≤ 300 := by omega
  obtain ⟨a, cap, rfl, hc1, hc2⟩ := hV.form
  obtain ⟨a', cap', rfl, hd1, hd2⟩ := hV'.form
  have HML := hide (fun w' => many_no L.length a cap w' hlen)
  have HMM := hide (fun w' => many_no M.length a' cap' w' hlen')
  clear hV hV' hlen hlen' hok hok' hN hno
  go_enter Try.func4, Try.ntmps4
  go_wp2_with fail
  refine CAL.out.mono ?_
  rintro e w1 ⟨rfl, hb1⟩
  have HB1 := hide hb1
  have CN := hide (new_ok L _ w1 (HV.out.on hb1) HOK.out HLN.out HN.out)
  clear hb1 CAL
  go_wp2_with fail
  refine (HML.out w1).mono ?_
  rintro e w2 ⟨rfl, hw2⟩
  rw [hw2]
  clear hw2
  go_wp2_with fail
  refine (HMM.out w1).mono ?_
  rintro e w3 ⟨rfl, hw3⟩
  rw [hw3]
  clear hw3
  go_wp2_with fail
  refine CN.out.mono ?_
  rintro e w4 ⟨b, k, rfl, hset, -, -, hb4⟩
  have HS4 := hide hset
  have HB4 := hide (below_on HB1.out hb4)
  obtain ⟨E, hE, hput⟩ : ∃ E : Int, E ≠ 0 ∧ Calls Try.prog 12 #[.pointer (some ⟨b, 0, none⟩), .slice a' M.length cap'] w4 fun e w' => e = .returned (.int .i64 E) ∧ Below w4.heap.size w4 w' := by
    have hv4 := HV'.out.on HB4.out
    by_cases h : (M.map Cn.pt).Nodup
    · exact ⟨10, by omega, put_there w4 b _ _ hset M _ hv4 HOK'.out HMN.out h (HNO.out.resolve_left (fun h' => h' h))⟩
    · exact ⟨12, by omega, put_twice w4 b _ _ hset M _ hv4 HOK'.out HMN.out h⟩
  have HPUT := hide hput
  clear hput hset hb4
  go_wp2_with fail
  refine HPUT.out.mono ?_
  rintro e w5 ⟨rfl, hb5⟩
  have HB5 := hide (below_on HB4.out hb5)
  have CL := hide (len_any w5 b (some k) L (HS4.out.on hb5))
  clear hb5
  go_wp2_with fail
  refine CL.out.mono ?_
  rintro e w6 ⟨rfl, hw6⟩
  rw [hw6]
  clear hw6
  go_wp2
  go_ret
  exact ⟨rfl, HB5.out⟩

/-- So far what came out is what went in. -/
def BackI (w : World) (M : List Cn) (i : Value) (wr : World) : Prop := ∃ j : Nat, j ≤ M.length ∧ i = .int .i64 j ∧ Below w.heap.size w wr
set_option maxRecDepth 100000 in
set_option maxHeartbeats 1000000 in
theorem back_main (w : World) (v v' : Value) (L M : List Cn) (hV : CnsAt w v L) (hV' : CnsAt w v' M) (hok : ∀ c ∈ L, CnOk c) (hok' : ∀ c ∈ M, CnOk c) (hlen : L.length ≤ 300) (hlen' : M.length ≤ 300) (hN : (L.map Cn.pt).Nodup)
    (hN' : (M.map Cn.pt).Nodup) (hin : ∀ p ∈ M.map Cn.pt, p ∉ L.map Cn.pt) :
    Calls Try.prog 4 #[v, v'] w fun e w' => e = .returned (.bool true) ∧ Below w.heap.size w w' := by
  have CAL := hide (alive9_any w)
  have HV := hide hV
  have HV' := hide hV'
  have HOK := hide hok
  have HOK' := hide hok'
  have HN := hide hN
  have HN' := hide hN'
  have HIN := hide hin
  have HLN : Hid (L.length ≤ 300) := hide hlen
  have HMN : Hid (M.length ≤ 300) := hide hlen'
  have HZ := hide zero_cn
  have hle : (L.length : Int) ≤ 300 := by omega
  have hme : (M.length : Int) ≤ 300 := by omega
  obtain ⟨a, cap, rfl, hc1, hc2⟩ := hV.form
  obtain ⟨a', cap', rfl, hd1, hd2⟩ := hV'.form
  have HML := hide (fun w' => many_no L.length a cap w' hlen)
  have HMM := hide (fun w' => many_no M.length a' cap' w' hlen')
  clear hV hV' hlen hlen' hok hok' hN hN' hin
  go_enter Try.func4, Try.ntmps4
  go_wp2_with fail
  refine CAL.out.mono ?_
  rintro e w1 ⟨rfl, hb1⟩
  have HB1 := hide hb1
  have CN := hide (new_ok L _ w1 (HV.out.on hb1) HOK.out (by have := HLN.out; omega) HN.out)
  clear hb1 CAL
  go_wp2_with fail
  refine (HML.out w1).mono ?_
  rintro e w2 ⟨rfl, hw2⟩
  rw [hw2]
  clear hw2
  go_wp2_with fail
  refine (HMM.out w1).mono ?_
  rintro e w3 ⟨rfl, hw3⟩
  rw [hw3]
  clear hw3
  go_wp2_with fail
  refine CN.out.mono ?_
  rintro e w4 ⟨b, k, rfl, hset, hbb, hkb, hb4⟩
  have HB4 := hide (below_on HB1.out hb4)
  have HBB : Hid (w.heap.size ≤ b ∧ w.heap.size ≤ k) := hide ⟨Nat.le_trans HB1.out.size hbb, Nat.le_trans HB1.out.size hkb⟩
  have CP := hide (put_ok w4 b (some k) L hset M _ (HV'.out.old HB4.out fun g hg => ⟨by have := HBB.out.1; omega, by have := HBB.out.2; simp; omega⟩) HOK'.out (by have := HMN.out; omega) (by have := HLN.out; omega) HN'.out HIN.out)
  have HLT : Hid (b < w4.heap.size ∧ k < w4.heap.size) := hide ⟨hset.lt, (hset.2.2.2 k rfl).2.lt⟩
  clear hset hbb hkb hb4 HB1 CN
  go_wp2_with fail
  refine CP.out.mono ?_
  rintro e w5 ⟨rfl, k', hset, hk, hbes⟩
  obtain rfl : k' = k := by
    rcases hk with e | ⟨e, -⟩
    · exact (Option.some.inj e).symm
    · cases e
  have HS5 := hide hset
  have HB5 := hide (besides_below HB4.out hbes HBB.out.1 HBB.out.2 (Nat.le_refl _))
  have HLT5 : Hid (b < w5.heap.size ∧ k' < w5.heap.size) := hide ⟨by have := HLT.out.1; have := hbes.size; omega, by have := HLT.out.2; have := hbes.size; omega⟩
  have CL := hide (len_any w5 b _ _ hset)
  rw [List.length_append] at CL
  have CA := hide (rats_any M _ w5 (HV'.out.on HB5.out) HOK'.out (by have := HMN.out; omega))
  clear hset hk hbes CP HLT
  have hlm : ((L.length + M.length : Nat) : Int) = (L.length : Int) + (M.length : Int) := by omega
  rw [hlm] at CL
  clear hlm
  go_wp2_with fail
  refine CL.out.mono ?_
  rintro e w6 ⟨rfl, hw6⟩
  rw [hw6]
  clear hw6 CL
  go_wp2_with fail
  refine CA.out.mono ?_
  rintro e w6 ⟨pv, rfl, hb6, hrow⟩
  have HB6 := hide (below_on HB5.out hb6)
  have hs6 := HS5.out.on hb6
  have hpk : Keeps (off b ((some k').getD b)) w6 fun w => PsAt w pv (M.map Cn.pt) := by
    have hk := own_keeps (P := off b ((some k').getD b)) hrow fun g h1 h2 => ⟨by have := HLT5.out.1; omega, by have := HLT5.out.2; simp; omega⟩
    unfold PsAt
    rw [List.map_map]
    exact hk
  have CT := hide (take_ok w6 b (some k') _ hs6 M pv hpk (by have := HMN.out; omega) HN'.out (fun c hc => List.mem_append.2 (Or.inr hc)))
  have HSZ6 : Hid (w5.heap.size ≤ w6.heap.size) := hide hb6.size
  clear hb6 hrow hs6 hpk CA
  go_wp2_with fail
  refine CT.out.mono ?_
  rintro e w7 ⟨xv, rfl, hset, hbes, hrow⟩
  rw [drop_app HIN.out] at hset
  have HS7 := hide hset
  have HB7 := hide (besides_below HB6.out hbes HBB.out.1 HBB.out.2 (Nat.le_refl _))
  have HXR : Hid (RowAt w7 33 xv (outsC M)) := hide hrow.row
  obtain ⟨xa, xc, rfl, hx1, hx2⟩ := hrow.row.form
  rw [outsC_length] at hx1 HXR ⊢
  clear hset hbes hrow CT
  have HS0 : Hid (BackI w7 M (.int .i64 0) w7) := hide ⟨0, Nat.zero_le _, rfl, Below.refl _ _⟩
  go_wp2_with fail
  go_loopw [69] (fun i wr => BackI w7 M i wr) (fun i _ => M.length - (intOf i).toNat)
  case atStart => exact HS0.out
  case round =>
    clear HS0
    obtain ⟨j, hj, rfl, hB⟩ := hrel
    have HB := hide hB
    by_cases hlt : j < M.length
    · obtain ⟨x, hx⟩ : ∃ x, M[j]? = some x := ⟨_, List.getElem?_eq_getElem hlt⟩
      obtain ⟨b2, off2, rfl, hr⟩ := ((HV'.out.on HB7.out).on hB).get hx
      obtain ⟨b3, off3, rfl, hr3⟩ := (RowAt.on HXR.out hB).get (outsC_get hx)
      have hxo := HOK'.out x (List.mem_of_getElem? hx)
      have HXO := hide hxo
      have HR1 := hide hr
      have HR3 := hide hr3
      have HN1 : Hid ((Try.prog.info? 59).map (·.size) = some (cnC x).length) := hide (by rw [cnC_length hxo]; exact info_cn)
      have H1 : Hid (∀ u ∈ cnC x, u.oneCell' = true) := hide (cnC_one x)
      have HT : Hid (∀ w : World, (w.alloc (.cells coinZ 59)).there w.heap.size 0 (cnC x).length) := hide (fun w => by rw [cnC_length hxo]; exact cn_there w)
      have HLO : Hid ((Try.prog.info? 50).map (·.size) = some (outC x.out).length) := hide (by rw [outC_length hxo.2.2.1]; exact info_out)
      have hk1 : (j : Int) < (M.length : Int) := by omega
      have hEQ := eql_out x.out x.out hxo.2.2.1 hxo.2.2.1
      simp only [decide_true, Bool.and_self] at hEQ
      have hzc := HZ.out wr
      clear hr hr3 hx hxo hB
      go_upto_region 18 with (first | (refine wpList_load_mid rfl 59 (.tmp 72) rfl b2 (off2 + j * 66) rfl (cnC x) _ HR1.out Try.underlying59 rfl HN1.out ?_) | (refine wp_store_row rfl 59 (.tmp 10) (.tmp 73) rfl wr.heap.size 0 (cnC x) rfl rfl (HT.out wr) HN1.out H1.out ?_))
      have hW : ((wr.alloc (.cells coinZ 59)).setCells wr.heap.size 0 (cnC x)).rangeAt wr.heap.size 0 (cnC x) := World.rangeAt_setCells_same _ _ _ _ (HT.out wr)
      have hB2 : Below wr.heap.size wr ((wr.alloc (.cells coinZ 59)).setCells wr.heap.size 0 (cnC x)) := below_sets (Nat.le_refl _) _ _ _ (below_new wr _)
      generalize (wr.alloc (.cells coinZ 59)).setCells wr.heap.size 0 (cnC x) = W at *
      have HO1 : Hid (W.rangeAt wr.heap.size 33 (outC x.out)) := hide (by have h := (cn_range hW HXO.out).2; rw [Nat.zero_add] at h; exact h)
      have HO3 := hide (range_on HR3.out hB2)
      have HB2 := hide (below_on HB.out hB2)
      clear hW hB2 HR1 HR3 HN1 H1 HT hzc HB
      generalize wr.heap.size = gb at *
      generalize outC x.out = X at *
      refine wp_region_held_drew (S := fun wx => Below W.heap.size W wx) (by kernel_rfl) (Below.refl _ _).drew (fun hHeld => ?_)
      refine wpAnyH_take (i := 0) (oi := { dst := some 74, op := Op.move (Operand.tmp 7), type := 38, pos := "law.go:121", after := #[], guard := none }) (v := .slice (some ⟨b3, off3, none⟩) M.length xc) rfl (by kernel_rfl) (by kernel_rfl) (by kernel_rfl) (fun _ _ _ h => h) (Or.inl ⟨by rfl, fun w _ => by go_simp⟩) (by assumption) ?_
      simp only [Act.put, List.setIfInBounds_toArray, List.set_cons_zero, List.set_cons_succ]
      refine wpAnyH_take (i := 1) (oi := { dst := some 75, op := Op.move (Operand.tmp 9), type := 3, pos := "law.go:121", after := #[], guard := none }) (v := .int .i64 j) rfl (by kernel_rfl) (by kernel_rfl) (by kernel_rfl) (fun _ _ _ h => h) (Or.inl ⟨by rfl, fun w _ => by go_simp⟩) (by assumption) ?_
      simp only [Act.put, List.setIfInBounds_toArray, List.set_cons_zero, List.set_cons_succ]
      refine wpAnyH_take (i := 2) (oi := { dst := some 76, op := Op.indexAddr 38 (Operand.tmp 74) (Operand.tmp 75), type := 0, pos := "law.go:121", after := #[{ on := 0, ground := Ground.data }, { on := 1, ground := Ground.data }], guard := none }) (v := .pointer (some ⟨b3, off3 + j * 33, none⟩)) rfl (by kernel_rfl) (by kernel_rfl) (by kernel_rfl) (fun _ _ _ h => h) (Or.inl ⟨by rfl, fun w _ => by go_simp⟩) (by assumption) ?_
      simp only [Act.put, List.setIfInBounds_toArray, List.set_cons_zero, List.set_cons_succ]
      refine wpAnyH_take (i := 3) (oi := { dst := some 77, op := Op.load 50 (Operand.tmp 76), type := 50, pos := "law.go:121", after := #[{ on := 2, ground := Ground.data }], guard := none }) (v := .agg (X).toArray) rfl (by kernel_rfl) (by kernel_rfl) (by kernel_rfl) (fun _ _ _ h => h) (yieldsIf_load_mid (by rfl) 50 (.tmp 76) rfl b3 (off3 + j * 33) rfl (X) _ (fun w h => range_on HO3.out h) Try.underlying50 rfl HLO.out) (by assumption) ?_
      simp only [Act.put, List.setIfInBounds_toArray, List.set_cons_zero, List.set_cons_succ]
      refine wpAnyH_take (i := 4) (oi := { dst := some 78, op := Op.fieldAddr 59 (Operand.tmp 10) 1, type := 0, pos := "law.go:121", after := #[], guard := none }) (v := .pointer (some ⟨gb, 33, none⟩)) rfl (by kernel_rfl) (by kernel_rfl) (by kernel_rfl) (fun _ _ _ h => h) (Or.inl ⟨by rfl, fun w _ => by go_simp⟩) (by assumption) ?_
      simp only [Act.put, List.setIfInBounds_toArray, List.set_cons_zero, List.set_cons_succ]
      refine wpAnyH_take (i := 5) (oi := { dst := some 79, op := Op.load 50 (Operand.tmp 78), type := 50, pos := "law.go:121", after := #[{ on := 4, ground := Ground.data }], guard := none }) (v := .agg (X).toArray) rfl (by kernel_rfl) (by kernel_rfl) (by kernel_rfl) (fun _ _ _ h => h) (yieldsIf_load_mid (by rfl) 50 (.tmp 78) rfl gb 33 rfl (X) _ (fun w h => range_on HO1.out h) Try.underlying50 rfl HLO.out) (by assumption) ?_
      simp only [Act.put, List.setIfInBounds_toArray, List.set_cons_zero, List.set_cons_succ]
      refine wpAnyH_take (i := 6) (oi := { dst := some 80, op := Op.binOp BinOp.neq 50 (Operand.tmp 77) (Operand.tmp 79) 50, type := 4, pos := "law.go:121", after := #[{ on := 3, ground := Ground.data }, { on := 5, ground := Ground.data }], guard := none }) (v := .bool false) rfl (by kernel_rfl) (by kernel_rfl) (by kernel_rfl) (fun _ _ _ h => h) (Or.inl ⟨by rfl, fun w _ => by go_simp⟩) (by assumption) ?_
      simp only [Act.put, List.setIfInBounds_toArray, List.set_cons_zero, List.set_cons_succ]
      refine wpAnyH_done (by kernel_rfl) ?_ _
      have R : Hid (BackI w7 M (.int .i64 ((j + 1 : Nat) : Int)) W.drew) := hide ⟨j + 1, by omega, rfl, below_on HB2.out hHeld⟩
      clear hHeld HO1 HO3 HB2 hEQ HLO
      go_wp2
      go_roundw
      case rel => first | exact R.out | ((repeat apply Exists.intro); exact ⟨R.out, rfl⟩)
      case measure => simp [intOf]; omega
    · have hk2 : (M.length : Int) ≤ (j : Int) := by omega
      have HS8 := hide (HS7.out.on hB)
      have HB8 := hide (below_on HB7.out hB)
      have CN2 := hide (new_ok L _ wr (HV.out.on HB8.out) HOK.out (by have := HLN.out; omega) HN.out)
      clear hB HB HS7
      go_wp2_with fail
      refine CN2.out.mono ?_
      rintro e w9 ⟨b', kk, rfl, hset, -, -, hb9⟩
      have HS9 := hide (HS8.out.on hb9)
      have HT9 := hide hset
      have HB9 := hide (below_on HB8.out hb9)
      clear hset hb9 HS8 CN2
      have CA1 := hide (all_any w9 b _ _ HS9.out (by have := HLN.out; omega))
      go_wp2_with fail
      refine CA1.out.mono ?_
      rintro e w10 ⟨v1, M1, rfl, hp1, hs1, hr1, hb10⟩
      have HV1 : Hid (CnsAt w10 v1 M1) := hide hr1.row
      have HP1 := hide (show M1.Perm L ∧ SortC M1 from ⟨hp1, hs1⟩)
      have HB10 := hide (below_on HB9.out hb10)
      have CA2 := hide (all_any w10 b' _ _ (HT9.out.on hb10) (by have := HLN.out; omega))
      clear hp1 hs1 hr1 hb10 CA1 HS9 HT9
      go_wp2_with fail
      refine CA2.out.mono ?_
      rintro e w11 ⟨v2, M2, rfl, hp2, hs2, hr2, hb11⟩
      obtain rfl : M2 = M1 := sort_unique hs2 HP1.out.2 (hp2.trans HP1.out.1.symm)
      have HB11 := hide (below_on HB10.out hb11)
      have CS := hide (rsamecn_eq M2 v1 v2 w11 (HV1.out.on hb11) hr2.row (fun c hc => HOK.out c (hp2.mem_iff.1 hc)))
      clear hp2 hs2 hr2 hb11 CA2
      go_wp2_with fail
      refine CS.out.mono ?_
      rintro e w12 ⟨rfl, hb12⟩
      have R := hide (below_on HB11.out hb12)
      clear hb12
      go_wp2
      go_ret
      exact ⟨rfl, R.out⟩

theorem coinBack_any {w : World} (v : Value) (L : List Cn) (hok : ∀ c ∈ L, CnOk c) (hV : CnsAt w v L) (v' : Value) (M : List Cn) (hok' : ∀ c ∈ M, CnOk c) (hV' : CnsAt w v' M) :
    Calls Try.prog 4 #[v, v'] w fun e w' => e = .returned (.bool true) ∧ Below w.heap.size w w' := by
  by_cases h1 : L.length ≤ 300
  · by_cases h2 : M.length ≤ 300
    · rcases nodup_or L with hN | hN
      · rcases nodup_or M with hN' | hN'
        · rcases in_or L M with hin | hin
          · exact back_main w v v' L M hV hV' hok hok' h1 h2 hN hN' hin
          · exact back_refused w v v' L M hV hV' hok hok' h1 h2 hN (Or.inr hin)
        · exact back_refused w v v' L M hV hV' hok hok' h1 h2 hN (Or.inl hN')
      · exact back_twice w v v' L M hV hV' hok h1 h2 hN
    · exact back_long2 w v v' L M hV hV' h1 (by omega)
  · exact back_long1 w v v' L M hV hV' (by omega)
set_option maxRecDepth 100000 in
theorem coinBack_lifted (os : Os) (started : os.Started) (H : Type) (enc : TypeId × Value → H) :
    ReturnsInHanded {} Try.checked os 4 .any (Rows.coinBackSpec.pre6 enc Try.prog Try.f4 Rows.coinBackRow.domain false) (Rows.coinBackSpec.post enc Try.prog Try.f4 false true false false) := by
  refine returnsInHanded_of_change (C := Try.checked) own started (by kernel_rfl) Try.func4
    (ChangeSpec.witness6 (enc := enc) (C := Try.checked) false ⟨#[], #[.slice none 0 0, .slice none 0 0], []⟩ 8 (by kernel_rfl) (by kernel_rfl) (by kernel_rfl) (by kernel_rfl)) ?_
  intro W base args ds gs before hval0 hW hcnd _
  have hval : ∀ (j : Nat) t v, Try.f4.params[j]? = some t → args[j]? = some v → Value.okWide Try.prog W .any base t v := hval0
  have hW' := hW
  obtain ⟨p, q, hA0, hV, rfl, hfz, hnd⟩ := hW
  have hA : DataW.TrodAll enc Try.prog W 0 (fun _ => true) true Try.f4.params.toList args.toList ds p := hA0
  rw [Try.params4] at hA hval
  obtain ⟨v0, vs0, d0, ds0, p0, q0, hargs, rfl, rfl, h0, r0⟩ := trodAll_cons hA
  obtain ⟨v1, vs1, d1, ds1, p1, q1, rfl, rfl, rfl, h1, r1⟩ := trodAll_cons r0
  obtain ⟨rfl, rfl, rfl⟩ := trodAll_nil r1
  obtain rfl : args = #[v0, v1] := by cases args; simp_all
  obtain ⟨rfl, rfl⟩ := trodVars_none hV
  have k0 := h0
  have lt0 : ∀ x ∈ p0, x.block < W.heap.size := by obtain ⟨m, hm⟩ := k0; exact DataW.trod_lt m _ _ _ hm
  obtain ⟨l0, s0, w0⟩ := cns_arg (hval 0 30 v0 rfl rfl) h0
  have k1 := h1
  have lt1 : ∀ x ∈ p1, x.block < W.heap.size := by obtain ⟨m, hm⟩ := k1; exact DataW.trod_lt m _ _ _ hm
  obtain ⟨l1, s1, w1⟩ := cns_arg (hval 1 30 v1 rfl rfl) h1
  clear hA0 hval0
  refine (coinBack_any (w := W) _ l0 w0 s0 _ l1 w1 s1).mono fun e W' ⟨he, bel⟩ => ?_
  subst he
  exact ⟨_, rfl, _, _, _, [], _, [], hW', trodAll_mk1 (shut_bool Try.underlying4 _), (trodAll_cons_mk (Below.trod laidOut (by kernel_rfl) (of_decide_eq_true (by kernel_rfl)) k0 bel lt0) (trodAll_cons_mk (Below.trod laidOut (by kernel_rfl) (of_decide_eq_true (by kernel_rfl)) k1 bel lt1) trodAll_mk0)), rfl, bel.frame _, fun h => by cases h⟩

theorem coinBack_holds : Rows.CoinBackSaid :=
  OpenClaim.holds_of_wide 4 Try.f4 rfl rfl rfl rfl rfl rfl rfl ⟨rfl, rfl, rfl, rfl, rfl⟩ rfl rfl rfl rfl rfl (by kernel_rfl) Try.func4 (by kernel_rfl)
    (of_decide_eq_true (by kernel_rfl)) (by unfold Func.isWrapper; first | (rw [if_pos (by decide +kernel)]; kernel_rfl) | (rw [if_neg (by decide +kernel)]; exact ⟨rfl, rfl⟩))
    (fun os started H enc _ => coinBack_lifted os started H enc)
#print axioms coinBack_holds

end Go.Proofs.Ytkemdfikcmgaaaa
