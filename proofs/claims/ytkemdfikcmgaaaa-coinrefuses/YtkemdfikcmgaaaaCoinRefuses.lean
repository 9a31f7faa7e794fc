/-
  For every list of coins, every coin and every index the law CoinRefuses returns true: what is refused changes nothing, and says why; no condition.
-/
import Derived.Test.YtkemdfikcmgaaaaCoAlive
import Derived.Test.YtkemdfikcmgaaaaCoTwo
import Derived.Test.YtkemdfikcmgaaaaCoCame
import Derived.Test.YtkemdfikcmgaaaaCoRefP
import Derived.Test.YtkemdfikcmgaaaaRefCoAts
namespace Go.Proofs.Ytkemdfikcmgaaaa
open Go.ChangeShapes Go.WideShapes Go.ChangeAt Go.RowKit

set_option maxRecDepth 100000 in
set_option maxHeartbeats 600000 in
theorem refuses_long (w : World) (v : Value) (L : List Cn) (c : Cn) (n : Int) (hV : CnsAt w v L) (hlen : 300 < L.length) :
    Calls Try.prog 7 #[v, .agg (cnC c).toArray, .int .u8 n] w fun e w' => e = .returned (.bool true) ∧ Below w.heap.size w w' := by
  have hb0 := below_new w (.cells (cnC c).toArray 59)
  have CAL := hide (alive9_any (w.alloc (.cells (cnC c).toArray 59)))
  have HB0 := hide hb0
  obtain ⟨a, cap, rfl, hc1, hc2⟩ := hV.form
  have HML := hide (fun w' => many_yes L.length a cap w' hlen)
  clear hV hlen hb0
  go_enter Try.func7, Try.ntmps7
  go_upto_region 1 with fail
  generalize w.alloc (.cells (cnC c).toArray 59) = W0 at *
  go_wp2_with fail
  refine CAL.out.mono ?_
  rintro e w1 ⟨rfl, hb1⟩
  have HB1 := hide (below_on HB0.out hb1)
  clear hb1 CAL
  go_wp2_with fail
  refine (HML.out w1).mono ?_
  rintro e w2 ⟨rfl, rfl⟩
  go_wp2
  go_ret
  exact ⟨rfl, HB1.out⟩
set_option maxRecDepth 100000 in
set_option maxHeartbeats 600000 in
theorem refuses_empty (w : World) (v : Value) (c : Cn) (n : Int) (hV : CnsAt w v []) :
    Calls Try.prog 7 #[v, .agg (cnC c).toArray, .int .u8 n] w fun e w' => e = .returned (.bool true) ∧ Below w.heap.size w w' := by
  have hb0 := below_new w (.cells (cnC c).toArray 59)
  have CAL := hide (alive9_any (w.alloc (.cells (cnC c).toArray 59)))
  have HB0 := hide hb0
  obtain ⟨a, cap, rfl, hc1, hc2⟩ := hV.form
  have HML := hide (fun w' => many_no ([] : List Cn).length a cap w' (by simp))
  clear hV hb0
  simp only [List.length_nil] at HML ⊢
  go_enter Try.func7, Try.ntmps7
  go_upto_region 1 with fail
  generalize w.alloc (.cells (cnC c).toArray 59) = W0 at *
  go_wp2_with fail
  refine CAL.out.mono ?_
  rintro e w1 ⟨rfl, hb1⟩
  have HB1 := hide (below_on HB0.out hb1)
  clear hb1 CAL
  go_wp2_with fail
  refine (HML.out w1).mono ?_
  rintro e w2 ⟨rfl, hw2⟩
  rw [hw2]
  clear hw2
  go_wp2
  go_ret
  exact ⟨rfl, HB1.out⟩
set_option maxRecDepth 100000 in
set_option maxHeartbeats 600000 in
theorem refuses_twice (w : World) (v : Value) (L : List Cn) (c : Cn) (n : Int) (hV : CnsAt w v L) (hok : ∀ c ∈ L, CnOk c) (hlen : L.length ≤ 300) (hpos : 0 < L.length) (hN : ¬ (L.map Cn.pt).Nodup) :
    Calls Try.prog 7 #[v, .agg (cnC c).toArray, .int .u8 n] w fun e w' => e = .returned (.bool true) ∧ Below w.heap.size w w' := by
  have hb0 := below_new w (.cells (cnC c).toArray 59)
  have CAL := hide (alive9_any (w.alloc (.cells (cnC c).toArray 59)))
  have HB0 := hide hb0
  have HV := hide hV
  have HOK := hide hok
  have HN := hide hN
  have HLN : Hid (L.length ≤ 1000) := hide (by omega)
  have hne : ¬ (L.length : Int) = 0 := by omega
  obtain ⟨a, cap, rfl, hc1, hc2⟩ := hV.form
  have HML := hide (fun w' => many_no L.length a cap w' hlen)
  clear hV hlen hb0 hok hN
  go_enter Try.func7, Try.ntmps7
  go_upto_region 1 with fail
  generalize w.alloc (.cells (cnC c).toArray 59) = W0 at *
  go_wp2_with fail
  refine CAL.out.mono ?_
  rintro e w1 ⟨rfl, hb1⟩
  have HB1 := hide (below_on HB0.out hb1)
  have CN := hide (new_twice L _ w1 (HV.out.on HB1.out) HOK.out HLN.out HN.out)
  clear hb1 CAL
  go_wp2_with fail
  refine (HML.out w1).mono ?_
  rintro e w2 ⟨rfl, hw2⟩
  rw [hw2]
  clear hw2
  go_wp2_with fail
  refine CN.out.mono ?_
  rintro e w3 ⟨rfl, hb3⟩
  have HB3 := hide (below_on HB1.out hb3)
  clear hb3
  go_wp2
  go_ret
  exact ⟨rfl, HB3.out⟩
set_option maxRecDepth 100000 in
set_option maxHeartbeats 1000000 in
theorem refuses_in (w : World) (v : Value) (L : List Cn) (c : Cn) (n : Int) (hV : CnsAt w v L) (hok : ∀ c ∈ L, CnOk c) (hc : CnOk c) (hn : 0 ≤ n ∧ n < 256) (hlen : L.length ≤ 300) (hpos : 0 < L.length) (hN : (L.map Cn.pt).Nodup) (hin : c.pt ∈ L.map Cn.pt) :
    Calls Try.prog 7 #[v, .agg (cnC c).toArray, .int .u8 n] w fun e w' => e = .returned (.bool true) ∧ Below w.heap.size w w' := by
  have hb0 := below_new w (.cells (cnC c).toArray 59)
  have CAL := hide (alive9_any (w.alloc (.cells (cnC c).toArray 59)))
  have HB0 := hide hb0
  have HC0 := hide (range_new w (cnC c) 59)
  have HCL := hide (cnC_length hc)
  have HIC : Hid ((Try.prog.info? 59).map (·.size) = some (cnC c).length) := hide (by rw [HCL.out]; exact info_cn)
  have HC := hide hc
  have HV := hide hV
  have HOK := hide hok
  have HN := hide hN
  have HIN := hide hin
  have HLN : Hid (L.length ≤ 300) := hide hlen
  have hne : ¬ (L.length : Int) = 0 := by omega
  obtain ⟨q, hq, hqn⟩ : ∃ q : Nat, q < L.length ∧ (q : Int) = n % (L.length : Int) := ⟨(n % (L.length : Int)).toNat, by
    have h1 := Int.emod_lt_of_pos n (show (0 : Int) < (L.length : Int) by omega)
    have h2 := Int.emod_nonneg n (show (L.length : Int) ≠ 0 by omega)
    omega, by
    have h2 := Int.emod_nonneg n (show (L.length : Int) ≠ 0 by omega)
    omega⟩
  obtain ⟨x, hx⟩ : ∃ x, L[q]? = some x := ⟨_, List.getElem?_eq_getElem hq⟩
  have hxm := List.mem_of_getElem? hx
  have HXM := hide hxm
  have HXL := hide (cnC_length (hok x hxm))
  have HIX : Hid ((Try.prog.info? 59).map (·.size) = some (cnC x).length) := hide (by rw [HXL.out]; exact info_cn)
  have HQN := hide hqn
  have HQ := hide hq
  obtain ⟨a, cap, rfl, hc1, hc2⟩ := hV.form
  obtain ⟨lb, lo, rfl, hlr⟩ := hV.get hx
  have HLR := hide hlr
  have HML := hide (fun w' => many_no L.length (some ⟨lb, lo, none⟩) cap w' hlen)
  have hle : (L.length : Int) ≤ 300 := by omega
  clear hV hlen hb0 hok hN hc hin hqn hx hxm hlr
  go_enter Try.func7, Try.ntmps7
  go_upto_region 1 with fail
  generalize w.alloc (.cells (cnC c).toArray 59) = W0 at *
  go_wp2_with fail
  refine CAL.out.mono ?_
  rintro e w1 ⟨rfl, hb1⟩
  have HB1 := hide (below_on HB0.out hb1)
  have HC1 := hide (range_on HC0.out hb1)
  have CN := hide (new_ok L _ w1 (HV.out.on HB1.out) HOK.out (by have := HLN.out; omega) HN.out)
  clear hb1 CAL HC0 HB0
  go_wp2_with fail
  refine (HML.out w1).mono ?_
  rintro e w2 ⟨rfl, hw2⟩
  rw [hw2]
  clear hw2
  -- New
  go_wp2_with fail
  refine CN.out.mono ?_
  rintro e w2 ⟨b, k, rfl, hset, hbb, hkb, hb2⟩
  have HS2 := hide hset
  have HB2 := hide (below_on HB1.out hb2)
  have HC2 := hide (range_on HC1.out hb2)
  have CA := hide (all_any w2 b k L hset (by have := HLN.out; omega))
  clear hset hbb hkb hb2 CN HB1 HC1 HML
  -- All
  go_wp2_with fail
  refine CA.out.mono ?_
  rintro e w3 ⟨wv, M, rfl, hp, hs, hr, hb3⟩
  have HWAS3 : Hid (CnsAt w3 wv M) := hide hr.row
  have HPM := hide (show M.Perm L ∧ SortC M from ⟨hp, hs⟩)
  have HS3 := hide (HS2.out.on hb3)
  have HB3 := hide (below_on HB2.out hb3)
  have HC3 := hide (range_on HC2.out hb3)
  have CR := hide (rats_any L _ w3 (HV.out.on HB3.out) HOK.out (by have := HLN.out; omega))
  clear hp hs hr hb3 CA HS2 HB2 HC2
  -- Ats
  go_wp2_with fail
  refine CR.out.mono ?_
  rintro e w4 ⟨pv, rfl, hb4, hrow⟩
  have HWAS4 := hide (HWAS3.out.on hb4)
  have HS4 := hide (HS3.out.on hb4)
  have HB4 := hide (below_on HB3.out hb4)
  have HC4 := hide (range_on HC3.out hb4)
  have hrat : RowAt w4 33 pv (L.map fun c => pC c.pt) := hrow.row
  have HE := hide hrow.2
  obtain ⟨pa, pc, rfl, hpc1, hpc2⟩ := hrow.row.form
  rw [List.length_map] at hpc1 hrat ⊢
  obtain ⟨c0, hc0⟩ : ∃ c0, (L.map fun c => pC c.pt)[0]? = some c0 := ⟨_, List.getElem?_eq_getElem (by rw [List.length_map]; omega)⟩
  obtain ⟨pb, po, rfl, -⟩ := hrat.get hc0
  have HP4 := hide hrat
  clear hb4 hrow hrat hc0 CR HS3 HB3 HC3 HWAS3
  -- Find
  have HPT : Hid (w4.rangeAt w.heap.size 0 (pC c.pt)) := hide (cn_range HC4.out HC.out).1
  have HIP : Hid ((Try.prog.info? 47).map (·.size) = some (pC c.pt).length) := hide (by rw [pC_length HC.out.1]; exact info_pt)
  obtain ⟨o, hl⟩ : ∃ o, Looks L c.pt o true := by
    obtain ⟨d, hd, e⟩ := List.mem_map.1 HIN.out
    exact ⟨d.out, Or.inl ⟨rfl, d, hd, e, rfl⟩⟩
  have hol := outC_length (hl.lock HS4.out.ok.2)
  have HIO : Hid ((Try.prog.info? 50).map (·.size) = some (outC o).length) := hide (by rw [hol]; exact info_out)
  have HTO : Hid (∀ w : World, (w.alloc (.cells #[.int .u64 0, .int .u8 0, .int .u8 0, .int .u8 0, .int .u8 0, .int .u8 0, .int .u8 0, .int .u8 0, .int .u8 0, .int .u8 0, .int .u8 0, .int .u8 0, .int .u8 0, .int .u8 0, .int .u8 0, .int .u8 0, .int .u8 0, .int .u8 0, .int .u8 0, .int .u8 0, .int .u8 0, .int .u8 0, .int .u8 0, .int .u8 0, .int .u8 0, .int .u8 0, .int .u8 0, .int .u8 0, .int .u8 0, .int .u8 0, .int .u8 0, .int .u8 0, .int .u8 0] 50)).there w.heap.size 0 (outC o).length) := hide (fun w => by rw [hol]; exact o_there w)
  have HX1 := hide (outC_one o)
  have CF := hide (find_any w4 b _ _ HS4.out c.pt HC.out.1 o true hl)
  have HPL : Hid ((pC c.pt).length = 33) := hide (pC_length HC.out.1)
  have HP1 := hide (pC_one c.pt)
  clear hl hol
  have HPC : Hid (q + 1 ≤ pc ∧ pc ≤ 9223372036854775807) := hide ⟨by omega, hpc2⟩
  have hqi : (q : Int) < (L.length : Int) := by omega
  go_upto_region 12 with fail
  rw [← HQN.out]
  clear HQN hpc1 hpc2
  generalize hP : pC c.pt = P at *
  have HPP := hide hP
  clear hP
  generalize outC o = X at *
  go_wp2_with (first
    | (refine wpList_load_mid rfl 47 (.tmp 44) rfl w.heap.size 0 rfl P _ HPT.out Try.underlying47 rfl HIP.out ?_))
  refine CF.out.mono ?_
  rintro e w5 ⟨rfl, hb5⟩
  have HWAS5 := hide (HWAS4.out.on hb5)
  have HS5 := hide (HS4.out.on hb5)
  have HB5 := hide (below_on HB4.out hb5)
  have HC5 := hide (range_on HC4.out hb5)
  have HP5 := hide (HP4.out.on hb5)
  have HPT5 := hide (range_on HPT.out hb5)
  clear hb5 HWAS4 HS4 HB4 HC4 HP4 HPT CF
  go_upto_region 13 with ((with_reducible show wpList _ _ _ (_ :: _) _ _); refine wp_store_row rfl 50 (.tmp 13) (.tmp 47) rfl w5.heap.size 0 X rfl rfl (HTO.out w5) HIO.out HX1.out ?_)
  have hbn : Below w5.heap.size w5 ((w5.alloc (.cells #[.int .u64 0, .int .u8 0, .int .u8 0, .int .u8 0, .int .u8 0, .int .u8 0, .int .u8 0, .int .u8 0, .int .u8 0, .int .u8 0, .int .u8 0, .int .u8 0, .int .u8 0, .int .u8 0, .int .u8 0, .int .u8 0, .int .u8 0, .int .u8 0, .int .u8 0, .int .u8 0, .int .u8 0, .int .u8 0, .int .u8 0, .int .u8 0, .int .u8 0, .int .u8 0, .int .u8 0, .int .u8 0, .int .u8 0, .int .u8 0, .int .u8 0, .int .u8 0, .int .u8 0] 50)).setCells w5.heap.size 0 X) := below_sets (Nat.le_refl _) _ _ _ (below_new w5 _)
  generalize (w5.alloc (.cells #[.int .u64 0, .int .u8 0, .int .u8 0, .int .u8 0, .int .u8 0, .int .u8 0, .int .u8 0, .int .u8 0, .int .u8 0, .int .u8 0, .int .u8 0, .int .u8 0, .int .u8 0, .int .u8 0, .int .u8 0, .int .u8 0, .int .u8 0, .int .u8 0, .int .u8 0, .int .u8 0, .int .u8 0, .int .u8 0, .int .u8 0, .int .u8 0, .int .u8 0, .int .u8 0, .int .u8 0, .int .u8 0, .int .u8 0, .int .u8 0, .int .u8 0, .int .u8 0, .int .u8 0] 50)).setCells w5.heap.size 0 X = W at *
  have HWASW := hide (HWAS5.out.on hbn)
  have HSW := hide (HS5.out.on hbn)
  have HBW := hide (below_on HB5.out hbn)
  have HCW := hide (range_on HC5.out hbn)
  have HPW := hide (HP5.out.on hbn)
  have HPTW := hide (range_on HPT5.out hbn)
  clear hbn HWAS5 HS5 HB5 HC5 HP5 HPT5 HTO HIO HX1
  go_upto_region 15 with fail
  have hw1 : IntKind.i64.wrap ((q : Int) + 1) = (q : Int) + 1 := by simp [IntKind.wrap, IntKind.bits, IntKind.signed]; omega
  have hw2 : (0 : Int) ≤ (q : Int) + 1 := by omega
  have hw3 : ¬ (pc : Int) < (q : Int) + 1 := by have := HPC.out; omega
  have hw4 : (q : Int) + 1 ≤ (L.length : Int) := by omega
  obtain ⟨to, hw5, htl⟩ := tail_at2 HPW.out (k := q + 1) hq
  have HTL := hide htl
  clear htl
  refine wp_region_held_drew (S := fun wx => Below W.heap.size W wx) (by kernel_rfl) (Below.refl _ _).drew (fun hHeld => ?_)
  refine wpAnyH_take (i := 0) (oi := { dst := some 51, op := Op.move (Operand.tmp 7), type := 25, pos := "law.go:199", after := #[], guard := none }) (v := .pointer (some ⟨b, 0, none⟩)) rfl (by kernel_rfl) (by kernel_rfl) (by kernel_rfl) (fun _ _ _ h => h) (Or.inl ⟨by rfl, fun w _ => by go_simp⟩) (by assumption) ?_
  simp only [Act.put, List.setIfInBounds_toArray, List.set_cons_zero, List.set_cons_succ]
  refine wpAnyH_take (i := 2) (oi := { dst := some 53, op := Op.move (Operand.tmp 10), type := 33, pos := "law.go:199", after := #[], guard := none }) (v := .slice (some ⟨pb, po, none⟩) L.length pc) rfl (by kernel_rfl) (by kernel_rfl) (by kernel_rfl) (fun _ _ _ h => h) (Or.inl ⟨by rfl, fun w _ => by go_simp⟩) (by assumption) ?_
  simp only [Act.put, List.setIfInBounds_toArray, List.set_cons_zero, List.set_cons_succ]
  refine wpAnyH_take (i := 3) (oi := { dst := some 54, op := Op.move (Operand.tmp 11), type := 3, pos := "law.go:199", after := #[], guard := none }) (v := .int .i64 q) rfl (by kernel_rfl) (by kernel_rfl) (by kernel_rfl) (fun _ _ _ h => h) (Or.inl ⟨by rfl, fun w _ => by go_simp⟩) (by assumption) ?_
  simp only [Act.put, List.setIfInBounds_toArray, List.set_cons_zero, List.set_cons_succ]
  refine wpAnyH_take (i := 4) (oi := { dst := some 55, op := Op.binOp BinOp.add 3 (Operand.tmp 54) (Operand.const (Value.int IntKind.i64 1)) 3, type := 3, pos := "law.go:199", after := #[{ on := 3, ground := Ground.data }], guard := none }) (v := .int .i64 ((q : Int) + 1)) rfl (by kernel_rfl) (by kernel_rfl) (by kernel_rfl) (fun _ _ _ h => h) (Or.inl ⟨by rfl, fun w _ => by go_simp⟩) (by assumption) ?_
  simp only [Act.put, List.setIfInBounds_toArray, List.set_cons_zero, List.set_cons_succ]
  refine wpAnyH_take (i := 5) (oi := { dst := some 56, op := Op.slice 33 (Operand.tmp 53) none (some (Operand.tmp 55)) none, type := 33, pos := "law.go:199", after := #[{ on := 2, ground := Ground.data }, { on := 4, ground := Ground.data }], guard := none }) (v := .slice (some ⟨pb, po, none⟩) (q + 1) pc) rfl (by kernel_rfl) (by kernel_rfl) (by kernel_rfl) (fun _ _ _ h => h) (Or.inl ⟨by rfl, fun w _ => by go_simp⟩) (by assumption) ?_
  simp only [Act.put, List.setIfInBounds_toArray, List.set_cons_zero, List.set_cons_succ]
  refine wpAnyH_take (i := 7) (oi := { dst := some 58, op := Op.fieldAddr 59 (Operand.tmp 4) 0, type := 0, pos := "law.go:199", after := #[], guard := none }) (v := .pointer (some ⟨w.heap.size, 0, none⟩)) rfl (by kernel_rfl) (by kernel_rfl) (by kernel_rfl) (fun _ _ _ h => h) (Or.inl ⟨by rfl, fun w _ => by go_simp⟩) (by assumption) ?_
  simp only [Act.put, List.setIfInBounds_toArray, List.set_cons_zero, List.set_cons_succ]
  refine wpAnyH_take (i := 8) (oi := { dst := some 59, op := Op.load 47 (Operand.tmp 58), type := 47, pos := "law.go:199", after := #[{ on := 7, ground := Ground.data }], guard := none }) (v := .agg (P).toArray) rfl (by kernel_rfl) (by kernel_rfl) (by kernel_rfl) (fun _ _ _ h => h) (yieldsIf_load_mid (by rfl) 47 (.tmp 58) rfl w.heap.size 0 rfl (P) _ (fun w h => range_on HPTW.out h) Try.underlying47 rfl HIP.out) (by assumption) ?_
  simp only [Act.put, List.setIfInBounds_toArray, List.set_cons_zero, List.set_cons_succ]
  refine wpAnyH_take (i := 10) (oi := { dst := some 61, op := Op.move (Operand.tmp 10), type := 33, pos := "law.go:199", after := #[], guard := none }) (v := .slice (some ⟨pb, po, none⟩) L.length pc) rfl (by kernel_rfl) (by kernel_rfl) (by kernel_rfl) (fun _ _ _ h => h) (Or.inl ⟨by rfl, fun w _ => by go_simp⟩) (by assumption) ?_
  simp only [Act.put, List.setIfInBounds_toArray, List.set_cons_zero, List.set_cons_succ]
  refine wpAnyH_take (i := 11) (oi := { dst := some 62, op := Op.move (Operand.tmp 11), type := 3, pos := "law.go:199", after := #[], guard := none }) (v := .int .i64 q) rfl (by kernel_rfl) (by kernel_rfl) (by kernel_rfl) (fun _ _ _ h => h) (Or.inl ⟨by rfl, fun w _ => by go_simp⟩) (by assumption) ?_
  simp only [Act.put, List.setIfInBounds_toArray, List.set_cons_zero, List.set_cons_succ]
  refine wpAnyH_take (i := 12) (oi := { dst := some 63, op := Op.binOp BinOp.add 3 (Operand.tmp 62) (Operand.const (Value.int IntKind.i64 1)) 3, type := 3, pos := "law.go:199", after := #[{ on := 11, ground := Ground.data }], guard := none }) (v := .int .i64 ((q : Int) + 1)) rfl (by kernel_rfl) (by kernel_rfl) (by kernel_rfl) (fun _ _ _ h => h) (Or.inl ⟨by rfl, fun w _ => by go_simp⟩) (by assumption) ?_
  simp only [Act.put, List.setIfInBounds_toArray, List.set_cons_zero, List.set_cons_succ]
  refine wpAnyH_take (i := 13) (oi := { dst := some 64, op := Op.slice 33 (Operand.tmp 61) (some (Operand.tmp 63)) none none, type := 33, pos := "law.go:199", after := #[{ on := 10, ground := Ground.data }, { on := 12, ground := Ground.data }], guard := none }) (v := .slice (some ⟨pb, to, none⟩) (L.length - (q + 1)) (pc - (q + 1))) rfl (by kernel_rfl) (by kernel_rfl) (by kernel_rfl) (fun _ _ _ h => h) (Or.inl ⟨by rfl, fun w _ => by go_simp⟩) (by assumption) ?_
  simp only [Act.put, List.setIfInBounds_toArray, List.set_cons_zero, List.set_cons_succ]
  refine wpAnyH_ready (rs := [1, 9]) (by kernel_rfl) (by simp) (AllReadyH.cons (o := { dst := some 52, op := Op.buildSlice 33 0 #[], type := 33, pos := "law.go:199", after := #[], guard := none }) rfl (fun K hK => ?_) (AllReadyH.cons (o := { dst := some 60, op := Op.buildSlice 33 1 #[(0, Operand.tmp 59)], type := 33, pos := "law.go:199", after := #[{ on := 8, ground := Ground.data }], guard := none }) rfl (fun K hK => ?_) AllReadyH.nil))
  · generalize W.drew = v0 at *
    have hbn := below_new v0 (.cells #[] 47)
    have HA := hide (own_none v0 W.heap.size 47 33 hHeld.size)
    have HS := hHeld.alloc hHeld.size (.cells #[] 47)
    clear hbn
    refine cstep_build0 (by rfl) 33 47 rfl _ 33 36 Try.underlying33 infoP ?_
    refine hK.out _ _ ?_ (fun hHeld => ?_)
    · exact HS
    clear hK K
    try simp only [Act.put, List.setIfInBounds_toArray, List.set_cons_zero, List.set_cons_succ]
    refine wpAnyH_ready (rs := [6, 9]) (by kernel_rfl) (by simp) (AllReadyH.cons (o := { dst := some 57, op := Op.call { callee := Callee.builtin Builtin.append, args := #[Operand.tmp 52, Operand.tmp 56], argTypes := #[33, 33] }, type := 33, pos := "law.go:199", after := #[{ on := 1, ground := Ground.data }, { on := 5, ground := Ground.data }], guard := none }) rfl (fun K hK => ?_) (AllReadyH.cons (o := { dst := some 60, op := Op.buildSlice 33 1 #[(0, Operand.tmp 59)], type := 33, pos := "law.go:199", after := #[{ on := 8, ground := Ground.data }], guard := none }) rfl (fun K hK => ?_) AllReadyH.nil))
    · generalize v0.alloc (.cells #[] 47) = v1 at *
      obtain ⟨u57, v2, hrun, hown, hgr, hwh⟩ := run_append_rows v1 33 47 33 _ 33 36 Try.underlying33 infoP rfl (by omega) (by omega) W.heap.size _ [] HA.out ⟨pb, po, none⟩ (q + 1) pc ((L.map fun c => pC c.pt).take (q + 1)) (head_at (HPW.out.on hHeld) (by omega)) (fun c hc => HE.out c (List.mem_of_mem_take hc)) (by rw [List.length_take, List.length_map]; have := HLN.out; simp; omega) hHeld.size
      rw [List.nil_append] at hown
      have HS := hHeld.grown hgr hHeld.size fun j hj => (HA.out.lt j hj).1
      have HA := hide hown
      clear hown hgr hwh
      refine step_app rfl (.tmp 52) (.tmp 56) 33 rfl rfl rfl hrun ?_
      clear hrun
      refine hK.out _ _ ?_ (fun hHeld => ?_)
      · exact HS
      clear hK K
      try simp only [Act.put, List.setIfInBounds_toArray, List.set_cons_zero, List.set_cons_succ]
      refine wpAnyH_ready (rs := [9]) (by kernel_rfl) (by simp) (AllReadyH.cons (o := { dst := some 60, op := Op.buildSlice 33 1 #[(0, Operand.tmp 59)], type := 33, pos := "law.go:199", after := #[{ on := 8, ground := Ground.data }], guard := none }) rfl (fun K hK => ?_) AllReadyH.nil)
      have hbn := below_new v2 (.cells P.toArray 47)
      have HD := hide (fun g hg => show g ≠ v2.heap.size from Nat.ne_of_lt (HA.out.lt g hg).2)
      have HA := hide (HA.out.move (w1 := v2.alloc (.cells P.toArray 47)) fun g _ hl => hbn.block g hl)
      have HB := hide (own_one v2 W.heap.size 47 33 hHeld.size P ⟨HPL.out, HP1.out⟩)
      have HS := hHeld.alloc hHeld.size (.cells P.toArray 47)
      clear hbn
      refine cstep_build1 (by rfl) 33 47 (.tmp 59) rfl _ 33 36 Try.underlying33 infoP (by omega) (by omega) P HPL.out rfl ?_
      refine hK.out _ _ ?_ (fun hHeld => ?_)
      · exact HS
      clear hK K
      try simp only [Act.put, List.setIfInBounds_toArray, List.set_cons_zero, List.set_cons_succ]
      refine wpAnyH_ready (rs := [14]) (by kernel_rfl) (by simp) (AllReadyH.cons (o := { dst := some 65, op := Op.call { callee := Callee.builtin Builtin.append, args := #[Operand.tmp 60, Operand.tmp 64], argTypes := #[33, 33] }, type := 33, pos := "law.go:199", after := #[{ on := 9, ground := Ground.data }, { on := 13, ground := Ground.data }, { on := 6, ground := Ground.chain }], guard := none }) rfl (fun K hK => ?_) AllReadyH.nil)
      generalize v2.alloc (.cells P.toArray 47) = v3 at *
      obtain ⟨u65, v4, hrun, hown, hgr, hwh⟩ := run_append_rows v3 33 47 33 _ 33 36 Try.underlying33 infoP rfl (by omega) (by omega) W.heap.size (.slice (some ⟨v2.heap.size, 0, none⟩) 1 1) [P] HB.out ⟨pb, to, none⟩ (L.length - (q + 1)) (pc - (q + 1)) ((L.map fun c => pC c.pt).drop (q + 1)) (HTL.out.on hHeld) (fun c hc => HE.out c (List.mem_of_mem_drop hc)) (by rw [List.length_drop, List.length_map]; have := HLN.out; simp; omega) hHeld.size
      have HS := hHeld.grown hgr hHeld.size fun j hj => (HB.out.lt j hj).1
      have HA := hide (HA.out.kept hgr (Or.inr fun e => HD.out v2.heap.size e rfl))
      obtain ⟨ua, uc, rfl, -, -⟩ := hown.row.form
      obtain ⟨ub, uo, rfl, -⟩ := hown.row.get (k := 0) (c := P) rfl
      have HR := hide hown.row
      have HRE := hide hown.2
      obtain ⟨un, hun⟩ : ∃ un, un = ([P] ++ (L.map fun c => pC c.pt).drop (q + 1)).length := ⟨_, rfl⟩
      rw [← hun] at hrun HR
      clear hun hown hgr hwh HB HD
      refine step_app rfl (.tmp 60) (.tmp 64) 33 rfl rfl rfl hrun ?_
      clear hrun
      refine hK.out _ _ ?_ (fun hHeld => ?_)
      · exact HS
      clear hK K
      try simp only [Act.put, List.setIfInBounds_toArray, List.set_cons_zero, List.set_cons_succ]
      refine wpAnyH_ready (rs := [15]) (by kernel_rfl) (by simp) (AllReadyH.cons (o := { dst := some 66, op := Op.call { callee := Callee.builtin Builtin.append, args := #[Operand.tmp 57, Operand.tmp 65], argTypes := #[33, 33] }, type := 33, pos := "law.go:199", after := #[{ on := 6, ground := Ground.data }, { on := 14, ground := Ground.data }, { on := 14, ground := Ground.chain }], guard := none }) rfl (fun K hK => ?_) AllReadyH.nil)
      obtain ⟨u66, v5, hrun, hown, hgr, hwh⟩ := run_append_rows v4 33 47 33 _ 33 36 Try.underlying33 infoP rfl (by omega) (by omega) W.heap.size u57 _ HA.out ⟨ub, uo, none⟩ un uc _ HR.out HRE.out (by rw [List.length_append, List.length_take, List.length_drop, List.length_map]; have := HLN.out; simp; omega) hHeld.size
      have HS := hHeld.grown hgr hHeld.size fun j hj => (HA.out.lt j hj).1
      rw [← HPP.out, amid_row] at hown
      have HA := hide hown
      clear hown hgr hwh HR HRE
      refine step_app rfl (.tmp 57) (.tmp 65) 33 rfl rfl rfl hrun ?_
      clear hrun
      refine hK.out _ _ ?_ (fun hHeld => ?_)
      · exact HS
      clear hK K
      try simp only [Act.put, List.setIfInBounds_toArray, List.set_cons_zero, List.set_cons_succ]
      refine wpAnyH_ready (rs := [16]) (by kernel_rfl) (by simp) (AllReadyH.cons (o := { dst := some 67, op := Op.call { callee := Callee.value (Operand.func 14), args := #[Operand.tmp 51, Operand.tmp 66], argTypes := #[25, 33] }, type := 39, pos := "law.go:199", after := #[{ on := 0, ground := Ground.data }, { on := 15, ground := Ground.data }, { on := 15, ground := Ground.chain }], guard := none }) rfl (fun K hK => ?_) AllReadyH.nil)
      have HTK := hide (take_twice v5 b (amid L (q + 1) c.pt) u66 HA.out.row (amid_ok (q + 1) HOK.out HC.out.1) (by rw [amid_length]; have := HLN.out; omega) (amid_twice (q + 1) HIN.out))
      refine cstep_go (vs := #[.pointer (some ⟨b, 0, none⟩), u66]) (by rfl) 14 _ Try.func14 (by kernel_rfl) (by kernel_rfl) _ _ rfl (by simp [Act.eval]) ?_
      refine HTK.out.mono ?_
      rintro e v6 ⟨rfl, hb16⟩
      have HS := below_on hHeld hb16
      clear hb16 HTK HA
      refine ⟨_, rfl, ?_⟩
      refine hK.out _ _ ?_ (fun hHeld => ?_)
      · exact HS
      clear hK K
      try simp only [Act.put, List.setIfInBounds_toArray, List.set_cons_zero, List.set_cons_succ]
      refine wpAnyH_take (i := 17) (oi := { dst := some 50, op := Op.move (Operand.tmp 67), type := 39, pos := "law.go:199", after := #[{ on := 16, ground := Ground.data }], guard := none }) (v := .tuple #[.slice none 0 0, .int .i64 12]) rfl (by kernel_rfl) (by kernel_rfl) (by kernel_rfl) (fun _ _ _ h => h) (Or.inl ⟨by rfl, fun w _ => by go_simp⟩) (by assumption) ?_
      simp only [Act.put, List.setIfInBounds_toArray, List.set_cons_zero, List.set_cons_succ]
      refine wpAnyH_take (i := 18) (oi := { dst := some 68, op := Op.extract (Operand.tmp 50) 0, type := 38, pos := "law.go:199", after := #[{ on := 17, ground := Ground.data }], guard := none }) (v := .slice none 0 0) rfl (by kernel_rfl) (by kernel_rfl) (by kernel_rfl) (fun _ _ _ h => h) (Or.inl ⟨by rfl, fun w _ => by go_simp⟩) (by assumption) ?_
      simp only [Act.put, List.setIfInBounds_toArray, List.set_cons_zero, List.set_cons_succ]
      refine wpAnyH_take (i := 19) (oi := { dst := some 69, op := Op.extract (Operand.tmp 50) 1, type := 26, pos := "law.go:199", after := #[{ on := 17, ground := Ground.data }, { on := 20, ground := Ground.gcOnly Departure.lateStores }], guard := none }) (v := .int .i64 12) rfl (by kernel_rfl) (by kernel_rfl) (by kernel_rfl) (fun _ _ _ h => h) (Or.inl ⟨by rfl, fun w _ => by go_simp⟩) (by assumption) ?_
      simp only [Act.put, List.setIfInBounds_toArray, List.set_cons_zero, List.set_cons_succ]
      refine wpAnyH_take (i := 20) (oi := { dst := some 15, op := Op.assign (Operand.tmp 68), type := 38, pos := "law.go:199", after := #[{ on := 18, ground := Ground.data }, { on := 16, ground := Ground.chain }, { on := 0, ground := Ground.phase }, { on := 1, ground := Ground.phase }, { on := 2, ground := Ground.phase }, { on := 3, ground := Ground.phase }, { on := 4, ground := Ground.phase }, { on := 5, ground := Ground.phase }, { on := 6, ground := Ground.phase }, { on := 7, ground := Ground.phase }, { on := 8, ground := Ground.phase }, { on := 9, ground := Ground.phase }, { on := 10, ground := Ground.phase }, { on := 11, ground := Ground.phase }, { on := 12, ground := Ground.phase }, { on := 13, ground := Ground.phase }, { on := 14, ground := Ground.phase }, { on := 15, ground := Ground.phase }, { on := 16, ground := Ground.phase }, { on := 17, ground := Ground.phase }, { on := 18, ground := Ground.phase }, { on := 19, ground := Ground.textOnly Departure.lateStores }], guard := none }) (v := .slice none 0 0) rfl (by kernel_rfl) (by kernel_rfl) (by kernel_rfl) (fun _ _ _ h => h) (Or.inl ⟨by rfl, fun w _ => by go_simp⟩) (by assumption) ?_
      simp only [Act.put, List.setIfInBounds_toArray, List.set_cons_zero, List.set_cons_succ]
      refine wpAnyH_take (i := 21) (oi := { dst := some 16, op := Op.assign (Operand.tmp 69), type := 26, pos := "law.go:199", after := #[{ on := 19, ground := Ground.data }, { on := 20, ground := Ground.chain }, { on := 0, ground := Ground.phase }, { on := 1, ground := Ground.phase }, { on := 2, ground := Ground.phase }, { on := 3, ground := Ground.phase }, { on := 4, ground := Ground.phase }, { on := 5, ground := Ground.phase }, { on := 6, ground := Ground.phase }, { on := 7, ground := Ground.phase }, { on := 8, ground := Ground.phase }, { on := 9, ground := Ground.phase }, { on := 10, ground := Ground.phase }, { on := 11, ground := Ground.phase }, { on := 12, ground := Ground.phase }, { on := 13, ground := Ground.phase }, { on := 14, ground := Ground.phase }, { on := 15, ground := Ground.phase }, { on := 16, ground := Ground.phase }, { on := 17, ground := Ground.phase }, { on := 18, ground := Ground.phase }, { on := 19, ground := Ground.phase }, { on := 20, ground := Ground.phase }], guard := none }) (v := .int .i64 12) rfl (by kernel_rfl) (by kernel_rfl) (by kernel_rfl) (fun _ _ _ h => h) (Or.inl ⟨by rfl, fun w _ => by go_simp⟩) (by assumption) ?_
      simp only [Act.put, List.setIfInBounds_toArray, List.set_cons_zero, List.set_cons_succ]
      refine wpAnyH_done (by kernel_rfl) ?_ _
      have HSZ := hide (HSW.out.on hHeld)
      have HBZ := hide (below_on HBW.out hHeld)
      have HCZ := hide (range_on HCW.out hHeld)
      have HWZ := hide (HWASW.out.on hHeld)
      have CA1 := hide (all_any v6 b k L HSZ.out (by have := HLN.out; omega))
      clear hHeld HSW HBW HCW HWASW HPW HPTW HTL hw1 hw2 hw3 hw4 hw5
      go_wp2_with fail
      refine CA1.out.mono ?_
      rintro e x1 ⟨y1, M1, rfl, hp1, hs1, hr1, hx1⟩
      obtain rfl : M1 = M := sort_unique hs1 HPM.out.2 (hp1.trans HPM.out.1.symm)
      have HS1 := hide (HSZ.out.on hx1)
      have HB1 := hide (below_on HBZ.out hx1)
      have HC1 := hide (range_on HCZ.out hx1)
      have HW1 := hide (HWZ.out.on hx1)
      have CS1 := hide (rsamecn_eq M1 y1 wv x1 hr1.row HW1.out (fun d hd => HOK.out d (HPM.out.1.mem_iff.1 hd)))
      clear hp1 hs1 hr1 hx1 CA1 HSZ HBZ HCZ HWZ
      go_wp2_with fail
      refine CS1.out.mono ?_
      rintro e x2 ⟨rfl, hx2⟩
      have HS2 := hide (HS1.out.on hx2)
      have HB2 := hide (below_on HB1.out hx2)
      have HC2 := hide (range_on HC1.out hx2)
      have HW2 := hide (HW1.out.on hx2)
      clear hx2 CS1 HS1 HB1 HC1 HW1
      have HC3 := hide (cns_one x2 c HC.out)
      have HB3 := hide (below_new x2 (.cells (cnC c).toArray 59))
      have HS3 := hide (HS2.out.on HB3.out)
      have CP := hide (put_there _ b (some k) L HS3.out [c] _ HC3.out (fun d hd => by rw [List.mem_singleton.1 hd]; exact HC.out) (by simp) (List.pairwise_singleton _ _) ⟨c.pt, by simp, HIN.out⟩)
      have HW3 := hide (HW2.out.on HB3.out)
      have HBB3 := hide (below_on HB2.out HB3.out)
      clear HC3 HB3 HS2 HW2 HB2
      go_wp2_with (first
        | (refine cw_load (by rfl) 59 (.tmp 4) rfl w.heap.size 0 rfl (cnC c) _ HC2.out Try.underlying59 rfl HIC.out ?_)
        | (refine cw_build1 (by rfl) 30 59 (.tmp 88) rfl _ 66 80 Try.underlying30 infoCn (by omega) (by omega) (cnC c) HCL.out rfl ?_))
      generalize x2.alloc (.cells (cnC c).toArray 59) = x3 at *
      refine CP.out.mono ?_
      rintro e x4 ⟨rfl, hx4⟩
      have HS4 := hide (HS3.out.on hx4)
      have HB4 := hide (below_on HBB3.out hx4)
      have HW4 := hide (HW3.out.on hx4)
      have CA2 := hide (all_any x4 b k L HS4.out (by have := HLN.out; omega))
      clear hx4 CP HS3 HBB3 HW3
      go_wp2_with fail
      refine CA2.out.mono ?_
      rintro e x5 ⟨y2, M2, rfl, hp2, hs2, hr2, hx5⟩
      obtain rfl : M2 = M1 := sort_unique hs2 HPM.out.2 (hp2.trans HPM.out.1.symm)
      have HB5 := hide (below_on HB4.out hx5)
      have CS2 := hide (rsamecn_eq M2 y2 wv x5 hr2.row (HW4.out.on hx5) (fun d hd => HOK.out d (HPM.out.1.mem_iff.1 hd)))
      clear hp2 hs2 hr2 hx5 CA2
      go_wp2_with fail
      refine CS2.out.mono ?_
      rintro e x6 ⟨rfl, hx6⟩
      have R := hide (below_on HB5.out hx6)
      clear hx6
      go_wp2
      go_ret
      exact ⟨rfl, R.out⟩
    · generalize v0.alloc (.cells #[] 47) = v1 at *
      have hbn := below_new v1 (.cells P.toArray 47)
      have HD := hide (fun g hg => show g ≠ v1.heap.size from Nat.ne_of_lt (HA.out.lt g hg).2)
      have HA := hide (HA.out.move (w1 := v1.alloc (.cells P.toArray 47)) fun g _ hl => hbn.block g hl)
      have HB := hide (own_one v1 W.heap.size 47 33 hHeld.size P ⟨HPL.out, HP1.out⟩)
      have HS := hHeld.alloc hHeld.size (.cells P.toArray 47)
      clear hbn
      refine cstep_build1 (by rfl) 33 47 (.tmp 59) rfl _ 33 36 Try.underlying33 infoP (by omega) (by omega) P HPL.out rfl ?_
      refine hK.out _ _ ?_ (fun hHeld => ?_)
      · exact HS
      clear hK K
      try simp only [Act.put, List.setIfInBounds_toArray, List.set_cons_zero, List.set_cons_succ]
      refine wpAnyH_ready (rs := [6]) (by kernel_rfl) (by simp) (AllReadyH.cons (o := { dst := some 57, op := Op.call { callee := Callee.builtin Builtin.append, args := #[Operand.tmp 52, Operand.tmp 56], argTypes := #[33, 33] }, type := 33, pos := "law.go:199", after := #[{ on := 1, ground := Ground.data }, { on := 5, ground := Ground.data }], guard := none }) rfl (fun K hK => ?_) AllReadyH.nil)
      generalize v1.alloc (.cells P.toArray 47) = v2 at *
      obtain ⟨u57, v3, hrun, hown, hgr, hwh⟩ := run_append_rows v2 33 47 33 _ 33 36 Try.underlying33 infoP rfl (by omega) (by omega) W.heap.size _ [] HA.out ⟨pb, po, none⟩ (q + 1) pc ((L.map fun c => pC c.pt).take (q + 1)) (head_at (HPW.out.on hHeld) (by omega)) (fun c hc => HE.out c (List.mem_of_mem_take hc)) (by rw [List.length_take, List.length_map]; have := HLN.out; simp; omega) hHeld.size
      rw [List.nil_append] at hown
      have HD2 : Hid (∀ g, u57.ownBlock = some g → g ≠ v1.heap.size) := hide (fun g hg => by
        rcases hwh with h | h
        · exact HD.out g (h.symm.trans hg)
        · have h1 := h g hg
          have h2 := (HB.out.lt _ rfl).2
          exact Nat.ne_of_gt (Nat.lt_of_lt_of_le h2 h1))
      have HB := hide (HB.out.kept hgr (Or.inr fun e => HD.out v1.heap.size e.symm rfl))
      have HD := HD2
      clear HD2
      have HS := hHeld.grown hgr hHeld.size fun j hj => (HA.out.lt j hj).1
      have HA := hide hown
      clear hown hgr hwh
      refine step_app rfl (.tmp 52) (.tmp 56) 33 rfl rfl rfl hrun ?_
      clear hrun
      refine hK.out _ _ ?_ (fun hHeld => ?_)
      · exact HS
      clear hK K
      try simp only [Act.put, List.setIfInBounds_toArray, List.set_cons_zero, List.set_cons_succ]
      refine wpAnyH_ready (rs := [14]) (by kernel_rfl) (by simp) (AllReadyH.cons (o := { dst := some 65, op := Op.call { callee := Callee.builtin Builtin.append, args := #[Operand.tmp 60, Operand.tmp 64], argTypes := #[33, 33] }, type := 33, pos := "law.go:199", after := #[{ on := 9, ground := Ground.data }, { on := 13, ground := Ground.data }, { on := 6, ground := Ground.chain }], guard := none }) rfl (fun K hK => ?_) AllReadyH.nil)
      obtain ⟨u65, v4, hrun, hown, hgr, hwh⟩ := run_append_rows v3 33 47 33 _ 33 36 Try.underlying33 infoP rfl (by omega) (by omega) W.heap.size (.slice (some ⟨v1.heap.size, 0, none⟩) 1 1) [P] HB.out ⟨pb, to, none⟩ (L.length - (q + 1)) (pc - (q + 1)) ((L.map fun c => pC c.pt).drop (q + 1)) (HTL.out.on hHeld) (fun c hc => HE.out c (List.mem_of_mem_drop hc)) (by rw [List.length_drop, List.length_map]; have := HLN.out; simp; omega) hHeld.size
      have HS := hHeld.grown hgr hHeld.size fun j hj => (HB.out.lt j hj).1
      have HA := hide (HA.out.kept hgr (Or.inr fun e => HD.out v1.heap.size e rfl))
      obtain ⟨ua, uc, rfl, -, -⟩ := hown.row.form
      obtain ⟨ub, uo, rfl, -⟩ := hown.row.get (k := 0) (c := P) rfl
      have HR := hide hown.row
      have HRE := hide hown.2
      obtain ⟨un, hun⟩ : ∃ un, un = ([P] ++ (L.map fun c => pC c.pt).drop (q + 1)).length := ⟨_, rfl⟩
      rw [← hun] at hrun HR
      clear hun hown hgr hwh HB HD
      refine step_app rfl (.tmp 60) (.tmp 64) 33 rfl rfl rfl hrun ?_
      clear hrun
      refine hK.out _ _ ?_ (fun hHeld => ?_)
      · exact HS
      clear hK K
      try simp only [Act.put, List.setIfInBounds_toArray, List.set_cons_zero, List.set_cons_succ]
      refine wpAnyH_ready (rs := [15]) (by kernel_rfl) (by simp) (AllReadyH.cons (o := { dst := some 66, op := Op.call { callee := Callee.builtin Builtin.append, args := #[Operand.tmp 57, Operand.tmp 65], argTypes := #[33, 33] }, type := 33, pos := "law.go:199", after := #[{ on := 6, ground := Ground.data }, { on := 14, ground := Ground.data }, { on := 14, ground := Ground.chain }], guard := none }) rfl (fun K hK => ?_) AllReadyH.nil)
      obtain ⟨u66, v5, hrun, hown, hgr, hwh⟩ := run_append_rows v4 33 47 33 _ 33 36 Try.underlying33 infoP rfl (by omega) (by omega) W.heap.size u57 _ HA.out ⟨ub, uo, none⟩ un uc _ HR.out HRE.out (by rw [List.length_append, List.length_take, List.length_drop, List.length_map]; have := HLN.out; simp; omega) hHeld.size
      have HS := hHeld.grown hgr hHeld.size fun j hj => (HA.out.lt j hj).1
      rw [← HPP.out, amid_row] at hown
      have HA := hide hown
      clear hown hgr hwh HR HRE
      refine step_app rfl (.tmp 57) (.tmp 65) 33 rfl rfl rfl hrun ?_
      clear hrun
      refine hK.out _ _ ?_ (fun hHeld => ?_)
      · exact HS
      clear hK K
      try simp only [Act.put, List.setIfInBounds_toArray, List.set_cons_zero, List.set_cons_succ]
      refine wpAnyH_ready (rs := [16]) (by kernel_rfl) (by simp) (AllReadyH.cons (o := { dst := some 67, op := Op.call { callee := Callee.value (Operand.func 14), args := #[Operand.tmp 51, Operand.tmp 66], argTypes := #[25, 33] }, type := 39, pos := "law.go:199", after := #[{ on := 0, ground := Ground.data }, { on := 15, ground := Ground.data }, { on := 15, ground := Ground.chain }], guard := none }) rfl (fun K hK => ?_) AllReadyH.nil)
      have HTK := hide (take_twice v5 b (amid L (q + 1) c.pt) u66 HA.out.row (amid_ok (q + 1) HOK.out HC.out.1) (by rw [amid_length]; have := HLN.out; omega) (amid_twice (q + 1) HIN.out))
      refine cstep_go (vs := #[.pointer (some ⟨b, 0, none⟩), u66]) (by rfl) 14 _ Try.func14 (by kernel_rfl) (by kernel_rfl) _ _ rfl (by simp [Act.eval]) ?_
      refine HTK.out.mono ?_
      rintro e v6 ⟨rfl, hb16⟩
      have HS := below_on hHeld hb16
      clear hb16 HTK HA
      refine ⟨_, rfl, ?_⟩
      refine hK.out _ _ ?_ (fun hHeld => ?_)
      · exact HS
      clear hK K
      try simp only [Act.put, List.setIfInBounds_toArray, List.set_cons_zero, List.set_cons_succ]
      refine wpAnyH_take (i := 17) (oi := { dst := some 50, op := Op.move (Operand.tmp 67), type := 39, pos := "law.go:199", after := #[{ on := 16, ground := Ground.data }], guard := none }) (v := .tuple #[.slice none 0 0, .int .i64 12]) rfl (by kernel_rfl) (by kernel_rfl) (by kernel_rfl) (fun _ _ _ h => h) (Or.inl ⟨by rfl, fun w _ => by go_simp⟩) (by assumption) ?_
      simp only [Act.put, List.setIfInBounds_toArray, List.set_cons_zero, List.set_cons_succ]
      refine wpAnyH_take (i := 18) (oi := { dst := some 68, op := Op.extract (Operand.tmp 50) 0, type := 38, pos := "law.go:199", after := #[{ on := 17, ground := Ground.data }], guard := none }) (v := .slice none 0 0) rfl (by kernel_rfl) (by kernel_rfl) (by kernel_rfl) (fun _ _ _ h => h) (Or.inl ⟨by rfl, fun w _ => by go_simp⟩) (by assumption) ?_
      simp only [Act.put, List.setIfInBounds_toArray, List.set_cons_zero, List.set_cons_succ]
      refine wpAnyH_take (i := 19) (oi := { dst := some 69, op := Op.extract (Operand.tmp 50) 1, type := 26, pos := "law.go:199", after := #[{ on := 17, ground := Ground.data }, { on := 20, ground := Ground.gcOnly Departure.lateStores }], guard := none }) (v := .int .i64 12) rfl (by kernel_rfl) (by kernel_rfl) (by kernel_rfl) (fun _ _ _ h => h) (Or.inl ⟨by rfl, fun w _ => by go_simp⟩) (by assumption) ?_
      simp only [Act.put, List.setIfInBounds_toArray, List.set_cons_zero, List.set_cons_succ]
      refine wpAnyH_take (i := 20) (oi := { dst := some 15, op := Op.assign (Operand.tmp 68), type := 38, pos := "law.go:199", after := #[{ on := 18, ground := Ground.data }, { on := 16, ground := Ground.chain }, { on := 0, ground := Ground.phase }, { on := 1, ground := Ground.phase }, { on := 2, ground := Ground.phase }, { on := 3, ground := Ground.phase }, { on := 4, ground := Ground.phase }, { on := 5, ground := Ground.phase }, { on := 6, ground := Ground.phase }, { on := 7, ground := Ground.phase }, { on := 8, ground := Ground.phase }, { on := 9, ground := Ground.phase }, { on := 10, ground := Ground.phase }, { on := 11, ground := Ground.phase }, { on := 12, ground := Ground.phase }, { on := 13, ground := Ground.phase }, { on := 14, ground := Ground.phase }, { on := 15, ground := Ground.phase }, { on := 16, ground := Ground.phase }, { on := 17, ground := Ground.phase }, { on := 18, ground := Ground.phase }, { on := 19, ground := Ground.textOnly Departure.lateStores }], guard := none }) (v := .slice none 0 0) rfl (by kernel_rfl) (by kernel_rfl) (by kernel_rfl) (fun _ _ _ h => h) (Or.inl ⟨by rfl, fun w _ => by go_simp⟩) (by assumption) ?_
      simp only [Act.put, List.setIfInBounds_toArray, List.set_cons_zero, List.set_cons_succ]
      refine wpAnyH_take (i := 21) (oi := { dst := some 16, op := Op.assign (Operand.tmp 69), type := 26, pos := "law.go:199", after := #[{ on := 19, ground := Ground.data }, { on := 20, ground := Ground.chain }, { on := 0, ground := Ground.phase }, { on := 1, ground := Ground.phase }, { on := 2, ground := Ground.phase }, { on := 3, ground := Ground.phase }, { on := 4, ground := Ground.phase }, { on := 5, ground := Ground.phase }, { on := 6, ground := Ground.phase }, { on := 7, ground := Ground.phase }, { on := 8, ground := Ground.phase }, { on := 9, ground := Ground.phase }, { on := 10, ground := Ground.phase }, { on := 11, ground := Ground.phase }, { on := 12, ground := Ground.phase }, { on := 13, ground := Ground.phase }, { on := 14, ground := Ground.phase }, { on := 15, ground := Ground.phase }, { on := 16, ground := Ground.phase }, { on := 17, ground := Ground.phase }, { on := 18, ground := Ground.phase }, { on := 19, ground := Ground.phase }, { on := 20, ground := Ground.phase }], guard := none }) (v := .int .i64 12) rfl (by kernel_rfl) (by kernel_rfl) (by kernel_rfl) (fun _ _ _ h => h) (Or.inl ⟨by rfl, fun w _ => by go_simp⟩) (by assumption) ?_
      simp only [Act.put, List.setIfInBounds_toArray, List.set_cons_zero, List.set_cons_succ]
      refine wpAnyH_done (by kernel_rfl) ?_ _
      have HSZ := hide (HSW.out.on hHeld)
      have HBZ := hide (below_on HBW.out hHeld)
      have HCZ := hide (range_on HCW.out hHeld)
      have HWZ := hide (HWASW.out.on hHeld)
      have CA1 := hide (all_any v6 b k L HSZ.out (by have := HLN.out; omega))
      clear hHeld HSW HBW HCW HWASW HPW HPTW HTL hw1 hw2 hw3 hw4 hw5
      go_wp2_with fail
      refine CA1.out.mono ?_
      rintro e x1 ⟨y1, M1, rfl, hp1, hs1, hr1, hx1⟩
      obtain rfl : M1 = M := sort_unique hs1 HPM.out.2 (hp1.trans HPM.out.1.symm)
      have HS1 := hide (HSZ.out.on hx1)
      have HB1 := hide (below_on HBZ.out hx1)
      have HC1 := hide (range_on HCZ.out hx1)
      have HW1 := hide (HWZ.out.on hx1)
      have CS1 := hide (rsamecn_eq M1 y1 wv x1 hr1.row HW1.out (fun d hd => HOK.out d (HPM.out.1.mem_iff.1 hd)))
      clear hp1 hs1 hr1 hx1 CA1 HSZ HBZ HCZ HWZ
      go_wp2_with fail
      refine CS1.out.mono ?_
      rintro e x2 ⟨rfl, hx2⟩
      have HS2 := hide (HS1.out.on hx2)
      have HB2 := hide (below_on HB1.out hx2)
      have HC2 := hide (range_on HC1.out hx2)
      have HW2 := hide (HW1.out.on hx2)
      clear hx2 CS1 HS1 HB1 HC1 HW1
      have HC3 := hide (cns_one x2 c HC.out)
      have HB3 := hide (below_new x2 (.cells (cnC c).toArray 59))
      have HS3 := hide (HS2.out.on HB3.out)
      have CP := hide (put_there _ b (some k) L HS3.out [c] _ HC3.out (fun d hd => by rw [List.mem_singleton.1 hd]; exact HC.out) (by simp) (List.pairwise_singleton _ _) ⟨c.pt, by simp, HIN.out⟩)
      have HW3 := hide (HW2.out.on HB3.out)
      have HBB3 := hide (below_on HB2.out HB3.out)
      clear HC3 HB3 HS2 HW2 HB2
      go_wp2_with (first
        | (refine cw_load (by rfl) 59 (.tmp 4) rfl w.heap.size 0 rfl (cnC c) _ HC2.out Try.underlying59 rfl HIC.out ?_)
        | (refine cw_build1 (by rfl) 30 59 (.tmp 88) rfl _ 66 80 Try.underlying30 infoCn (by omega) (by omega) (cnC c) HCL.out rfl ?_))
      generalize x2.alloc (.cells (cnC c).toArray 59) = x3 at *
      refine CP.out.mono ?_
      rintro e x4 ⟨rfl, hx4⟩
      have HS4 := hide (HS3.out.on hx4)
      have HB4 := hide (below_on HBB3.out hx4)
      have HW4 := hide (HW3.out.on hx4)
      have CA2 := hide (all_any x4 b k L HS4.out (by have := HLN.out; omega))
      clear hx4 CP HS3 HBB3 HW3
      go_wp2_with fail
      refine CA2.out.mono ?_
      rintro e x5 ⟨y2, M2, rfl, hp2, hs2, hr2, hx5⟩
      obtain rfl : M2 = M1 := sort_unique hs2 HPM.out.2 (hp2.trans HPM.out.1.symm)
      have HB5 := hide (below_on HB4.out hx5)
      have CS2 := hide (rsamecn_eq M2 y2 wv x5 hr2.row (HW4.out.on hx5) (fun d hd => HOK.out d (HPM.out.1.mem_iff.1 hd)))
      clear hp2 hs2 hr2 hx5 CA2
      go_wp2_with fail
      refine CS2.out.mono ?_
      rintro e x6 ⟨rfl, hx6⟩
      have R := hide (below_on HB5.out hx6)
      clear hx6
      go_wp2
      go_ret
      exact ⟨rfl, R.out⟩
  · generalize W.drew = v0 at *
    have hbn := below_new v0 (.cells P.toArray 47)
    have HB := hide (own_one v0 W.heap.size 47 33 hHeld.size P ⟨HPL.out, HP1.out⟩)
    have HS := hHeld.alloc hHeld.size (.cells P.toArray 47)
    clear hbn
    refine cstep_build1 (by rfl) 33 47 (.tmp 59) rfl _ 33 36 Try.underlying33 infoP (by omega) (by omega) P HPL.out rfl ?_
    refine hK.out _ _ ?_ (fun hHeld => ?_)
    · exact HS
    clear hK K
    try simp only [Act.put, List.setIfInBounds_toArray, List.set_cons_zero, List.set_cons_succ]
    refine wpAnyH_ready (rs := [1]) (by kernel_rfl) (by simp) (AllReadyH.cons (o := { dst := some 52, op := Op.buildSlice 33 0 #[], type := 33, pos := "law.go:199", after := #[], guard := none }) rfl (fun K hK => ?_) AllReadyH.nil)
    generalize v0.alloc (.cells P.toArray 47) = v1 at *
    have hbn := below_new v1 (.cells #[] 47)
    have HD : Hid (∀ g, (Value.slice (some ⟨v1.heap.size, 0, none⟩) 0 0).ownBlock = some g → g ≠ v0.heap.size) := hide (fun g hg => by
      have h1 := (HB.out.lt _ rfl).2
      obtain rfl : v1.heap.size = g := by simpa [Value.ownBlock] using hg
      exact Nat.ne_of_gt h1)
    have HB := hide (HB.out.move (w1 := v1.alloc (.cells #[] 47)) fun g _ hl => hbn.block g hl)
    have HA := hide (own_none v1 W.heap.size 47 33 hHeld.size)
    have HS := hHeld.alloc hHeld.size (.cells #[] 47)
    clear hbn
    refine cstep_build0 (by rfl) 33 47 rfl _ 33 36 Try.underlying33 infoP ?_
    refine hK.out _ _ ?_ (fun hHeld => ?_)
    · exact HS
    clear hK K
    try simp only [Act.put, List.setIfInBounds_toArray, List.set_cons_zero, List.set_cons_succ]
    refine wpAnyH_ready (rs := [6]) (by kernel_rfl) (by simp) (AllReadyH.cons (o := { dst := some 57, op := Op.call { callee := Callee.builtin Builtin.append, args := #[Operand.tmp 52, Operand.tmp 56], argTypes := #[33, 33] }, type := 33, pos := "law.go:199", after := #[{ on := 1, ground := Ground.data }, { on := 5, ground := Ground.data }], guard := none }) rfl (fun K hK => ?_) AllReadyH.nil)
    generalize v1.alloc (.cells #[] 47) = v2 at *
    obtain ⟨u57, v3, hrun, hown, hgr, hwh⟩ := run_append_rows v2 33 47 33 _ 33 36 Try.underlying33 infoP rfl (by omega) (by omega) W.heap.size _ [] HA.out ⟨pb, po, none⟩ (q + 1) pc ((L.map fun c => pC c.pt).take (q + 1)) (head_at (HPW.out.on hHeld) (by omega)) (fun c hc => HE.out c (List.mem_of_mem_take hc)) (by rw [List.length_take, List.length_map]; have := HLN.out; simp; omega) hHeld.size
    rw [List.nil_append] at hown
    have HD2 : Hid (∀ g, u57.ownBlock = some g → g ≠ v0.heap.size) := hide (fun g hg => by
      rcases hwh with h | h
      · exact HD.out g (h.symm.trans hg)
      · have h1 := h g hg
        have h2 := (HB.out.lt _ rfl).2
        exact Nat.ne_of_gt (Nat.lt_of_lt_of_le h2 h1))
    have HB := hide (HB.out.kept hgr (Or.inr fun e => HD.out v0.heap.size e.symm rfl))
    have HD := HD2
    clear HD2
    have HS := hHeld.grown hgr hHeld.size fun j hj => (HA.out.lt j hj).1
    have HA := hide hown
    clear hown hgr hwh
    refine step_app rfl (.tmp 52) (.tmp 56) 33 rfl rfl rfl hrun ?_
    clear hrun
    refine hK.out _ _ ?_ (fun hHeld => ?_)
    · exact HS
    clear hK K
    try simp only [Act.put, List.setIfInBounds_toArray, List.set_cons_zero, List.set_cons_succ]
    refine wpAnyH_ready (rs := [14]) (by kernel_rfl) (by simp) (AllReadyH.cons (o := { dst := some 65, op := Op.call { callee := Callee.builtin Builtin.append, args := #[Operand.tmp 60, Operand.tmp 64], argTypes := #[33, 33] }, type := 33, pos := "law.go:199", after := #[{ on := 9, ground := Ground.data }, { on := 13, ground := Ground.data }, { on := 6, ground := Ground.chain }], guard := none }) rfl (fun K hK => ?_) AllReadyH.nil)
    obtain ⟨u65, v4, hrun, hown, hgr, hwh⟩ := run_append_rows v3 33 47 33 _ 33 36 Try.underlying33 infoP rfl (by omega) (by omega) W.heap.size (.slice (some ⟨v0.heap.size, 0, none⟩) 1 1) [P] HB.out ⟨pb, to, none⟩ (L.length - (q + 1)) (pc - (q + 1)) ((L.map fun c => pC c.pt).drop (q + 1)) (HTL.out.on hHeld) (fun c hc => HE.out c (List.mem_of_mem_drop hc)) (by rw [List.length_drop, List.length_map]; have := HLN.out; simp; omega) hHeld.size
    have HS := hHeld.grown hgr hHeld.size fun j hj => (HB.out.lt j hj).1
    have HA := hide (HA.out.kept hgr (Or.inr fun e => HD.out v0.heap.size e rfl))
    obtain ⟨ua, uc, rfl, -, -⟩ := hown.row.form
    obtain ⟨ub, uo, rfl, -⟩ := hown.row.get (k := 0) (c := P) rfl
    have HR := hide hown.row
    have HRE := hide hown.2
    obtain ⟨un, hun⟩ : ∃ un, un = ([P] ++ (L.map fun c => pC c.pt).drop (q + 1)).length := ⟨_, rfl⟩
    rw [← hun] at hrun HR
    clear hun hown hgr hwh HB HD
    refine step_app rfl (.tmp 60) (.tmp 64) 33 rfl rfl rfl hrun ?_
    clear hrun
    refine hK.out _ _ ?_ (fun hHeld => ?_)
    · exact HS
    clear hK K
    try simp only [Act.put, List.setIfInBounds_toArray, List.set_cons_zero, List.set_cons_succ]
    refine wpAnyH_ready (rs := [15]) (by kernel_rfl) (by simp) (AllReadyH.cons (o := { dst := some 66, op := Op.call { callee := Callee.builtin Builtin.append, args := #[Operand.tmp 57, Operand.tmp 65], argTypes := #[33, 33] }, type := 33, pos := "law.go:199", after := #[{ on := 6, ground := Ground.data }, { on := 14, ground := Ground.data }, { on := 14, ground := Ground.chain }], guard := none }) rfl (fun K hK => ?_) AllReadyH.nil)
    obtain ⟨u66, v5, hrun, hown, hgr, hwh⟩ := run_append_rows v4 33 47 33 _ 33 36 Try.underlying33 infoP rfl (by omega) (by omega) W.heap.size u57 _ HA.out ⟨ub, uo, none⟩ un uc _ HR.out HRE.out (by rw [List.length_append, List.length_take, List.length_drop, List.length_map]; have := HLN.out; simp; omega) hHeld.size
    have HS := hHeld.grown hgr hHeld.size fun j hj => (HA.out.lt j hj).1
    rw [← HPP.out, amid_row] at hown
    have HA := hide hown
    clear hown hgr hwh HR HRE
    refine step_app rfl (.tmp 57) (.tmp 65) 33 rfl rfl rfl hrun ?_
    clear hrun
    refine hK.out _ _ ?_ (fun hHeld => ?_)
    · exact HS
    clear hK K
    try simp only [Act.put, List.setIfInBounds_toArray, List.set_cons_zero, List.set_cons_succ]
    refine wpAnyH_ready (rs := [16]) (by kernel_rfl) (by simp) (AllReadyH.cons (o := { dst := some 67, op := Op.call { callee := Callee.value (Operand.func 14), args := #[Operand.tmp 51, Operand.tmp 66], argTypes := #[25, 33] }, type := 39, pos := "law.go:199", after := #[{ on := 0, ground := Ground.data }, { on := 15, ground := Ground.data }, { on := 15, ground := Ground.chain }], guard := none }) rfl (fun K hK => ?_) AllReadyH.nil)
    have HTK := hide (take_twice v5 b (amid L (q + 1) c.pt) u66 HA.out.row (amid_ok (q + 1) HOK.out HC.out.1) (by rw [amid_length]; have := HLN.out; omega) (amid_twice (q + 1) HIN.out))
    refine cstep_go (vs := #[.pointer (some ⟨b, 0, none⟩), u66]) (by rfl) 14 _ Try.func14 (by kernel_rfl) (by kernel_rfl) _ _ rfl (by simp [Act.eval]) ?_
    refine HTK.out.mono ?_
    rintro e v6 ⟨rfl, hb16⟩
    have HS := below_on hHeld hb16
    clear hb16 HTK HA
    refine ⟨_, rfl, ?_⟩
    refine hK.out _ _ ?_ (fun hHeld => ?_)
    · exact HS
    clear hK K
    try simp only [Act.put, List.setIfInBounds_toArray, List.set_cons_zero, List.set_cons_succ]
    refine wpAnyH_take (i := 17) (oi := { dst := some 50, op := Op.move (Operand.tmp 67), type := 39, pos := "law.go:199", after := #[{ on := 16, ground := Ground.data }], guard := none }) (v := .tuple #[.slice none 0 0, .int .i64 12]) rfl (by kernel_rfl) (by kernel_rfl) (by kernel_rfl) (fun _ _ _ h => h) (Or.inl ⟨by rfl, fun w _ => by go_simp⟩) (by assumption) ?_
    simp only [Act.put, List.setIfInBounds_toArray, List.set_cons_zero, List.set_cons_succ]
    refine wpAnyH_take (i := 18) (oi := { dst := some 68, op := Op.extract (Operand.tmp 50) 0, type := 38, pos := "law.go:199", after := #[{ on := 17, ground := Ground.data }], guard := none }) (v := .slice none 0 0) rfl (by kernel_rfl) (by kernel_rfl) (by kernel_rfl) (fun _ _ _ h => h) (Or.inl ⟨by rfl, fun w _ => by go_simp⟩) (by assumption) ?_
    simp only [Act.put, List.setIfInBounds_toArray, List.set_cons_zero, List.set_cons_succ]
    refine wpAnyH_take (i := 19) (oi := { dst := some 69, op := Op.extract (Operand.tmp 50) 1, type := 26, pos := "law.go:199", after := #[{ on := 17, ground := Ground.data }, { on := 20, ground := Ground.gcOnly Departure.lateStores }], guard := none }) (v := .int .i64 12) rfl (by kernel_rfl) (by kernel_rfl) (by kernel_rfl) (fun _ _ _ h => h) (Or.inl ⟨by rfl, fun w _ => by go_simp⟩) (by assumption) ?_
    simp only [Act.put, List.setIfInBounds_toArray, List.set_cons_zero, List.set_cons_succ]
    refine wpAnyH_take (i := 20) (oi := { dst := some 15, op := Op.assign (Operand.tmp 68), type := 38, pos := "law.go:199", after := #[{ on := 18, ground := Ground.data }, { on := 16, ground := Ground.chain }, { on := 0, ground := Ground.phase }, { on := 1, ground := Ground.phase }, { on := 2, ground := Ground.phase }, { on := 3, ground := Ground.phase }, { on := 4, ground := Ground.phase }, { on := 5, ground := Ground.phase }, { on := 6, ground := Ground.phase }, { on := 7, ground := Ground.phase }, { on := 8, ground := Ground.phase }, { on := 9, ground := Ground.phase }, { on := 10, ground := Ground.phase }, { on := 11, ground := Ground.phase }, { on := 12, ground := Ground.phase }, { on := 13, ground := Ground.phase }, { on := 14, ground := Ground.phase }, { on := 15, ground := Ground.phase }, { on := 16, ground := Ground.phase }, { on := 17, ground := Ground.phase }, { on := 18, ground := Ground.phase }, { on := 19, ground := Ground.textOnly Departure.lateStores }], guard := none }) (v := .slice none 0 0) rfl (by kernel_rfl) (by kernel_rfl) (by kernel_rfl) (fun _ _ _ h => h) (Or.inl ⟨by rfl, fun w _ => by go_simp⟩) (by assumption) ?_
    simp only [Act.put, List.setIfInBounds_toArray, List.set_cons_zero, List.set_cons_succ]
    refine wpAnyH_take (i := 21) (oi := { dst := some 16, op := Op.assign (Operand.tmp 69), type := 26, pos := "law.go:199", after := #[{ on := 19, ground := Ground.data }, { on := 20, ground := Ground.chain }, { on := 0, ground := Ground.phase }, { on := 1, ground := Ground.phase }, { on := 2, ground := Ground.phase }, { on := 3, ground := Ground.phase }, { on := 4, ground := Ground.phase }, { on := 5, ground := Ground.phase }, { on := 6, ground := Ground.phase }, { on := 7, ground := Ground.phase }, { on := 8, ground := Ground.phase }, { on := 9, ground := Ground.phase }, { on := 10, ground := Ground.phase }, { on := 11, ground := Ground.phase }, { on := 12, ground := Ground.phase }, { on := 13, ground := Ground.phase }, { on := 14, ground := Ground.phase }, { on := 15, ground := Ground.phase }, { on := 16, ground := Ground.phase }, { on := 17, ground := Ground.phase }, { on := 18, ground := Ground.phase }, { on := 19, ground := Ground.phase }, { on := 20, ground := Ground.phase }], guard := none }) (v := .int .i64 12) rfl (by kernel_rfl) (by kernel_rfl) (by kernel_rfl) (fun _ _ _ h => h) (Or.inl ⟨by rfl, fun w _ => by go_simp⟩) (by assumption) ?_
    simp only [Act.put, List.setIfInBounds_toArray, List.set_cons_zero, List.set_cons_succ]
    refine wpAnyH_done (by kernel_rfl) ?_ _
    have HSZ := hide (HSW.out.on hHeld)
    have HBZ := hide (below_on HBW.out hHeld)
    have HCZ := hide (range_on HCW.out hHeld)
    have HWZ := hide (HWASW.out.on hHeld)
    have CA1 := hide (all_any v6 b k L HSZ.out (by have := HLN.out; omega))
    clear hHeld HSW HBW HCW HWASW HPW HPTW HTL hw1 hw2 hw3 hw4 hw5
    go_wp2_with fail
    refine CA1.out.mono ?_
    rintro e x1 ⟨y1, M1, rfl, hp1, hs1, hr1, hx1⟩
    obtain rfl : M1 = M := sort_unique hs1 HPM.out.2 (hp1.trans HPM.out.1.symm)
    have HS1 := hide (HSZ.out.on hx1)
    have HB1 := hide (below_on HBZ.out hx1)
    have HC1 := hide (range_on HCZ.out hx1)
    have HW1 := hide (HWZ.out.on hx1)
    have CS1 := hide (rsamecn_eq M1 y1 wv x1 hr1.row HW1.out (fun d hd => HOK.out d (HPM.out.1.mem_iff.1 hd)))
    clear hp1 hs1 hr1 hx1 CA1 HSZ HBZ HCZ HWZ
    go_wp2_with fail
    refine CS1.out.mono ?_
    rintro e x2 ⟨rfl, hx2⟩
    have HS2 := hide (HS1.out.on hx2)
    have HB2 := hide (below_on HB1.out hx2)
    have HC2 := hide (range_on HC1.out hx2)
    have HW2 := hide (HW1.out.on hx2)
    clear hx2 CS1 HS1 HB1 HC1 HW1
    have HC3 := hide (cns_one x2 c HC.out)
    have HB3 := hide (below_new x2 (.cells (cnC c).toArray 59))
    have HS3 := hide (HS2.out.on HB3.out)
    have CP := hide (put_there _ b (some k) L HS3.out [c] _ HC3.out (fun d hd => by rw [List.mem_singleton.1 hd]; exact HC.out) (by simp) (List.pairwise_singleton _ _) ⟨c.pt, by simp, HIN.out⟩)
    have HW3 := hide (HW2.out.on HB3.out)
    have HBB3 := hide (below_on HB2.out HB3.out)
    clear HC3 HB3 HS2 HW2 HB2
    go_wp2_with (first
      | (refine cw_load (by rfl) 59 (.tmp 4) rfl w.heap.size 0 rfl (cnC c) _ HC2.out Try.underlying59 rfl HIC.out ?_)
      | (refine cw_build1 (by rfl) 30 59 (.tmp 88) rfl _ 66 80 Try.underlying30 infoCn (by omega) (by omega) (cnC c) HCL.out rfl ?_))
    generalize x2.alloc (.cells (cnC c).toArray 59) = x3 at *
    refine CP.out.mono ?_
    rintro e x4 ⟨rfl, hx4⟩
    have HS4 := hide (HS3.out.on hx4)
    have HB4 := hide (below_on HBB3.out hx4)
    have HW4 := hide (HW3.out.on hx4)
    have CA2 := hide (all_any x4 b k L HS4.out (by have := HLN.out; omega))
    clear hx4 CP HS3 HBB3 HW3
    go_wp2_with fail
    refine CA2.out.mono ?_
    rintro e x5 ⟨y2, M2, rfl, hp2, hs2, hr2, hx5⟩
    obtain rfl : M2 = M1 := sort_unique hs2 HPM.out.2 (hp2.trans HPM.out.1.symm)
    have HB5 := hide (below_on HB4.out hx5)
    have CS2 := hide (rsamecn_eq M2 y2 wv x5 hr2.row (HW4.out.on hx5) (fun d hd => HOK.out d (HPM.out.1.mem_iff.1 hd)))
    clear hp2 hs2 hr2 hx5 CA2
    go_wp2_with fail
    refine CS2.out.mono ?_
    rintro e x6 ⟨rfl, hx6⟩
    have R := hide (below_on HB5.out hx6)
    clear hx6
    go_wp2
    go_ret
    exact ⟨rfl, R.out⟩
set_option maxRecDepth 100000 in
set_option maxHeartbeats 1000000 in
theorem refuses_out (w : World) (v : Value) (L : List Cn) (c : Cn) (n : Int) (hV : CnsAt w v L) (hok : ∀ c ∈ L, CnOk c) (hc : CnOk c) (hn : 0 ≤ n ∧ n < 256) (hlen : L.length ≤ 300) (hpos : 0 < L.length) (hN : (L.map Cn.pt).Nodup) (hin : c.pt ∉ L.map Cn.pt) :
    Calls Try.prog 7 #[v, .agg (cnC c).toArray, .int .u8 n] w fun e w' => e = .returned (.bool true) ∧ Below w.heap.size w w' := by
  have hb0 := below_new w (.cells (cnC c).toArray 59)
  have CAL := hide (alive9_any (w.alloc (.cells (cnC c).toArray 59)))
  have HB0 := hide hb0
  have HC0 := hide (range_new w (cnC c) 59)
  have HCL := hide (cnC_length hc)
  have HIC : Hid ((Try.prog.info? 59).map (·.size) = some (cnC c).length) := hide (by rw [HCL.out]; exact info_cn)
  have HC := hide hc
  have HV := hide hV
  have HOK := hide hok
  have HN := hide hN
  have HIN := hide hin
  have HLN : Hid (L.length ≤ 300) := hide hlen
  have hne : ¬ (L.length : Int) = 0 := by omega
  obtain ⟨q, hq, hqn⟩ : ∃ q : Nat, q < L.length ∧ (q : Int) = n % (L.length : Int) := ⟨(n % (L.length : Int)).toNat, by
    have h1 := Int.emod_lt_of_pos n (show (0 : Int) < (L.length : Int) by omega)
    have h2 := Int.emod_nonneg n (show (L.length : Int) ≠ 0 by omega)
    omega, by
    have h2 := Int.emod_nonneg n (show (L.length : Int) ≠ 0 by omega)
    omega⟩
  obtain ⟨x, hx⟩ : ∃ x, L[q]? = some x := ⟨_, List.getElem?_eq_getElem hq⟩
  have hxm := List.mem_of_getElem? hx
  have HXM := hide hxm
  have HXL := hide (cnC_length (hok x hxm))
  have HIX : Hid ((Try.prog.info? 59).map (·.size) = some (cnC x).length) := hide (by rw [HXL.out]; exact info_cn)
  have HQN := hide hqn
  have HQ := hide hq
  obtain ⟨a, cap, rfl, hc1, hc2⟩ := hV.form
  obtain ⟨lb, lo, rfl, hlr⟩ := hV.get hx
  have HLR := hide hlr
  have HML := hide (fun w' => many_no L.length (some ⟨lb, lo, none⟩) cap w' hlen)
  have hle : (L.length : Int) ≤ 300 := by omega
  clear hV hlen hb0 hok hN hc hin hqn hx hxm hlr
  go_enter Try.func7, Try.ntmps7
  go_upto_region 1 with fail
  generalize w.alloc (.cells (cnC c).toArray 59) = W0 at *
  go_wp2_with fail
  refine CAL.out.mono ?_
  rintro e w1 ⟨rfl, hb1⟩
  have HB1 := hide (below_on HB0.out hb1)
  have HC1 := hide (range_on HC0.out hb1)
  have CN := hide (new_ok L _ w1 (HV.out.on HB1.out) HOK.out (by have := HLN.out; omega) HN.out)
  clear hb1 CAL HC0 HB0
  go_wp2_with fail
  refine (HML.out w1).mono ?_
  rintro e w2 ⟨rfl, hw2⟩
  rw [hw2]
  clear hw2
  -- New
  go_wp2_with fail
  refine CN.out.mono ?_
  rintro e w2 ⟨b, k, rfl, hset, hbb, hkb, hb2⟩
  have HS2 := hide hset
  have HB2 := hide (below_on HB1.out hb2)
  have HC2 := hide (range_on HC1.out hb2)
  have CA := hide (all_any w2 b k L hset (by have := HLN.out; omega))
  clear hset hbb hkb hb2 CN HB1 HC1 HML
  -- All
  go_wp2_with fail
  refine CA.out.mono ?_
  rintro e w3 ⟨wv, M, rfl, hp, hs, hr, hb3⟩
  have HWAS3 : Hid (CnsAt w3 wv M) := hide hr.row
  have HPM := hide (show M.Perm L ∧ SortC M from ⟨hp, hs⟩)
  have HS3 := hide (HS2.out.on hb3)
  have HB3 := hide (below_on HB2.out hb3)
  have HC3 := hide (range_on HC2.out hb3)
  have CR := hide (rats_any L _ w3 (HV.out.on HB3.out) HOK.out (by have := HLN.out; omega))
  clear hp hs hr hb3 CA HS2 HB2 HC2
  -- Ats
  go_wp2_with fail
  refine CR.out.mono ?_
  rintro e w4 ⟨pv, rfl, hb4, hrow⟩
  have HWAS4 := hide (HWAS3.out.on hb4)
  have HS4 := hide (HS3.out.on hb4)
  have HB4 := hide (below_on HB3.out hb4)
  have HC4 := hide (range_on HC3.out hb4)
  have hrat : RowAt w4 33 pv (L.map fun c => pC c.pt) := hrow.row
  have HE := hide hrow.2
  obtain ⟨pa, pc, rfl, hpc1, hpc2⟩ := hrow.row.form
  rw [List.length_map] at hpc1 hrat ⊢
  obtain ⟨c0, hc0⟩ : ∃ c0, (L.map fun c => pC c.pt)[0]? = some c0 := ⟨_, List.getElem?_eq_getElem (by rw [List.length_map]; omega)⟩
  obtain ⟨pb, po, rfl, -⟩ := hrat.get hc0
  have HP4 := hide hrat
  clear hb4 hrow hrat hc0 CR HS3 HB3 HC3 HWAS3
  -- Find
  have HPT : Hid (w4.rangeAt w.heap.size 0 (pC c.pt)) := hide (cn_range HC4.out HC.out).1
  have HIP : Hid ((Try.prog.info? 47).map (·.size) = some (pC c.pt).length) := hide (by rw [pC_length HC.out.1]; exact info_pt)
  obtain ⟨o, hl⟩ : ∃ o, Looks L c.pt o false := ⟨noOut, Or.inr ⟨rfl, HIN.out, rfl⟩⟩
  have hol := outC_length (hl.lock HS4.out.ok.2)
  have HIO : Hid ((Try.prog.info? 50).map (·.size) = some (outC o).length) := hide (by rw [hol]; exact info_out)
  have HTO : Hid (∀ w : World, (w.alloc (.cells #[.int .u64 0, .int .u8 0, .int .u8 0, .int .u8 0, .int .u8 0, .int .u8 0, .int .u8 0, .int .u8 0, .int .u8 0, .int .u8 0, .int .u8 0, .int .u8 0, .int .u8 0, .int .u8 0, .int .u8 0, .int .u8 0, .int .u8 0, .int .u8 0, .int .u8 0, .int .u8 0, .int .u8 0, .int .u8 0, .int .u8 0, .int .u8 0, .int .u8 0, .int .u8 0, .int .u8 0, .int .u8 0, .int .u8 0, .int .u8 0, .int .u8 0, .int .u8 0, .int .u8 0] 50)).there w.heap.size 0 (outC o).length) := hide (fun w => by rw [hol]; exact o_there w)
  have HX1 := hide (outC_one o)
  have CF := hide (find_any w4 b _ _ HS4.out c.pt HC.out.1 o false hl)
  have HPL : Hid ((pC c.pt).length = 33) := hide (pC_length HC.out.1)
  have HP1 := hide (pC_one c.pt)
  clear hl hol
  have HPC : Hid (q + 1 ≤ pc ∧ pc ≤ 9223372036854775807) := hide ⟨by omega, hpc2⟩
  have hqi : (q : Int) < (L.length : Int) := by omega
  go_upto_region 12 with fail
  rw [← HQN.out]
  clear HQN hpc1 hpc2
  generalize hP : pC c.pt = P at *
  have HPP := hide hP
  clear hP
  generalize outC o = X at *
  go_wp2_with (first
    | (refine wpList_load_mid rfl 47 (.tmp 44) rfl w.heap.size 0 rfl P _ HPT.out Try.underlying47 rfl HIP.out ?_))
  refine CF.out.mono ?_
  rintro e w5 ⟨rfl, hb5⟩
  have HWAS5 := hide (HWAS4.out.on hb5)
  have HS5 := hide (HS4.out.on hb5)
  have HB5 := hide (below_on HB4.out hb5)
  have HC5 := hide (range_on HC4.out hb5)
  have HP5 := hide (HP4.out.on hb5)
  have HPT5 := hide (range_on HPT.out hb5)
  clear hb5 HWAS4 HS4 HB4 HC4 HP4 HPT CF
  go_upto_region 13 with ((with_reducible show wpList _ _ _ (_ :: _) _ _); refine wp_store_row rfl 50 (.tmp 13) (.tmp 47) rfl w5.heap.size 0 X rfl rfl (HTO.out w5) HIO.out HX1.out ?_)
  have hbn : Below w5.heap.size w5 ((w5.alloc (.cells #[.int .u64 0, .int .u8 0, .int .u8 0, .int .u8 0, .int .u8 0, .int .u8 0, .int .u8 0, .int .u8 0, .int .u8 0, .int .u8 0, .int .u8 0, .int .u8 0, .int .u8 0, .int .u8 0, .int .u8 0, .int .u8 0, .int .u8 0, .int .u8 0, .int .u8 0, .int .u8 0, .int .u8 0, .int .u8 0, .int .u8 0, .int .u8 0, .int .u8 0, .int .u8 0, .int .u8 0, .int .u8 0, .int .u8 0, .int .u8 0, .int .u8 0, .int .u8 0, .int .u8 0] 50)).setCells w5.heap.size 0 X) := below_sets (Nat.le_refl _) _ _ _ (below_new w5 _)
  generalize (w5.alloc (.cells #[.int .u64 0, .int .u8 0, .int .u8 0, .int .u8 0, .int .u8 0, .int .u8 0, .int .u8 0, .int .u8 0, .int .u8 0, .int .u8 0, .int .u8 0, .int .u8 0, .int .u8 0, .int .u8 0, .int .u8 0, .int .u8 0, .int .u8 0, .int .u8 0, .int .u8 0, .int .u8 0, .int .u8 0, .int .u8 0, .int .u8 0, .int .u8 0, .int .u8 0, .int .u8 0, .int .u8 0, .int .u8 0, .int .u8 0, .int .u8 0, .int .u8 0, .int .u8 0, .int .u8 0] 50)).setCells w5.heap.size 0 X = W at *
  have HWASW := hide (HWAS5.out.on hbn)
  have HSW := hide (HS5.out.on hbn)
  have HBW := hide (below_on HB5.out hbn)
  have HCW := hide (range_on HC5.out hbn)
  have HPW := hide (HP5.out.on hbn)
  have HPTW := hide (range_on HPT5.out hbn)
  clear hbn HWAS5 HS5 HB5 HC5 HP5 HPT5 HTO HIO HX1
  go_upto_region 15 with fail
  have hw1 : IntKind.i64.wrap ((q : Int) + 1) = (q : Int) + 1 := by simp [IntKind.wrap, IntKind.bits, IntKind.signed]; omega
  have hw2 : (0 : Int) ≤ (q : Int) + 1 := by omega
  have hw3 : ¬ (pc : Int) < (q : Int) + 1 := by have := HPC.out; omega
  have hw4 : (q : Int) + 1 ≤ (L.length : Int) := by omega
  obtain ⟨to, hw5, htl⟩ := tail_at2 HPW.out (k := q + 1) hq
  have HTL := hide htl
  clear htl
  refine wp_region_held_drew (S := fun wx => Below W.heap.size W wx) (by kernel_rfl) (Below.refl _ _).drew (fun hHeld => ?_)
  refine wpAnyH_take (i := 0) (oi := { dst := some 51, op := Op.move (Operand.tmp 7), type := 25, pos := "law.go:199", after := #[], guard := none }) (v := .pointer (some ⟨b, 0, none⟩)) rfl (by kernel_rfl) (by kernel_rfl) (by kernel_rfl) (fun _ _ _ h => h) (Or.inl ⟨by rfl, fun w _ => by go_simp⟩) (by assumption) ?_
  simp only [Act.put, List.setIfInBounds_toArray, List.set_cons_zero, List.set_cons_succ]
  refine wpAnyH_take (i := 2) (oi := { dst := some 53, op := Op.move (Operand.tmp 10), type := 33, pos := "law.go:199", after := #[], guard := none }) (v := .slice (some ⟨pb, po, none⟩) L.length pc) rfl (by kernel_rfl) (by kernel_rfl) (by kernel_rfl) (fun _ _ _ h => h) (Or.inl ⟨by rfl, fun w _ => by go_simp⟩) (by assumption) ?_
  simp only [Act.put, List.setIfInBounds_toArray, List.set_cons_zero, List.set_cons_succ]
  refine wpAnyH_take (i := 3) (oi := { dst := some 54, op := Op.move (Operand.tmp 11), type := 3, pos := "law.go:199", after := #[], guard := none }) (v := .int .i64 q) rfl (by kernel_rfl) (by kernel_rfl) (by kernel_rfl) (fun _ _ _ h => h) (Or.inl ⟨by rfl, fun w _ => by go_simp⟩) (by assumption) ?_
  simp only [Act.put, List.setIfInBounds_toArray, List.set_cons_zero, List.set_cons_succ]
  refine wpAnyH_take (i := 4) (oi := { dst := some 55, op := Op.binOp BinOp.add 3 (Operand.tmp 54) (Operand.const (Value.int IntKind.i64 1)) 3, type := 3, pos := "law.go:199", after := #[{ on := 3, ground := Ground.data }], guard := none }) (v := .int .i64 ((q : Int) + 1)) rfl (by kernel_rfl) (by kernel_rfl) (by kernel_rfl) (fun _ _ _ h => h) (Or.inl ⟨by rfl, fun w _ => by go_simp⟩) (by assumption) ?_
  simp only [Act.put, List.setIfInBounds_toArray, List.set_cons_zero, List.set_cons_succ]
  refine wpAnyH_take (i := 5) (oi := { dst := some 56, op := Op.slice 33 (Operand.tmp 53) none (some (Operand.tmp 55)) none, type := 33, pos := "law.go:199", after := #[{ on := 2, ground := Ground.data }, { on := 4, ground := Ground.data }], guard := none }) (v := .slice (some ⟨pb, po, none⟩) (q + 1) pc) rfl (by kernel_rfl) (by kernel_rfl) (by kernel_rfl) (fun _ _ _ h => h) (Or.inl ⟨by rfl, fun w _ => by go_simp⟩) (by assumption) ?_
  simp only [Act.put, List.setIfInBounds_toArray, List.set_cons_zero, List.set_cons_succ]
  refine wpAnyH_take (i := 7) (oi := { dst := some 58, op := Op.fieldAddr 59 (Operand.tmp 4) 0, type := 0, pos := "law.go:199", after := #[], guard := none }) (v := .pointer (some ⟨w.heap.size, 0, none⟩)) rfl (by kernel_rfl) (by kernel_rfl) (by kernel_rfl) (fun _ _ _ h => h) (Or.inl ⟨by rfl, fun w _ => by go_simp⟩) (by assumption) ?_
  simp only [Act.put, List.setIfInBounds_toArray, List.set_cons_zero, List.set_cons_succ]
  refine wpAnyH_take (i := 8) (oi := { dst := some 59, op := Op.load 47 (Operand.tmp 58), type := 47, pos := "law.go:199", after := #[{ on := 7, ground := Ground.data }], guard := none }) (v := .agg (P).toArray) rfl (by kernel_rfl) (by kernel_rfl) (by kernel_rfl) (fun _ _ _ h => h) (yieldsIf_load_mid (by rfl) 47 (.tmp 58) rfl w.heap.size 0 rfl (P) _ (fun w h => range_on HPTW.out h) Try.underlying47 rfl HIP.out) (by assumption) ?_
  simp only [Act.put, List.setIfInBounds_toArray, List.set_cons_zero, List.set_cons_succ]
  refine wpAnyH_take (i := 10) (oi := { dst := some 61, op := Op.move (Operand.tmp 10), type := 33, pos := "law.go:199", after := #[], guard := none }) (v := .slice (some ⟨pb, po, none⟩) L.length pc) rfl (by kernel_rfl) (by kernel_rfl) (by kernel_rfl) (fun _ _ _ h => h) (Or.inl ⟨by rfl, fun w _ => by go_simp⟩) (by assumption) ?_
  simp only [Act.put, List.setIfInBounds_toArray, List.set_cons_zero, List.set_cons_succ]
  refine wpAnyH_take (i := 11) (oi := { dst := some 62, op := Op.move (Operand.tmp 11), type := 3, pos := "law.go:199", after := #[], guard := none }) (v := .int .i64 q) rfl (by kernel_rfl) (by kernel_rfl) (by kernel_rfl) (fun _ _ _ h => h) (Or.inl ⟨by rfl, fun w _ => by go_simp⟩) (by assumption) ?_
  simp only [Act.put, List.setIfInBounds_toArray, List.set_cons_zero, List.set_cons_succ]
  refine wpAnyH_take (i := 12) (oi := { dst := some 63, op := Op.binOp BinOp.add 3 (Operand.tmp 62) (Operand.const (Value.int IntKind.i64 1)) 3, type := 3, pos := "law.go:199", after := #[{ on := 11, ground := Ground.data }], guard := none }) (v := .int .i64 ((q : Int) + 1)) rfl (by kernel_rfl) (by kernel_rfl) (by kernel_rfl) (fun _ _ _ h => h) (Or.inl ⟨by rfl, fun w _ => by go_simp⟩) (by assumption) ?_
  simp only [Act.put, List.setIfInBounds_toArray, List.set_cons_zero, List.set_cons_succ]
  refine wpAnyH_take (i := 13) (oi := { dst := some 64, op := Op.slice 33 (Operand.tmp 61) (some (Operand.tmp 63)) none none, type := 33, pos := "law.go:199", after := #[{ on := 10, ground := Ground.data }, { on := 12, ground := Ground.data }], guard := none }) (v := .slice (some ⟨pb, to, none⟩) (L.length - (q + 1)) (pc - (q + 1))) rfl (by kernel_rfl) (by kernel_rfl) (by kernel_rfl) (fun _ _ _ h => h) (Or.inl ⟨by rfl, fun w _ => by go_simp⟩) (by assumption) ?_
  simp only [Act.put, List.setIfInBounds_toArray, List.set_cons_zero, List.set_cons_succ]
  refine wpAnyH_ready (rs := [1, 9]) (by kernel_rfl) (by simp) (AllReadyH.cons (o := { dst := some 52, op := Op.buildSlice 33 0 #[], type := 33, pos := "law.go:199", after := #[], guard := none }) rfl (fun K hK => ?_) (AllReadyH.cons (o := { dst := some 60, op := Op.buildSlice 33 1 #[(0, Operand.tmp 59)], type := 33, pos := "law.go:199", after := #[{ on := 8, ground := Ground.data }], guard := none }) rfl (fun K hK => ?_) AllReadyH.nil))
  · generalize W.drew = v0 at *
    have hbn := below_new v0 (.cells #[] 47)
    have HA := hide (own_none v0 W.heap.size 47 33 hHeld.size)
    have HS := hHeld.alloc hHeld.size (.cells #[] 47)
    clear hbn
    refine cstep_build0 (by rfl) 33 47 rfl _ 33 36 Try.underlying33 infoP ?_
    refine hK.out _ _ ?_ (fun hHeld => ?_)
    · exact HS
    clear hK K
    try simp only [Act.put, List.setIfInBounds_toArray, List.set_cons_zero, List.set_cons_succ]
    refine wpAnyH_ready (rs := [6, 9]) (by kernel_rfl) (by simp) (AllReadyH.cons (o := { dst := some 57, op := Op.call { callee := Callee.builtin Builtin.append, args := #[Operand.tmp 52, Operand.tmp 56], argTypes := #[33, 33] }, type := 33, pos := "law.go:199", after := #[{ on := 1, ground := Ground.data }, { on := 5, ground := Ground.data }], guard := none }) rfl (fun K hK => ?_) (AllReadyH.cons (o := { dst := some 60, op := Op.buildSlice 33 1 #[(0, Operand.tmp 59)], type := 33, pos := "law.go:199", after := #[{ on := 8, ground := Ground.data }], guard := none }) rfl (fun K hK => ?_) AllReadyH.nil))
    · generalize v0.alloc (.cells #[] 47) = v1 at *
      obtain ⟨u57, v2, hrun, hown, hgr, hwh⟩ := run_append_rows v1 33 47 33 _ 33 36 Try.underlying33 infoP rfl (by omega) (by omega) W.heap.size _ [] HA.out ⟨pb, po, none⟩ (q + 1) pc ((L.map fun c => pC c.pt).take (q + 1)) (head_at (HPW.out.on hHeld) (by omega)) (fun c hc => HE.out c (List.mem_of_mem_take hc)) (by rw [List.length_take, List.length_map]; have := HLN.out; simp; omega) hHeld.size
      rw [List.nil_append] at hown
      have HS := hHeld.grown hgr hHeld.size fun j hj => (HA.out.lt j hj).1
      have HA := hide hown
      clear hown hgr hwh
      refine step_app rfl (.tmp 52) (.tmp 56) 33 rfl rfl rfl hrun ?_
      clear hrun
      refine hK.out _ _ ?_ (fun hHeld => ?_)
      · exact HS
      clear hK K
      try simp only [Act.put, List.setIfInBounds_toArray, List.set_cons_zero, List.set_cons_succ]
      refine wpAnyH_ready (rs := [9]) (by kernel_rfl) (by simp) (AllReadyH.cons (o := { dst := some 60, op := Op.buildSlice 33 1 #[(0, Operand.tmp 59)], type := 33, pos := "law.go:199", after := #[{ on := 8, ground := Ground.data }], guard := none }) rfl (fun K hK => ?_) AllReadyH.nil)
      have hbn := below_new v2 (.cells P.toArray 47)
      have HD := hide (fun g hg => show g ≠ v2.heap.size from Nat.ne_of_lt (HA.out.lt g hg).2)
      have HA := hide (HA.out.move (w1 := v2.alloc (.cells P.toArray 47)) fun g _ hl => hbn.block g hl)
      have HB := hide (own_one v2 W.heap.size 47 33 hHeld.size P ⟨HPL.out, HP1.out⟩)
      have HS := hHeld.alloc hHeld.size (.cells P.toArray 47)
      clear hbn
      refine cstep_build1 (by rfl) 33 47 (.tmp 59) rfl _ 33 36 Try.underlying33 infoP (by omega) (by omega) P HPL.out rfl ?_
      refine hK.out _ _ ?_ (fun hHeld => ?_)
      · exact HS
      clear hK K
      try simp only [Act.put, List.setIfInBounds_toArray, List.set_cons_zero, List.set_cons_succ]
      refine wpAnyH_ready (rs := [14]) (by kernel_rfl) (by simp) (AllReadyH.cons (o := { dst := some 65, op := Op.call { callee := Callee.builtin Builtin.append, args := #[Operand.tmp 60, Operand.tmp 64], argTypes := #[33, 33] }, type := 33, pos := "law.go:199", after := #[{ on := 9, ground := Ground.data }, { on := 13, ground := Ground.data }, { on := 6, ground := Ground.chain }], guard := none }) rfl (fun K hK => ?_) AllReadyH.nil)
      generalize v2.alloc (.cells P.toArray 47) = v3 at *
      obtain ⟨u65, v4, hrun, hown, hgr, hwh⟩ := run_append_rows v3 33 47 33 _ 33 36 Try.underlying33 infoP rfl (by omega) (by omega) W.heap.size (.slice (some ⟨v2.heap.size, 0, none⟩) 1 1) [P] HB.out ⟨pb, to, none⟩ (L.length - (q + 1)) (pc - (q + 1)) ((L.map fun c => pC c.pt).drop (q + 1)) (HTL.out.on hHeld) (fun c hc => HE.out c (List.mem_of_mem_drop hc)) (by rw [List.length_drop, List.length_map]; have := HLN.out; simp; omega) hHeld.size
      have HS := hHeld.grown hgr hHeld.size fun j hj => (HB.out.lt j hj).1
      have HA := hide (HA.out.kept hgr (Or.inr fun e => HD.out v2.heap.size e rfl))
      obtain ⟨ua, uc, rfl, -, -⟩ := hown.row.form
      obtain ⟨ub, uo, rfl, -⟩ := hown.row.get (k := 0) (c := P) rfl
      have HR := hide hown.row
      have HRE := hide hown.2
      obtain ⟨un, hun⟩ : ∃ un, un = ([P] ++ (L.map fun c => pC c.pt).drop (q + 1)).length := ⟨_, rfl⟩
      rw [← hun] at hrun HR
      clear hun hown hgr hwh HB HD
      refine step_app rfl (.tmp 60) (.tmp 64) 33 rfl rfl rfl hrun ?_
      clear hrun
      refine hK.out _ _ ?_ (fun hHeld => ?_)
      · exact HS
      clear hK K
      try simp only [Act.put, List.setIfInBounds_toArray, List.set_cons_zero, List.set_cons_succ]
      refine wpAnyH_ready (rs := [15]) (by kernel_rfl) (by simp) (AllReadyH.cons (o := { dst := some 66, op := Op.call { callee := Callee.builtin Builtin.append, args := #[Operand.tmp 57, Operand.tmp 65], argTypes := #[33, 33] }, type := 33, pos := "law.go:199", after := #[{ on := 6, ground := Ground.data }, { on := 14, ground := Ground.data }, { on := 14, ground := Ground.chain }], guard := none }) rfl (fun K hK => ?_) AllReadyH.nil)
      obtain ⟨u66, v5, hrun, hown, hgr, hwh⟩ := run_append_rows v4 33 47 33 _ 33 36 Try.underlying33 infoP rfl (by omega) (by omega) W.heap.size u57 _ HA.out ⟨ub, uo, none⟩ un uc _ HR.out HRE.out (by rw [List.length_append, List.length_take, List.length_drop, List.length_map]; have := HLN.out; simp; omega) hHeld.size
      have HS := hHeld.grown hgr hHeld.size fun j hj => (HA.out.lt j hj).1
      rw [← HPP.out, amid_row] at hown
      have HA := hide hown
      clear hown hgr hwh HR HRE
      refine step_app rfl (.tmp 57) (.tmp 65) 33 rfl rfl rfl hrun ?_
      clear hrun
      refine hK.out _ _ ?_ (fun hHeld => ?_)
      · exact HS
      clear hK K
      try simp only [Act.put, List.setIfInBounds_toArray, List.set_cons_zero, List.set_cons_succ]
      refine wpAnyH_ready (rs := [16]) (by kernel_rfl) (by simp) (AllReadyH.cons (o := { dst := some 67, op := Op.call { callee := Callee.value (Operand.func 14), args := #[Operand.tmp 51, Operand.tmp 66], argTypes := #[25, 33] }, type := 39, pos := "law.go:199", after := #[{ on := 0, ground := Ground.data }, { on := 15, ground := Ground.data }, { on := 15, ground := Ground.chain }], guard := none }) rfl (fun K hK => ?_) AllReadyH.nil)
      have HTK := hide (take_none v5 b (some k) L (HSW.out.on hHeld) (amid L (q + 1) c.pt) u66 (own_keeps (P := off b ((some k).getD b)) HA.out fun g h1 _ => ⟨by have := HSW.out.lt; omega, by have := (HSW.out.2.2.2 k rfl).2.lt; simp; omega⟩) (amid_ok (q + 1) HOK.out HC.out.1) (by rw [amid_length]; have := HLN.out; omega) (amid_once (q + 1) HIN.out HN.out) ⟨c.pt, amid_new _ _ _, HIN.out⟩)
      refine cstep_go (vs := #[.pointer (some ⟨b, 0, none⟩), u66]) (by rfl) 14 _ Try.func14 (by kernel_rfl) (by kernel_rfl) _ _ rfl (by simp [Act.eval]) ?_
      refine HTK.out.mono ?_
      rintro e v6 ⟨rfl, hb16⟩
      have HS := below_on hHeld hb16
      clear hb16 HTK HA
      refine ⟨_, rfl, ?_⟩
      refine hK.out _ _ ?_ (fun hHeld => ?_)
      · exact HS
      clear hK K
      try simp only [Act.put, List.setIfInBounds_toArray, List.set_cons_zero, List.set_cons_succ]
      refine wpAnyH_take (i := 17) (oi := { dst := some 50, op := Op.move (Operand.tmp 67), type := 39, pos := "law.go:199", after := #[{ on := 16, ground := Ground.data }], guard := none }) (v := .tuple #[.slice none 0 0, .int .i64 9]) rfl (by kernel_rfl) (by kernel_rfl) (by kernel_rfl) (fun _ _ _ h => h) (Or.inl ⟨by rfl, fun w _ => by go_simp⟩) (by assumption) ?_
      simp only [Act.put, List.setIfInBounds_toArray, List.set_cons_zero, List.set_cons_succ]
      refine wpAnyH_take (i := 18) (oi := { dst := some 68, op := Op.extract (Operand.tmp 50) 0, type := 38, pos := "law.go:199", after := #[{ on := 17, ground := Ground.data }], guard := none }) (v := .slice none 0 0) rfl (by kernel_rfl) (by kernel_rfl) (by kernel_rfl) (fun _ _ _ h => h) (Or.inl ⟨by rfl, fun w _ => by go_simp⟩) (by assumption) ?_
      simp only [Act.put, List.setIfInBounds_toArray, List.set_cons_zero, List.set_cons_succ]
      refine wpAnyH_take (i := 19) (oi := { dst := some 69, op := Op.extract (Operand.tmp 50) 1, type := 26, pos := "law.go:199", after := #[{ on := 17, ground := Ground.data }, { on := 20, ground := Ground.gcOnly Departure.lateStores }], guard := none }) (v := .int .i64 9) rfl (by kernel_rfl) (by kernel_rfl) (by kernel_rfl) (fun _ _ _ h => h) (Or.inl ⟨by rfl, fun w _ => by go_simp⟩) (by assumption) ?_
      simp only [Act.put, List.setIfInBounds_toArray, List.set_cons_zero, List.set_cons_succ]
      refine wpAnyH_take (i := 20) (oi := { dst := some 15, op := Op.assign (Operand.tmp 68), type := 38, pos := "law.go:199", after := #[{ on := 18, ground := Ground.data }, { on := 16, ground := Ground.chain }, { on := 0, ground := Ground.phase }, { on := 1, ground := Ground.phase }, { on := 2, ground := Ground.phase }, { on := 3, ground := Ground.phase }, { on := 4, ground := Ground.phase }, { on := 5, ground := Ground.phase }, { on := 6, ground := Ground.phase }, { on := 7, ground := Ground.phase }, { on := 8, ground := Ground.phase }, { on := 9, ground := Ground.phase }, { on := 10, ground := Ground.phase }, { on := 11, ground := Ground.phase }, { on := 12, ground := Ground.phase }, { on := 13, ground := Ground.phase }, { on := 14, ground := Ground.phase }, { on := 15, ground := Ground.phase }, { on := 16, ground := Ground.phase }, { on := 17, ground := Ground.phase }, { on := 18, ground := Ground.phase }, { on := 19, ground := Ground.textOnly Departure.lateStores }], guard := none }) (v := .slice none 0 0) rfl (by kernel_rfl) (by kernel_rfl) (by kernel_rfl) (fun _ _ _ h => h) (Or.inl ⟨by rfl, fun w _ => by go_simp⟩) (by assumption) ?_
      simp only [Act.put, List.setIfInBounds_toArray, List.set_cons_zero, List.set_cons_succ]
      refine wpAnyH_take (i := 21) (oi := { dst := some 16, op := Op.assign (Operand.tmp 69), type := 26, pos := "law.go:199", after := #[{ on := 19, ground := Ground.data }, { on := 20, ground := Ground.chain }, { on := 0, ground := Ground.phase }, { on := 1, ground := Ground.phase }, { on := 2, ground := Ground.phase }, { on := 3, ground := Ground.phase }, { on := 4, ground := Ground.phase }, { on := 5, ground := Ground.phase }, { on := 6, ground := Ground.phase }, { on := 7, ground := Ground.phase }, { on := 8, ground := Ground.phase }, { on := 9, ground := Ground.phase }, { on := 10, ground := Ground.phase }, { on := 11, ground := Ground.phase }, { on := 12, ground := Ground.phase }, { on := 13, ground := Ground.phase }, { on := 14, ground := Ground.phase }, { on := 15, ground := Ground.phase }, { on := 16, ground := Ground.phase }, { on := 17, ground := Ground.phase }, { on := 18, ground := Ground.phase }, { on := 19, ground := Ground.phase }, { on := 20, ground := Ground.phase }], guard := none }) (v := .int .i64 9) rfl (by kernel_rfl) (by kernel_rfl) (by kernel_rfl) (fun _ _ _ h => h) (Or.inl ⟨by rfl, fun w _ => by go_simp⟩) (by assumption) ?_
      simp only [Act.put, List.setIfInBounds_toArray, List.set_cons_zero, List.set_cons_succ]
      refine wpAnyH_done (by kernel_rfl) ?_ _
      have HSZ := hide (HSW.out.on hHeld)
      have HBZ := hide (below_on HBW.out hHeld)
      have HCZ := hide (range_on HCW.out hHeld)
      have HWZ := hide (HWASW.out.on hHeld)
      have CA1 := hide (all_any v6 b k L HSZ.out (by have := HLN.out; omega))
      clear hHeld HSW HBW HCW HWASW HPW HPTW HTL hw1 hw2 hw3 hw4 hw5
      go_wp2_with fail
      refine CA1.out.mono ?_
      rintro e x1 ⟨y1, M1, rfl, hp1, hs1, hr1, hx1⟩
      obtain rfl : M1 = M := sort_unique hs1 HPM.out.2 (hp1.trans HPM.out.1.symm)
      have HS1 := hide (HSZ.out.on hx1)
      have HB1 := hide (below_on HBZ.out hx1)
      have HC1 := hide (range_on HCZ.out hx1)
      have HW1 := hide (HWZ.out.on hx1)
      have CS1 := hide (rsamecn_eq M1 y1 wv x1 hr1.row HW1.out (fun d hd => HOK.out d (HPM.out.1.mem_iff.1 hd)))
      clear hp1 hs1 hr1 hx1 CA1 HSZ HBZ HCZ HWZ
      go_wp2_with fail
      refine CS1.out.mono ?_
      rintro e x2 ⟨rfl, hx2⟩
      have HS2 := hide (HS1.out.on hx2)
      have HB2 := hide (below_on HB1.out hx2)
      have HC2 := hide (range_on HC1.out hx2)
      have HW2 := hide (HW1.out.on hx2)
      clear hx2 CS1 HS1 HB1 HC1 HW1
      go_upto_region 20 with fail
      have HLX := hide (range_on HLR.out HB2.out)
      have HOK2 : Hid (∀ d ∈ [c, x], CnOk d) := hide (fun d hd => by
        rcases List.mem_cons.1 hd with h | h
        · rw [h]; exact HC.out
        · rw [List.mem_singleton.1 h]; exact HOK.out x HXM.out)
      have HOK3 : Hid (∀ d ∈ [c, c, x], CnOk d) := hide (fun d hd => by
        rcases List.mem_cons.1 hd with h | h
        · rw [h]; exact HC.out
        · exact HOK2.out d h)
      have HNX2 : Hid (([c, x].map Cn.pt).Nodup) := hide (by
        rw [List.map_cons, List.map_cons, List.map_nil, List.nodup_cons]
        exact ⟨fun h => HIN.out (by rw [List.mem_singleton.1 h]; exact mem_pt HXM.out), List.pairwise_singleton _ _⟩)
      refine wp_region_held_drew (S := fun wx => Below x2.heap.size x2 wx) (by kernel_rfl) (Below.refl _ _).drew (fun hHeld => ?_)
      refine wpAnyH_take (i := 0) (oi := { dst := some 98, op := Op.move (Operand.tmp 7), type := 25, pos := "law.go:206", after := #[], guard := none }) (v := .pointer (some ⟨b, 0, none⟩)) rfl (by kernel_rfl) (by kernel_rfl) (by kernel_rfl) (fun _ _ _ h => h) (Or.inl ⟨by rfl, fun w _ => by go_simp⟩) (by assumption) ?_
      simp only [Act.put, List.setIfInBounds_toArray, List.set_cons_zero, List.set_cons_succ]
      refine wpAnyH_take (i := 1) (oi := { dst := some 99, op := Op.load 59 (Operand.tmp 4), type := 59, pos := "law.go:206", after := #[], guard := none }) (v := .agg (cnC c).toArray) rfl (by kernel_rfl) (by kernel_rfl) (by kernel_rfl) (fun _ _ _ h => h) (yieldsIf_load_mid (by rfl) 59 (.tmp 4) rfl w.heap.size 0 rfl (cnC c) _ (fun w h => range_on HC2.out h) Try.underlying59 rfl HIC.out) (by assumption) ?_
      simp only [Act.put, List.setIfInBounds_toArray, List.set_cons_zero, List.set_cons_succ]
      refine wpAnyH_take (i := 2) (oi := { dst := some 100, op := Op.move (Operand.tmp 0), type := 30, pos := "law.go:206", after := #[], guard := none }) (v := .slice (some ⟨lb, lo, none⟩) L.length cap) rfl (by kernel_rfl) (by kernel_rfl) (by kernel_rfl) (fun _ _ _ h => h) (Or.inl ⟨by rfl, fun w _ => by go_simp⟩) (by assumption) ?_
      simp only [Act.put, List.setIfInBounds_toArray, List.set_cons_zero, List.set_cons_succ]
      refine wpAnyH_take (i := 3) (oi := { dst := some 101, op := Op.move (Operand.tmp 11), type := 3, pos := "law.go:206", after := #[], guard := none }) (v := .int .i64 q) rfl (by kernel_rfl) (by kernel_rfl) (by kernel_rfl) (fun _ _ _ h => h) (Or.inl ⟨by rfl, fun w _ => by go_simp⟩) (by assumption) ?_
      simp only [Act.put, List.setIfInBounds_toArray, List.set_cons_zero, List.set_cons_succ]
      refine wpAnyH_take (i := 4) (oi := { dst := some 102, op := Op.indexAddr 30 (Operand.tmp 100) (Operand.tmp 101), type := 0, pos := "law.go:206", after := #[{ on := 2, ground := Ground.data }, { on := 3, ground := Ground.data }], guard := none }) (v := .pointer (some ⟨lb, lo + q * 66, none⟩)) rfl (by kernel_rfl) (by kernel_rfl) (by kernel_rfl) (fun _ _ _ h => h) (Or.inl ⟨by rfl, fun w _ => by go_simp⟩) (by assumption) ?_
      simp only [Act.put, List.setIfInBounds_toArray, List.set_cons_zero, List.set_cons_succ]
      refine wpAnyH_take (i := 5) (oi := { dst := some 103, op := Op.load 59 (Operand.tmp 102), type := 59, pos := "law.go:206", after := #[{ on := 4, ground := Ground.data }], guard := none }) (v := .agg (cnC x).toArray) rfl (by kernel_rfl) (by kernel_rfl) (by kernel_rfl) (fun _ _ _ h => h) (yieldsIf_load_mid (by rfl) 59 (.tmp 102) rfl lb (lo + q * 66) rfl (cnC x) _ (fun w h => range_on HLX.out h) Try.underlying59 rfl HIX.out) (by assumption) ?_
      simp only [Act.put, List.setIfInBounds_toArray, List.set_cons_zero, List.set_cons_succ]
      refine wpAnyH_ready (rs := [6]) (by kernel_rfl) (by simp) (AllReadyH.cons (o := { dst := some 104, op := Op.buildSlice 30 2 #[(0, Operand.tmp 99), (1, Operand.tmp 103)], type := 30, pos := "law.go:206", after := #[{ on := 1, ground := Ground.data }, { on := 5, ground := Ground.data }], guard := none }) rfl (fun K hK => ?_) AllReadyH.nil)
      generalize x2.drew = y0 at *
      have HV2 := hide (cns_two y0 c x HC.out (HOK.out x HXM.out))
      have HS := hHeld.alloc hHeld.size (.cells (cnC c ++ cnC x).toArray 59)
      refine cstep_build2 (by rfl) 30 59 (.tmp 99) (.tmp 103) rfl _ 66 80 Try.underlying30 infoCn (by omega) (by omega) (cnC c) (cnC x) HCL.out HXL.out rfl rfl ?_
      refine hK.out _ _ ?_ (fun hHeld => ?_)
      · exact HS
      clear hK K
      try simp only [Act.put, List.setIfInBounds_toArray, List.set_cons_zero, List.set_cons_succ]
      refine wpAnyH_ready (rs := [7]) (by kernel_rfl) (by simp) (AllReadyH.cons (o := { dst := some 105, op := Op.call { callee := Callee.value (Operand.func 12), args := #[Operand.tmp 98, Operand.tmp 104], argTypes := #[25, 30] }, type := 26, pos := "law.go:206", after := #[{ on := 0, ground := Ground.data }, { on := 6, ground := Ground.data }], guard := none }) rfl (fun K hK => ?_) AllReadyH.nil)
      generalize y0.alloc (.cells (cnC c ++ cnC x).toArray 59) = y1 at *
      have CP := hide (put_there y1 b (some k) L (HS2.out.on hHeld) [c, x] _ HV2.out HOK2.out (by simp) HNX2.out ⟨x.pt, by simp, mem_pt HXM.out⟩)
      refine cstep_go (vs := #[.pointer (some ⟨b, 0, none⟩), .slice (some ⟨y0.heap.size, 0, none⟩) 2 2]) (by rfl) 12 _ Try.func12 (by kernel_rfl) (by kernel_rfl) _ _ rfl (by simp [Act.eval]) ?_
      refine CP.out.mono ?_
      rintro e y2 ⟨rfl, hy⟩
      have HS := below_on hHeld hy
      clear hy CP HV2
      refine ⟨_, rfl, ?_⟩
      refine hK.out _ _ ?_ (fun hHeld => ?_)
      · exact HS
      clear hK K
      try simp only [Act.put, List.setIfInBounds_toArray, List.set_cons_zero, List.set_cons_succ]
      refine wpAnyH_take (i := 8) (oi := { dst := some 106, op := Op.binOp BinOp.eql 26 (Operand.tmp 105) (Operand.const (Value.int IntKind.i64 10)) 26, type := 4, pos := "law.go:206", after := #[{ on := 7, ground := Ground.data }], guard := none }) (v := .bool true) rfl (by kernel_rfl) (by kernel_rfl) (by kernel_rfl) (fun _ _ _ h => h) (Or.inl ⟨by rfl, fun w _ => by go_simp⟩) (by assumption) ?_
      simp only [Act.put, List.setIfInBounds_toArray, List.set_cons_zero, List.set_cons_succ]
      refine wpAnyH_take (i := 9) (oi := { dst := some 107, op := Op.move (Operand.tmp 106), type := 4, pos := "law.go:206", after := #[{ on := 8, ground := Ground.data }, { on := 7, ground := Ground.chain }], guard := none }) (v := .bool true) rfl (by kernel_rfl) (by kernel_rfl) (by kernel_rfl) (fun _ _ _ h => h) (Or.inl ⟨by rfl, fun w _ => by go_simp⟩) (by assumption) ?_
      simp only [Act.put, List.setIfInBounds_toArray, List.set_cons_zero, List.set_cons_succ]
      refine wpAnyH_take (i := 10) (oi := { dst := some 108, op := Op.move (Operand.tmp 7), type := 25, pos := "law.go:206", after := #[{ on := 9, ground := Ground.guard }], guard := some (9, true) }) (v := .pointer (some ⟨b, 0, none⟩)) rfl (by kernel_rfl) (by kernel_rfl) (by kernel_rfl) (fun _ _ _ h => h) (Or.inl ⟨by rfl, fun w _ => by go_simp⟩) (by assumption) ?_
      simp only [Act.put, List.setIfInBounds_toArray, List.set_cons_zero, List.set_cons_succ]
      refine wpAnyH_take (i := 11) (oi := { dst := some 109, op := Op.load 59 (Operand.tmp 4), type := 59, pos := "law.go:206", after := #[{ on := 9, ground := Ground.guard }], guard := some (9, true) }) (v := .agg (cnC c).toArray) rfl (by kernel_rfl) (by kernel_rfl) (by kernel_rfl) (fun _ _ _ h => h) (yieldsIf_load_mid (by rfl) 59 (.tmp 4) rfl w.heap.size 0 rfl (cnC c) _ (fun w h => range_on HC2.out h) Try.underlying59 rfl HIC.out) (by assumption) ?_
      simp only [Act.put, List.setIfInBounds_toArray, List.set_cons_zero, List.set_cons_succ]
      refine wpAnyH_take (i := 12) (oi := { dst := some 110, op := Op.load 59 (Operand.tmp 4), type := 59, pos := "law.go:206", after := #[{ on := 9, ground := Ground.guard }], guard := some (9, true) }) (v := .agg (cnC c).toArray) rfl (by kernel_rfl) (by kernel_rfl) (by kernel_rfl) (fun _ _ _ h => h) (yieldsIf_load_mid (by rfl) 59 (.tmp 4) rfl w.heap.size 0 rfl (cnC c) _ (fun w h => range_on HC2.out h) Try.underlying59 rfl HIC.out) (by assumption) ?_
      simp only [Act.put, List.setIfInBounds_toArray, List.set_cons_zero, List.set_cons_succ]
      refine wpAnyH_take (i := 13) (oi := { dst := some 111, op := Op.move (Operand.tmp 0), type := 30, pos := "law.go:206", after := #[{ on := 9, ground := Ground.guard }], guard := some (9, true) }) (v := .slice (some ⟨lb, lo, none⟩) L.length cap) rfl (by kernel_rfl) (by kernel_rfl) (by kernel_rfl) (fun _ _ _ h => h) (Or.inl ⟨by rfl, fun w _ => by go_simp⟩) (by assumption) ?_
      simp only [Act.put, List.setIfInBounds_toArray, List.set_cons_zero, List.set_cons_succ]
      refine wpAnyH_take (i := 14) (oi := { dst := some 112, op := Op.move (Operand.tmp 11), type := 3, pos := "law.go:206", after := #[{ on := 9, ground := Ground.guard }], guard := some (9, true) }) (v := .int .i64 q) rfl (by kernel_rfl) (by kernel_rfl) (by kernel_rfl) (fun _ _ _ h => h) (Or.inl ⟨by rfl, fun w _ => by go_simp⟩) (by assumption) ?_
      simp only [Act.put, List.setIfInBounds_toArray, List.set_cons_zero, List.set_cons_succ]
      refine wpAnyH_take (i := 15) (oi := { dst := some 113, op := Op.indexAddr 30 (Operand.tmp 111) (Operand.tmp 112), type := 0, pos := "law.go:206", after := #[{ on := 13, ground := Ground.data }, { on := 14, ground := Ground.data }, { on := 9, ground := Ground.guard }], guard := some (9, true) }) (v := .pointer (some ⟨lb, lo + q * 66, none⟩)) rfl (by kernel_rfl) (by kernel_rfl) (by kernel_rfl) (fun _ _ _ h => h) (Or.inl ⟨by rfl, fun w _ => by go_simp⟩) (by assumption) ?_
      simp only [Act.put, List.setIfInBounds_toArray, List.set_cons_zero, List.set_cons_succ]
      refine wpAnyH_take (i := 16) (oi := { dst := some 114, op := Op.load 59 (Operand.tmp 113), type := 59, pos := "law.go:206", after := #[{ on := 15, ground := Ground.data }, { on := 9, ground := Ground.guard }], guard := some (9, true) }) (v := .agg (cnC x).toArray) rfl (by kernel_rfl) (by kernel_rfl) (by kernel_rfl) (fun _ _ _ h => h) (yieldsIf_load_mid (by rfl) 59 (.tmp 113) rfl lb (lo + q * 66) rfl (cnC x) _ (fun w h => range_on HLX.out h) Try.underlying59 rfl HIX.out) (by assumption) ?_
      simp only [Act.put, List.setIfInBounds_toArray, List.set_cons_zero, List.set_cons_succ]
      refine wpAnyH_ready (rs := [17]) (by kernel_rfl) (by simp) (AllReadyH.cons (o := { dst := some 115, op := Op.buildSlice 30 3 #[(0, Operand.tmp 109), (1, Operand.tmp 110), (2, Operand.tmp 114)], type := 30, pos := "law.go:206", after := #[{ on := 11, ground := Ground.data }, { on := 12, ground := Ground.data }, { on := 16, ground := Ground.data }, { on := 9, ground := Ground.guard }], guard := some (9, true) }) rfl (fun K hK => ?_) AllReadyH.nil)
      have HV3 := hide (cns_three y2 c c x HC.out HC.out)
      have HS := hHeld.alloc hHeld.size (.cells (cnC c ++ (cnC c ++ cnC x)).toArray 59)
      refine cstep_build3 (by rfl) 30 59 (.tmp 109) (.tmp 110) (.tmp 114) rfl _ 66 80 Try.underlying30 infoCn (by omega) (by omega) (cnC c) (cnC c) (cnC x) HCL.out HCL.out HXL.out rfl rfl rfl ?_
      refine hK.out _ _ ?_ (fun hHeld => ?_)
      · exact HS
      clear hK K
      try simp only [Act.put, List.setIfInBounds_toArray, List.set_cons_zero, List.set_cons_succ]
      refine wpAnyH_ready (rs := [18]) (by kernel_rfl) (by simp) (AllReadyH.cons (o := { dst := some 116, op := Op.call { callee := Callee.value (Operand.func 12), args := #[Operand.tmp 108, Operand.tmp 115], argTypes := #[25, 30] }, type := 26, pos := "law.go:206", after := #[{ on := 10, ground := Ground.data }, { on := 17, ground := Ground.data }, { on := 9, ground := Ground.chain }, { on := 9, ground := Ground.guard }], guard := some (9, true) }) rfl (fun K hK => ?_) AllReadyH.nil)
      generalize y2.alloc (.cells (cnC c ++ (cnC c ++ cnC x)).toArray 59) = y3 at *
      have CP := hide (put_twice y3 b (some k) L (HS2.out.on hHeld) [c, c, x] _ HV3.out HOK3.out (by simp) (by simp))
      refine cstep_go (vs := #[.pointer (some ⟨b, 0, none⟩), .slice (some ⟨y2.heap.size, 0, none⟩) 3 3]) (by rfl) 12 _ Try.func12 (by kernel_rfl) (by kernel_rfl) _ _ rfl (by simp [Act.eval]) ?_
      refine CP.out.mono ?_
      rintro e y4 ⟨rfl, hy⟩
      have HS := below_on hHeld hy
      clear hy CP HV3
      refine ⟨_, rfl, ?_⟩
      refine hK.out _ _ ?_ (fun hHeld => ?_)
      · exact HS
      clear hK K
      try simp only [Act.put, List.setIfInBounds_toArray, List.set_cons_zero, List.set_cons_succ]
      refine wpAnyH_take (i := 19) (oi := { dst := some 117, op := Op.binOp BinOp.eql 26 (Operand.tmp 116) (Operand.const (Value.int IntKind.i64 12)) 26, type := 4, pos := "law.go:206", after := #[{ on := 18, ground := Ground.data }, { on := 9, ground := Ground.guard }], guard := some (9, true) }) (v := .bool true) rfl (by kernel_rfl) (by kernel_rfl) (by kernel_rfl) (fun _ _ _ h => h) (Or.inl ⟨by rfl, fun w _ => by go_simp⟩) (by assumption) ?_
      simp only [Act.put, List.setIfInBounds_toArray, List.set_cons_zero, List.set_cons_succ]
      refine wpAnyH_take (i := 20) (oi := { dst := some 118, op := Op.pick (Operand.tmp 107) (Operand.tmp 117) (Operand.const (Value.bool false)), type := 4, pos := "law.go:206", after := #[{ on := 9, ground := Ground.data }, { on := 19, ground := Ground.data }], guard := none }) (v := .bool true) rfl (by kernel_rfl) (by kernel_rfl) (by kernel_rfl) (fun _ _ _ h => h) (Or.inl ⟨by rfl, fun w _ => by go_simp⟩) (by assumption) ?_
      simp only [Act.put, List.setIfInBounds_toArray, List.set_cons_zero, List.set_cons_succ]
      refine wpAnyH_take (i := 21) (oi := { dst := some 119, op := Op.move (Operand.tmp 118), type := 4, pos := "law.go:206", after := #[{ on := 20, ground := Ground.data }, { on := 18, ground := Ground.chain }], guard := none }) (v := .bool true) rfl (by kernel_rfl) (by kernel_rfl) (by kernel_rfl) (fun _ _ _ h => h) (Or.inl ⟨by rfl, fun w _ => by go_simp⟩) (by assumption) ?_
      simp only [Act.put, List.setIfInBounds_toArray, List.set_cons_zero, List.set_cons_succ]
      refine wpAnyH_take (i := 22) (oi := { dst := some 120, op := Op.move (Operand.tmp 7), type := 25, pos := "law.go:206", after := #[{ on := 21, ground := Ground.guard }], guard := some (21, true) }) (v := .pointer (some ⟨b, 0, none⟩)) rfl (by kernel_rfl) (by kernel_rfl) (by kernel_rfl) (fun _ _ _ h => h) (Or.inl ⟨by rfl, fun w _ => by go_simp⟩) (by assumption) ?_
      simp only [Act.put, List.setIfInBounds_toArray, List.set_cons_zero, List.set_cons_succ]
      refine wpAnyH_take (i := 24) (oi := { dst := some 122, op := Op.move (Operand.tmp 9), type := 30, pos := "law.go:206", after := #[{ on := 21, ground := Ground.guard }], guard := some (21, true) }) (v := wv) rfl (by kernel_rfl) (by kernel_rfl) (by kernel_rfl) (fun _ _ _ h => h) (Or.inl ⟨by rfl, fun w _ => by go_simp⟩) (by assumption) ?_
      simp only [Act.put, List.setIfInBounds_toArray, List.set_cons_zero, List.set_cons_succ]
      refine wpAnyH_ready (rs := [23]) (by kernel_rfl) (by simp) (AllReadyH.cons (o := { dst := some 121, op := Op.call { callee := Callee.value (Operand.func 20), args := #[Operand.tmp 120], argTypes := #[25] }, type := 30, pos := "law.go:206", after := #[{ on := 22, ground := Ground.data }, { on := 21, ground := Ground.chain }, { on := 21, ground := Ground.guard }], guard := some (21, true) }) rfl (fun K hK => ?_) AllReadyH.nil)
      have CA2 := hide (all_any y4 b k L (HS2.out.on hHeld) (by have := HLN.out; omega))
      refine cstep_go (vs := #[.pointer (some ⟨b, 0, none⟩)]) (by rfl) 20 _ Try.func20 (by kernel_rfl) (by kernel_rfl) _ _ rfl (by simp [Act.eval]) ?_
      refine CA2.out.mono ?_
      rintro e y5 ⟨u2, M2, rfl, hp2, hs2, hr2, hy⟩
      obtain rfl : M2 = M1 := sort_unique hs2 HPM.out.2 (hp2.trans HPM.out.1.symm)
      have HR2 : Hid (CnsAt y5 u2 M2) := hide hr2.row
      have HS := below_on hHeld hy
      clear hp2 hs2 hr2 hy CA2
      refine ⟨_, rfl, ?_⟩
      refine hK.out _ _ ?_ (fun hHeld => ?_)
      · exact HS
      clear hK K
      try simp only [Act.put, List.setIfInBounds_toArray, List.set_cons_zero, List.set_cons_succ]
      refine wpAnyH_ready (rs := [25]) (by kernel_rfl) (by simp) (AllReadyH.cons (o := { dst := some 123, op := Op.call { callee := Callee.value (Operand.func 19), args := #[Operand.tmp 121, Operand.tmp 122], argTypes := #[30, 30] }, type := 4, pos := "law.go:206", after := #[{ on := 23, ground := Ground.data }, { on := 24, ground := Ground.data }, { on := 23, ground := Ground.chain }, { on := 21, ground := Ground.guard }], guard := some (21, true) }) rfl (fun K hK => ?_) AllReadyH.nil)
      have CS2 := hide (rsamecn_eq M2 u2 wv y5 HR2.out (HW2.out.on hHeld) (fun d hd => HOK.out d (HPM.out.1.mem_iff.1 hd)))
      refine cstep_go (vs := #[u2, wv]) (by rfl) 19 _ Try.func19 (by kernel_rfl) (by kernel_rfl) _ _ rfl (by simp [Act.eval]) ?_
      refine CS2.out.mono ?_
      rintro e y6 ⟨rfl, hy⟩
      have HS := below_on hHeld hy
      clear hy CS2 HR2
      refine ⟨_, rfl, ?_⟩
      refine hK.out _ _ ?_ (fun hHeld => ?_)
      · exact HS
      clear hK K
      try simp only [Act.put, List.setIfInBounds_toArray, List.set_cons_zero, List.set_cons_succ]
      refine wpAnyH_take (i := 26) (oi := { dst := some 124, op := Op.pick (Operand.tmp 119) (Operand.tmp 123) (Operand.const (Value.bool false)), type := 4, pos := "law.go:206", after := #[{ on := 21, ground := Ground.data }, { on := 25, ground := Ground.data }], guard := none }) (v := .bool true) rfl (by kernel_rfl) (by kernel_rfl) (by kernel_rfl) (fun _ _ _ h => h) (Or.inl ⟨by rfl, fun w _ => by go_simp⟩) (by assumption) ?_
      simp only [Act.put, List.setIfInBounds_toArray, List.set_cons_zero, List.set_cons_succ]
      refine wpAnyH_take (i := 27) (oi := { dst := some 6, op := Op.assign (Operand.tmp 124), type := 4, pos := "law.go:206", after := #[{ on := 26, ground := Ground.data }, { on := 25, ground := Ground.chain }, { on := 0, ground := Ground.phase }, { on := 1, ground := Ground.phase }, { on := 2, ground := Ground.phase }, { on := 3, ground := Ground.phase }, { on := 4, ground := Ground.phase }, { on := 5, ground := Ground.phase }, { on := 6, ground := Ground.phase }, { on := 7, ground := Ground.phase }, { on := 8, ground := Ground.phase }, { on := 9, ground := Ground.phase }, { on := 10, ground := Ground.phase }, { on := 11, ground := Ground.phase }, { on := 12, ground := Ground.phase }, { on := 13, ground := Ground.phase }, { on := 14, ground := Ground.phase }, { on := 15, ground := Ground.phase }, { on := 16, ground := Ground.phase }, { on := 17, ground := Ground.phase }, { on := 18, ground := Ground.phase }, { on := 19, ground := Ground.phase }, { on := 20, ground := Ground.phase }, { on := 21, ground := Ground.phase }, { on := 22, ground := Ground.phase }, { on := 23, ground := Ground.phase }, { on := 24, ground := Ground.phase }, { on := 25, ground := Ground.phase }, { on := 26, ground := Ground.phase }], guard := none }) (v := .bool true) rfl (by kernel_rfl) (by kernel_rfl) (by kernel_rfl) (fun _ _ _ h => h) (Or.inl ⟨by rfl, fun w _ => by go_simp⟩) (by assumption) ?_
      simp only [Act.put, List.setIfInBounds_toArray, List.set_cons_zero, List.set_cons_succ]
      refine wpAnyH_done (by kernel_rfl) ?_ _
      have R := hide (below_on HB2.out hHeld)
      clear hHeld
      go_wp2
      go_ret
      exact ⟨rfl, R.out⟩
    · generalize v0.alloc (.cells #[] 47) = v1 at *
      have hbn := below_new v1 (.cells P.toArray 47)
      have HD := hide (fun g hg => show g ≠ v1.heap.size from Nat.ne_of_lt (HA.out.lt g hg).2)
      have HA := hide (HA.out.move (w1 := v1.alloc (.cells P.toArray 47)) fun g _ hl => hbn.block g hl)
      have HB := hide (own_one v1 W.heap.size 47 33 hHeld.size P ⟨HPL.out, HP1.out⟩)
      have HS := hHeld.alloc hHeld.size (.cells P.toArray 47)
      clear hbn
      refine cstep_build1 (by rfl) 33 47 (.tmp 59) rfl _ 33 36 Try.underlying33 infoP (by omega) (by omega) P HPL.out rfl ?_
      refine hK.out _ _ ?_ (fun hHeld => ?_)
      · exact HS
      clear hK K
      try simp only [Act.put, List.setIfInBounds_toArray, List.set_cons_zero, List.set_cons_succ]
      refine wpAnyH_ready (rs := [6]) (by kernel_rfl) (by simp) (AllReadyH.cons (o := { dst := some 57, op := Op.call { callee := Callee.builtin Builtin.append, args := #[Operand.tmp 52, Operand.tmp 56], argTypes := #[33, 33] }, type := 33, pos := "law.go:199", after := #[{ on := 1, ground := Ground.data }, { on := 5, ground := Ground.data }], guard := none }) rfl (fun K hK => ?_) AllReadyH.nil)
      generalize v1.alloc (.cells P.toArray 47) = v2 at *
      obtain ⟨u57, v3, hrun, hown, hgr, hwh⟩ := run_append_rows v2 33 47 33 _ 33 36 Try.underlying33 infoP rfl (by omega) (by omega) W.heap.size _ [] HA.out ⟨pb, po, none⟩ (q + 1) pc ((L.map fun c => pC c.pt).take (q + 1)) (head_at (HPW.out.on hHeld) (by omega)) (fun c hc => HE.out c (List.mem_of_mem_take hc)) (by rw [List.length_take, List.length_map]; have := HLN.out; simp; omega) hHeld.size
      rw [List.nil_append] at hown
      have HD2 : Hid (∀ g, u57.ownBlock = some g → g ≠ v1.heap.size) := hide (fun g hg => by
        rcases hwh with h | h
        · exact HD.out g (h.symm.trans hg)
        · have h1 := h g hg
          have h2 := (HB.out.lt _ rfl).2
          exact Nat.ne_of_gt (Nat.lt_of_lt_of_le h2 h1))
      have HB := hide (HB.out.kept hgr (Or.inr fun e => HD.out v1.heap.size e.symm rfl))
      have HD := HD2
      clear HD2
      have HS := hHeld.grown hgr hHeld.size fun j hj => (HA.out.lt j hj).1
      have HA := hide hown
      clear hown hgr hwh
      refine step_app rfl (.tmp 52) (.tmp 56) 33 rfl rfl rfl hrun ?_
      clear hrun
      refine hK.out _ _ ?_ (fun hHeld => ?_)
      · exact HS
      clear hK K
      try simp only [Act.put, List.setIfInBounds_toArray, List.set_cons_zero, List.set_cons_succ]
      refine wpAnyH_ready (rs := [14]) (by kernel_rfl) (by simp) (AllReadyH.cons (o := { dst := some 65, op := Op.call { callee := Callee.builtin Builtin.append, args := #[Operand.tmp 60, Operand.tmp 64], argTypes := #[33, 33] }, type := 33, pos := "law.go:199", after := #[{ on := 9, ground := Ground.data }, { on := 13, ground := Ground.data }, { on := 6, ground := Ground.chain }], guard := none }) rfl (fun K hK => ?_) AllReadyH.nil)
      obtain ⟨u65, v4, hrun, hown, hgr, hwh⟩ := run_append_rows v3 33 47 33 _ 33 36 Try.underlying33 infoP rfl (by omega) (by omega) W.heap.size (.slice (some ⟨v1.heap.size, 0, none⟩) 1 1) [P] HB.out ⟨pb, to, none⟩ (L.length - (q + 1)) (pc - (q + 1)) ((L.map fun c => pC c.pt).drop (q + 1)) (HTL.out.on hHeld) (fun c hc => HE.out c (List.mem_of_mem_drop hc)) (by rw [List.length_drop, List.length_map]; have := HLN.out; simp; omega) hHeld.size
      have HS := hHeld.grown hgr hHeld.size fun j hj => (HB.out.lt j hj).1
      have HA := hide (HA.out.kept hgr (Or.inr fun e => HD.out v1.heap.size e rfl))
      obtain ⟨ua, uc, rfl, -, -⟩ := hown.row.form
      obtain ⟨ub, uo, rfl, -⟩ := hown.row.get (k := 0) (c := P) rfl
      have HR := hide hown.row
      have HRE := hide hown.2
      obtain ⟨un, hun⟩ : ∃ un, un = ([P] ++ (L.map fun c => pC c.pt).drop (q + 1)).length := ⟨_, rfl⟩
      rw [← hun] at hrun HR
      clear hun hown hgr hwh HB HD
      refine step_app rfl (.tmp 60) (.tmp 64) 33 rfl rfl rfl hrun ?_
      clear hrun
      refine hK.out _ _ ?_ (fun hHeld => ?_)
      · exact HS
      clear hK K
      try simp only [Act.put, List.setIfInBounds_toArray, List.set_cons_zero, List.set_cons_succ]
      refine wpAnyH_ready (rs := [15]) (by kernel_rfl) (by simp) (AllReadyH.cons (o := { dst := some 66, op := Op.call { callee := Callee.builtin Builtin.append, args := #[Operand.tmp 57, Operand.tmp 65], argTypes := #[33, 33] }, type := 33, pos := "law.go:199", after := #[{ on := 6, ground := Ground.data }, { on := 14, ground := Ground.data }, { on := 14, ground := Ground.chain }], guard := none }) rfl (fun K hK => ?_) AllReadyH.nil)
      obtain ⟨u66, v5, hrun, hown, hgr, hwh⟩ := run_append_rows v4 33 47 33 _ 33 36 Try.underlying33 infoP rfl (by omega) (by omega) W.heap.size u57 _ HA.out ⟨ub, uo, none⟩ un uc _ HR.out HRE.out (by rw [List.length_append, List.length_take, List.length_drop, List.length_map]; have := HLN.out; simp; omega) hHeld.size
      have HS := hHeld.grown hgr hHeld.size fun j hj => (HA.out.lt j hj).1
      rw [← HPP.out, amid_row] at hown
      have HA := hide hown
      clear hown hgr hwh HR HRE
      refine step_app rfl (.tmp 57) (.tmp 65) 33 rfl rfl rfl hrun ?_
      clear hrun
      refine hK.out _ _ ?_ (fun hHeld => ?_)
      · exact HS
      clear hK K
      try simp only [Act.put, List.setIfInBounds_toArray, List.set_cons_zero, List.set_cons_succ]
      refine wpAnyH_ready (rs := [16]) (by kernel_rfl) (by simp) (AllReadyH.cons (o := { dst := some 67, op := Op.call { callee := Callee.value (Operand.func 14), args := #[Operand.tmp 51, Operand.tmp 66], argTypes := #[25, 33] }, type := 39, pos := "law.go:199", after := #[{ on := 0, ground := Ground.data }, { on := 15, ground := Ground.data }, { on := 15, ground := Ground.chain }], guard := none }) rfl (fun K hK => ?_) AllReadyH.nil)
      have HTK := hide (take_none v5 b (some k) L (HSW.out.on hHeld) (amid L (q + 1) c.pt) u66 (own_keeps (P := off b ((some k).getD b)) HA.out fun g h1 _ => ⟨by have := HSW.out.lt; omega, by have := (HSW.out.2.2.2 k rfl).2.lt; simp; omega⟩) (amid_ok (q + 1) HOK.out HC.out.1) (by rw [amid_length]; have := HLN.out; omega) (amid_once (q + 1) HIN.out HN.out) ⟨c.pt, amid_new _ _ _, HIN.out⟩)
      refine cstep_go (vs := #[.pointer (some ⟨b, 0, none⟩), u66]) (by rfl) 14 _ Try.func14 (by kernel_rfl) (by kernel_rfl) _ _ rfl (by simp [Act.eval]) ?_
      refine HTK.out.mono ?_
      rintro e v6 ⟨rfl, hb16⟩
      have HS := below_on hHeld hb16
      clear hb16 HTK HA
      refine ⟨_, rfl, ?_⟩
      refine hK.out _ _ ?_ (fun hHeld => ?_)
      · exact HS
      clear hK K
      try simp only [Act.put, List.setIfInBounds_toArray, List.set_cons_zero, List.set_cons_succ]
      refine wpAnyH_take (i := 17) (oi := { dst := some 50, op := Op.move (Operand.tmp 67), type := 39, pos := "law.go:199", after := #[{ on := 16, ground := Ground.data }], guard := none }) (v := .tuple #[.slice none 0 0, .int .i64 9]) rfl (by kernel_rfl) (by kernel_rfl) (by kernel_rfl) (fun _ _ _ h => h) (Or.inl ⟨by rfl, fun w _ => by go_simp⟩) (by assumption) ?_
      simp only [Act.put, List.setIfInBounds_toArray, List.set_cons_zero, List.set_cons_succ]
      refine wpAnyH_take (i := 18) (oi := { dst := some 68, op := Op.extract (Operand.tmp 50) 0, type := 38, pos := "law.go:199", after := #[{ on := 17, ground := Ground.data }], guard := none }) (v := .slice none 0 0) rfl (by kernel_rfl) (by kernel_rfl) (by kernel_rfl) (fun _ _ _ h => h) (Or.inl ⟨by rfl, fun w _ => by go_simp⟩) (by assumption) ?_
      simp only [Act.put, List.setIfInBounds_toArray, List.set_cons_zero, List.set_cons_succ]
      refine wpAnyH_take (i := 19) (oi := { dst := some 69, op := Op.extract (Operand.tmp 50) 1, type := 26, pos := "law.go:199", after := #[{ on := 17, ground := Ground.data }, { on := 20, ground := Ground.gcOnly Departure.lateStores }], guard := none }) (v := .int .i64 9) rfl (by kernel_rfl) (by kernel_rfl) (by kernel_rfl) (fun _ _ _ h => h) (Or.inl ⟨by rfl, fun w _ => by go_simp⟩) (by assumption) ?_
      simp only [Act.put, List.setIfInBounds_toArray, List.set_cons_zero, List.set_cons_succ]
      refine wpAnyH_take (i := 20) (oi := { dst := some 15, op := Op.assign (Operand.tmp 68), type := 38, pos := "law.go:199", after := #[{ on := 18, ground := Ground.data }, { on := 16, ground := Ground.chain }, { on := 0, ground := Ground.phase }, { on := 1, ground := Ground.phase }, { on := 2, ground := Ground.phase }, { on := 3, ground := Ground.phase }, { on := 4, ground := Ground.phase }, { on := 5, ground := Ground.phase }, { on := 6, ground := Ground.phase }, { on := 7, ground := Ground.phase }, { on := 8, ground := Ground.phase }, { on := 9, ground := Ground.phase }, { on := 10, ground := Ground.phase }, { on := 11, ground := Ground.phase }, { on := 12, ground := Ground.phase }, { on := 13, ground := Ground.phase }, { on := 14, ground := Ground.phase }, { on := 15, ground := Ground.phase }, { on := 16, ground := Ground.phase }, { on := 17, ground := Ground.phase }, { on := 18, ground := Ground.phase }, { on := 19, ground := Ground.textOnly Departure.lateStores }], guard := none }) (v := .slice none 0 0) rfl (by kernel_rfl) (by kernel_rfl) (by kernel_rfl) (fun _ _ _ h => h) (Or.inl ⟨by rfl, fun w _ => by go_simp⟩) (by assumption) ?_
      simp only [Act.put, List.setIfInBounds_toArray, List.set_cons_zero, List.set_cons_succ]
      refine wpAnyH_take (i := 21) (oi := { dst := some 16, op := Op.assign (Operand.tmp 69), type := 26, pos := "law.go:199", after := #[{ on := 19, ground := Ground.data }, { on := 20, ground := Ground.chain }, { on := 0, ground := Ground.phase }, { on := 1, ground := Ground.phase }, { on := 2, ground := Ground.phase }, { on := 3, ground := Ground.phase }, { on := 4, ground := Ground.phase }, { on := 5, ground := Ground.phase }, { on := 6, ground := Ground.phase }, { on := 7, ground := Ground.phase }, { on := 8, ground := Ground.phase }, { on := 9, ground := Ground.phase }, { on := 10, ground := Ground.phase }, { on := 11, ground := Ground.phase }, { on := 12, ground := Ground.phase }, { on := 13, ground := Ground.phase }, { on := 14, ground := Ground.phase }, { on := 15, ground := Ground.phase }, { on := 16, ground := Ground.phase }, { on := 17, ground := Ground.phase }, { on := 18, ground := Ground.phase }, { on := 19, ground := Ground.phase }, { on := 20, ground := Ground.phase }], guard := none }) (v := .int .i64 9) rfl (by kernel_rfl) (by kernel_rfl) (by kernel_rfl) (fun _ _ _ h => h) (Or.inl ⟨by rfl, fun w _ => by go_simp⟩) (by assumption) ?_
      simp only [Act.put, List.setIfInBounds_toArray, List.set_cons_zero, List.set_cons_succ]
      refine wpAnyH_done (by kernel_rfl) ?_ _
      have HSZ := hide (HSW.out.on hHeld)
      have HBZ := hide (below_on HBW.out hHeld)
      have HCZ := hide (range_on HCW.out hHeld)
      have HWZ := hide (HWASW.out.on hHeld)
      have CA1 := hide (all_any v6 b k L HSZ.out (by have := HLN.out; omega))
      clear hHeld HSW HBW HCW HWASW HPW HPTW HTL hw1 hw2 hw3 hw4 hw5
      go_wp2_with fail
      refine CA1.out.mono ?_
      rintro e x1 ⟨y1, M1, rfl, hp1, hs1, hr1, hx1⟩
      obtain rfl : M1 = M := sort_unique hs1 HPM.out.2 (hp1.trans HPM.out.1.symm)
      have HS1 := hide (HSZ.out.on hx1)
      have HB1 := hide (below_on HBZ.out hx1)
      have HC1 := hide (range_on HCZ.out hx1)
      have HW1 := hide (HWZ.out.on hx1)
      have CS1 := hide (rsamecn_eq M1 y1 wv x1 hr1.row HW1.out (fun d hd => HOK.out d (HPM.out.1.mem_iff.1 hd)))
      clear hp1 hs1 hr1 hx1 CA1 HSZ HBZ HCZ HWZ
      go_wp2_with fail
      refine CS1.out.mono ?_
      rintro e x2 ⟨rfl, hx2⟩
      have HS2 := hide (HS1.out.on hx2)
      have HB2 := hide (below_on HB1.out hx2)
      have HC2 := hide (range_on HC1.out hx2)
      have HW2 := hide (HW1.out.on hx2)
      clear hx2 CS1 HS1 HB1 HC1 HW1
      go_upto_region 20 with fail
      have HLX := hide (range_on HLR.out HB2.out)
      have HOK2 : Hid (∀ d ∈ [c, x], CnOk d) := hide (fun d hd => by
        rcases List.mem_cons.1 hd with h | h
        · rw [h]; exact HC.out
        · rw [List.mem_singleton.1 h]; exact HOK.out x HXM.out)
      have HOK3 : Hid (∀ d ∈ [c, c, x], CnOk d) := hide (fun d hd => by
        rcases List.mem_cons.1 hd with h | h
        · rw [h]; exact HC.out
        · exact HOK2.out d h)
      have HNX2 : Hid (([c, x].map Cn.pt).Nodup) := hide (by
        rw [List.map_cons, List.map_cons, List.map_nil, List.nodup_cons]
        exact ⟨fun h => HIN.out (by rw [List.mem_singleton.1 h]; exact mem_pt HXM.out), List.pairwise_singleton _ _⟩)
      refine wp_region_held_drew (S := fun wx => Below x2.heap.size x2 wx) (by kernel_rfl) (Below.refl _ _).drew (fun hHeld => ?_)
      refine wpAnyH_take (i := 0) (oi := { dst := some 98, op := Op.move (Operand.tmp 7), type := 25, pos := "law.go:206", after := #[], guard := none }) (v := .pointer (some ⟨b, 0, none⟩)) rfl (by kernel_rfl) (by kernel_rfl) (by kernel_rfl) (fun _ _ _ h => h) (Or.inl ⟨by rfl, fun w _ => by go_simp⟩) (by assumption) ?_
      simp only [Act.put, List.setIfInBounds_toArray, List.set_cons_zero, List.set_cons_succ]
      refine wpAnyH_take (i := 1) (oi := { dst := some 99, op := Op.load 59 (Operand.tmp 4), type := 59, pos := "law.go:206", after := #[], guard := none }) (v := .agg (cnC c).toArray) rfl (by kernel_rfl) (by kernel_rfl) (by kernel_rfl) (fun _ _ _ h => h) (yieldsIf_load_mid (by rfl) 59 (.tmp 4) rfl w.heap.size 0 rfl (cnC c) _ (fun w h => range_on HC2.out h) Try.underlying59 rfl HIC.out) (by assumption) ?_
      simp only [Act.put, List.setIfInBounds_toArray, List.set_cons_zero, List.set_cons_succ]
      refine wpAnyH_take (i := 2) (oi := { dst := some 100, op := Op.move (Operand.tmp 0), type := 30, pos := "law.go:206", after := #[], guard := none }) (v := .slice (some ⟨lb, lo, none⟩) L.length cap) rfl (by kernel_rfl) (by kernel_rfl) (by kernel_rfl) (fun _ _ _ h => h) (Or.inl ⟨by rfl, fun w _ => by go_simp⟩) (by assumption) ?_
      simp only [Act.put, List.setIfInBounds_toArray, List.set_cons_zero, List.set_cons_succ]
      refine wpAnyH_take (i := 3) (oi := { dst := some 101, op := Op.move (Operand.tmp 11), type := 3, pos := "law.go:206", after := #[], guard := none }) (v := .int .i64 q) rfl (by kernel_rfl) (by kernel_rfl) (by kernel_rfl) (fun _ _ _ h => h) (Or.inl ⟨by rfl, fun w _ => by go_simp⟩) (by assumption) ?_
      simp only [Act.put, List.setIfInBounds_toArray, List.set_cons_zero, List.set_cons_succ]
      refine wpAnyH_take (i := 4) (oi := { dst := some 102, op := Op.indexAddr 30 (Operand.tmp 100) (Operand.tmp 101), type := 0, pos := "law.go:206", after := #[{ on := 2, ground := Ground.data }, { on := 3, ground := Ground.data }], guard := none }) (v := .pointer (some ⟨lb, lo + q * 66, none⟩)) rfl (by kernel_rfl) (by kernel_rfl) (by kernel_rfl) (fun _ _ _ h => h) (Or.inl ⟨by rfl, fun w _ => by go_simp⟩) (by assumption) ?_
      simp only [Act.put, List.setIfInBounds_toArray, List.set_cons_zero, List.set_cons_succ]
      refine wpAnyH_take (i := 5) (oi := { dst := some 103, op := Op.load 59 (Operand.tmp 102), type := 59, pos := "law.go:206", after := #[{ on := 4, ground := Ground.data }], guard := none }) (v := .agg (cnC x).toArray) rfl (by kernel_rfl) (by kernel_rfl) (by kernel_rfl) (fun _ _ _ h => h) (yieldsIf_load_mid (by rfl) 59 (.tmp 102) rfl lb (lo + q * 66) rfl (cnC x) _ (fun w h => range_on HLX.out h) Try.underlying59 rfl HIX.out) (by assumption) ?_
      simp only [Act.put, List.setIfInBounds_toArray, List.set_cons_zero, List.set_cons_succ]
      refine wpAnyH_ready (rs := [6]) (by kernel_rfl) (by simp) (AllReadyH.cons (o := { dst := some 104, op := Op.buildSlice 30 2 #[(0, Operand.tmp 99), (1, Operand.tmp 103)], type := 30, pos := "law.go:206", after := #[{ on := 1, ground := Ground.data }, { on := 5, ground := Ground.data }], guard := none }) rfl (fun K hK => ?_) AllReadyH.nil)
      generalize x2.drew = y0 at *
      have HV2 := hide (cns_two y0 c x HC.out (HOK.out x HXM.out))
      have HS := hHeld.alloc hHeld.size (.cells (cnC c ++ cnC x).toArray 59)
      refine cstep_build2 (by rfl) 30 59 (.tmp 99) (.tmp 103) rfl _ 66 80 Try.underlying30 infoCn (by omega) (by omega) (cnC c) (cnC x) HCL.out HXL.out rfl rfl ?_
      refine hK.out _ _ ?_ (fun hHeld => ?_)
      · exact HS
      clear hK K
      try simp only [Act.put, List.setIfInBounds_toArray, List.set_cons_zero, List.set_cons_succ]
      refine wpAnyH_ready (rs := [7]) (by kernel_rfl) (by simp) (AllReadyH.cons (o := { dst := some 105, op := Op.call { callee := Callee.value (Operand.func 12), args := #[Operand.tmp 98, Operand.tmp 104], argTypes := #[25, 30] }, type := 26, pos := "law.go:206", after := #[{ on := 0, ground := Ground.data }, { on := 6, ground := Ground.data }], guard := none }) rfl (fun K hK => ?_) AllReadyH.nil)
      generalize y0.alloc (.cells (cnC c ++ cnC x).toArray 59) = y1 at *
      have CP := hide (put_there y1 b (some k) L (HS2.out.on hHeld) [c, x] _ HV2.out HOK2.out (by simp) HNX2.out ⟨x.pt, by simp, mem_pt HXM.out⟩)
      refine cstep_go (vs := #[.pointer (some ⟨b, 0, none⟩), .slice (some ⟨y0.heap.size, 0, none⟩) 2 2]) (by rfl) 12 _ Try.func12 (by kernel_rfl) (by kernel_rfl) _ _ rfl (by simp [Act.eval]) ?_
      refine CP.out.mono ?_
      rintro e y2 ⟨rfl, hy⟩
      have HS := below_on hHeld hy
      clear hy CP HV2
      refine ⟨_, rfl, ?_⟩
      refine hK.out _ _ ?_ (fun hHeld => ?_)
      · exact HS
      clear hK K
      try simp only [Act.put, List.setIfInBounds_toArray, List.set_cons_zero, List.set_cons_succ]
      refine wpAnyH_take (i := 8) (oi := { dst := some 106, op := Op.binOp BinOp.eql 26 (Operand.tmp 105) (Operand.const (Value.int IntKind.i64 10)) 26, type := 4, pos := "law.go:206", after := #[{ on := 7, ground := Ground.data }], guard := none }) (v := .bool true) rfl (by kernel_rfl) (by kernel_rfl) (by kernel_rfl) (fun _ _ _ h => h) (Or.inl ⟨by rfl, fun w _ => by go_simp⟩) (by assumption) ?_
      simp only [Act.put, List.setIfInBounds_toArray, List.set_cons_zero, List.set_cons_succ]
      refine wpAnyH_take (i := 9) (oi := { dst := some 107, op := Op.move (Operand.tmp 106), type := 4, pos := "law.go:206", after := #[{ on := 8, ground := Ground.data }, { on := 7, ground := Ground.chain }], guard := none }) (v := .bool true) rfl (by kernel_rfl) (by kernel_rfl) (by kernel_rfl) (fun _ _ _ h => h) (Or.inl ⟨by rfl, fun w _ => by go_simp⟩) (by assumption) ?_
      simp only [Act.put, List.setIfInBounds_toArray, List.set_cons_zero, List.set_cons_succ]
      refine wpAnyH_take (i := 10) (oi := { dst := some 108, op := Op.move (Operand.tmp 7), type := 25, pos := "law.go:206", after := #[{ on := 9, ground := Ground.guard }], guard := some (9, true) }) (v := .pointer (some ⟨b, 0, none⟩)) rfl (by kernel_rfl) (by kernel_rfl) (by kernel_rfl) (fun _ _ _ h => h) (Or.inl ⟨by rfl, fun w _ => by go_simp⟩) (by assumption) ?_
      simp only [Act.put, List.setIfInBounds_toArray, List.set_cons_zero, List.set_cons_succ]
      refine wpAnyH_take (i := 11) (oi := { dst := some 109, op := Op.load 59 (Operand.tmp 4), type := 59, pos := "law.go:206", after := #[{ on := 9, ground := Ground.guard }], guard := some (9, true) }) (v := .agg (cnC c).toArray) rfl (by kernel_rfl) (by kernel_rfl) (by kernel_rfl) (fun _ _ _ h => h) (yieldsIf_load_mid (by rfl) 59 (.tmp 4) rfl w.heap.size 0 rfl (cnC c) _ (fun w h => range_on HC2.out h) Try.underlying59 rfl HIC.out) (by assumption) ?_
      simp only [Act.put, List.setIfInBounds_toArray, List.set_cons_zero, List.set_cons_succ]
      refine wpAnyH_take (i := 12) (oi := { dst := some 110, op := Op.load 59 (Operand.tmp 4), type := 59, pos := "law.go:206", after := #[{ on := 9, ground := Ground.guard }], guard := some (9, true) }) (v := .agg (cnC c).toArray) rfl (by kernel_rfl) (by kernel_rfl) (by kernel_rfl) (fun _ _ _ h => h) (yieldsIf_load_mid (by rfl) 59 (.tmp 4) rfl w.heap.size 0 rfl (cnC c) _ (fun w h => range_on HC2.out h) Try.underlying59 rfl HIC.out) (by assumption) ?_
      simp only [Act.put, List.setIfInBounds_toArray, List.set_cons_zero, List.set_cons_succ]
      refine wpAnyH_take (i := 13) (oi := { dst := some 111, op := Op.move (Operand.tmp 0), type := 30, pos := "law.go:206", after := #[{ on := 9, ground := Ground.guard }], guard := some (9, true) }) (v := .slice (some ⟨lb, lo, none⟩) L.length cap) rfl (by kernel_rfl) (by kernel_rfl) (by kernel_rfl) (fun _ _ _ h => h) (Or.inl ⟨by rfl, fun w _ => by go_simp⟩) (by assumption) ?_
      simp only [Act.put, List.setIfInBounds_toArray, List.set_cons_zero, List.set_cons_succ]
      refine wpAnyH_take (i := 14) (oi := { dst := some 112, op := Op.move (Operand.tmp 11), type := 3, pos := "law.go:206", after := #[{ on := 9, ground := Ground.guard }], guard := some (9, true) }) (v := .int .i64 q) rfl (by kernel_rfl) (by kernel_rfl) (by kernel_rfl) (fun _ _ _ h => h) (Or.inl ⟨by rfl, fun w _ => by go_simp⟩) (by assumption) ?_
      simp only [Act.put, List.setIfInBounds_toArray, List.set_cons_zero, List.set_cons_succ]
      refine wpAnyH_take (i := 15) (oi := { dst := some 113, op := Op.indexAddr 30 (Operand.tmp 111) (Operand.tmp 112), type := 0, pos := "law.go:206", after := #[{ on := 13, ground := Ground.data }, { on := 14, ground := Ground.data }, { on := 9, ground := Ground.guard }], guard := some (9, true) }) (v := .pointer (some ⟨lb, lo + q * 66, none⟩)) rfl (by kernel_rfl) (by kernel_rfl) (by kernel_rfl) (fun _ _ _ h => h) (Or.inl ⟨by rfl, fun w _ => by go_simp⟩) (by assumption) ?_
      simp only [Act.put, List.setIfInBounds_toArray, List.set_cons_zero, List.set_cons_succ]
      refine wpAnyH_take (i := 16) (oi := { dst := some 114, op := Op.load 59 (Operand.tmp 113), type := 59, pos := "law.go:206", after := #[{ on := 15, ground := Ground.data }, { on := 9, ground := Ground.guard }], guard := some (9, true) }) (v := .agg (cnC x).toArray) rfl (by kernel_rfl) (by kernel_rfl) (by kernel_rfl) (fun _ _ _ h => h) (yieldsIf_load_mid (by rfl) 59 (.tmp 113) rfl lb (lo + q * 66) rfl (cnC x) _ (fun w h => range_on HLX.out h) Try.underlying59 rfl HIX.out) (by assumption) ?_
      simp only [Act.put, List.setIfInBounds_toArray, List.set_cons_zero, List.set_cons_succ]
      refine wpAnyH_ready (rs := [17]) (by kernel_rfl) (by simp) (AllReadyH.cons (o := { dst := some 115, op := Op.buildSlice 30 3 #[(0, Operand.tmp 109), (1, Operand.tmp 110), (2, Operand.tmp 114)], type := 30, pos := "law.go:206", after := #[{ on := 11, ground := Ground.data }, { on := 12, ground := Ground.data }, { on := 16, ground := Ground.data }, { on := 9, ground := Ground.guard }], guard := some (9, true) }) rfl (fun K hK => ?_) AllReadyH.nil)
      have HV3 := hide (cns_three y2 c c x HC.out HC.out)
      have HS := hHeld.alloc hHeld.size (.cells (cnC c ++ (cnC c ++ cnC x)).toArray 59)
      refine cstep_build3 (by rfl) 30 59 (.tmp 109) (.tmp 110) (.tmp 114) rfl _ 66 80 Try.underlying30 infoCn (by omega) (by omega) (cnC c) (cnC c) (cnC x) HCL.out HCL.out HXL.out rfl rfl rfl ?_
      refine hK.out _ _ ?_ (fun hHeld => ?_)
      · exact HS
      clear hK K
      try simp only [Act.put, List.setIfInBounds_toArray, List.set_cons_zero, List.set_cons_succ]
      refine wpAnyH_ready (rs := [18]) (by kernel_rfl) (by simp) (AllReadyH.cons (o := { dst := some 116, op := Op.call { callee := Callee.value (Operand.func 12), args := #[Operand.tmp 108, Operand.tmp 115], argTypes := #[25, 30] }, type := 26, pos := "law.go:206", after := #[{ on := 10, ground := Ground.data }, { on := 17, ground := Ground.data }, { on := 9, ground := Ground.chain }, { on := 9, ground := Ground.guard }], guard := some (9, true) }) rfl (fun K hK => ?_) AllReadyH.nil)
      generalize y2.alloc (.cells (cnC c ++ (cnC c ++ cnC x)).toArray 59) = y3 at *
      have CP := hide (put_twice y3 b (some k) L (HS2.out.on hHeld) [c, c, x] _ HV3.out HOK3.out (by simp) (by simp))
      refine cstep_go (vs := #[.pointer (some ⟨b, 0, none⟩), .slice (some ⟨y2.heap.size, 0, none⟩) 3 3]) (by rfl) 12 _ Try.func12 (by kernel_rfl) (by kernel_rfl) _ _ rfl (by simp [Act.eval]) ?_
      refine CP.out.mono ?_
      rintro e y4 ⟨rfl, hy⟩
      have HS := below_on hHeld hy
      clear hy CP HV3
      refine ⟨_, rfl, ?_⟩
      refine hK.out _ _ ?_ (fun hHeld => ?_)
      · exact HS
      clear hK K
      try simp only [Act.put, List.setIfInBounds_toArray, List.set_cons_zero, List.set_cons_succ]
      refine wpAnyH_take (i := 19) (oi := { dst := some 117, op := Op.binOp BinOp.eql 26 (Operand.tmp 116) (Operand.const (Value.int IntKind.i64 12)) 26, type := 4, pos := "law.go:206", after := #[{ on := 18, ground := Ground.data }, { on := 9, ground := Ground.guard }], guard := some (9, true) }) (v := .bool true) rfl (by kernel_rfl) (by kernel_rfl) (by kernel_rfl) (fun _ _ _ h => h) (Or.inl ⟨by rfl, fun w _ => by go_simp⟩) (by assumption) ?_
      simp only [Act.put, List.setIfInBounds_toArray, List.set_cons_zero, List.set_cons_succ]
      refine wpAnyH_take (i := 20) (oi := { dst := some 118, op := Op.pick (Operand.tmp 107) (Operand.tmp 117) (Operand.const (Value.bool false)), type := 4, pos := "law.go:206", after := #[{ on := 9, ground := Ground.data }, { on := 19, ground := Ground.data }], guard := none }) (v := .bool true) rfl (by kernel_rfl) (by kernel_rfl) (by kernel_rfl) (fun _ _ _ h => h) (Or.inl ⟨by rfl, fun w _ => by go_simp⟩) (by assumption) ?_
      simp only [Act.put, List.setIfInBounds_toArray, List.set_cons_zero, List.set_cons_succ]
      refine wpAnyH_take (i := 21) (oi := { dst := some 119, op := Op.move (Operand.tmp 118), type := 4, pos := "law.go:206", after := #[{ on := 20, ground := Ground.data }, { on := 18, ground := Ground.chain }], guard := none }) (v := .bool true) rfl (by kernel_rfl) (by kernel_rfl) (by kernel_rfl) (fun _ _ _ h => h) (Or.inl ⟨by rfl, fun w _ => by go_simp⟩) (by assumption) ?_
      simp only [Act.put, List.setIfInBounds_toArray, List.set_cons_zero, List.set_cons_succ]
      refine wpAnyH_take (i := 22) (oi := { dst := some 120, op := Op.move (Operand.tmp 7), type := 25, pos := "law.go:206", after := #[{ on := 21, ground := Ground.guard }], guard := some (21, true) }) (v := .pointer (some ⟨b, 0, none⟩)) rfl (by kernel_rfl) (by kernel_rfl) (by kernel_rfl) (fun _ _ _ h => h) (Or.inl ⟨by rfl, fun w _ => by go_simp⟩) (by assumption) ?_
      simp only [Act.put, List.setIfInBounds_toArray, List.set_cons_zero, List.set_cons_succ]
      refine wpAnyH_take (i := 24) (oi := { dst := some 122, op := Op.move (Operand.tmp 9), type := 30, pos := "law.go:206", after := #[{ on := 21, ground := Ground.guard }], guard := some (21, true) }) (v := wv) rfl (by kernel_rfl) (by kernel_rfl) (by kernel_rfl) (fun _ _ _ h => h) (Or.inl ⟨by rfl, fun w _ => by go_simp⟩) (by assumption) ?_
      simp only [Act.put, List.setIfInBounds_toArray, List.set_cons_zero, List.set_cons_succ]
      refine wpAnyH_ready (rs := [23]) (by kernel_rfl) (by simp) (AllReadyH.cons (o := { dst := some 121, op := Op.call { callee := Callee.value (Operand.func 20), args := #[Operand.tmp 120], argTypes := #[25] }, type := 30, pos := "law.go:206", after := #[{ on := 22, ground := Ground.data }, { on := 21, ground := Ground.chain }, { on := 21, ground := Ground.guard }], guard := some (21, true) }) rfl (fun K hK => ?_) AllReadyH.nil)
      have CA2 := hide (all_any y4 b k L (HS2.out.on hHeld) (by have := HLN.out; omega))
      refine cstep_go (vs := #[.pointer (some ⟨b, 0, none⟩)]) (by rfl) 20 _ Try.func20 (by kernel_rfl) (by kernel_rfl) _ _ rfl (by simp [Act.eval]) ?_
      refine CA2.out.mono ?_
      rintro e y5 ⟨u2, M2, rfl, hp2, hs2, hr2, hy⟩
      obtain rfl : M2 = M1 := sort_unique hs2 HPM.out.2 (hp2.trans HPM.out.1.symm)
      have HR2 : Hid (CnsAt y5 u2 M2) := hide hr2.row
      have HS := below_on hHeld hy
      clear hp2 hs2 hr2 hy CA2
      refine ⟨_, rfl, ?_⟩
      refine hK.out _ _ ?_ (fun hHeld => ?_)
      · exact HS
      clear hK K
      try simp only [Act.put, List.setIfInBounds_toArray, List.set_cons_zero, List.set_cons_succ]
      refine wpAnyH_ready (rs := [25]) (by kernel_rfl) (by simp) (AllReadyH.cons (o := { dst := some 123, op := Op.call { callee := Callee.value (Operand.func 19), args := #[Operand.tmp 121, Operand.tmp 122], argTypes := #[30, 30] }, type := 4, pos := "law.go:206", after := #[{ on := 23, ground := Ground.data }, { on := 24, ground := Ground.data }, { on := 23, ground := Ground.chain }, { on := 21, ground := Ground.guard }], guard := some (21, true) }) rfl (fun K hK => ?_) AllReadyH.nil)
      have CS2 := hide (rsamecn_eq M2 u2 wv y5 HR2.out (HW2.out.on hHeld) (fun d hd => HOK.out d (HPM.out.1.mem_iff.1 hd)))
      refine cstep_go (vs := #[u2, wv]) (by rfl) 19 _ Try.func19 (by kernel_rfl) (by kernel_rfl) _ _ rfl (by simp [Act.eval]) ?_
      refine CS2.out.mono ?_
      rintro e y6 ⟨rfl, hy⟩
      have HS := below_on hHeld hy
      clear hy CS2 HR2
      refine ⟨_, rfl, ?_⟩
      refine hK.out _ _ ?_ (fun hHeld => ?_)
      · exact HS
      clear hK K
      try simp only [Act.put, List.setIfInBounds_toArray, List.set_cons_zero, List.set_cons_succ]
      refine wpAnyH_take (i := 26) (oi := { dst := some 124, op := Op.pick (Operand.tmp 119) (Operand.tmp 123) (Operand.const (Value.bool false)), type := 4, pos := "law.go:206", after := #[{ on := 21, ground := Ground.data }, { on := 25, ground := Ground.data }], guard := none }) (v := .bool true) rfl (by kernel_rfl) (by kernel_rfl) (by kernel_rfl) (fun _ _ _ h => h) (Or.inl ⟨by rfl, fun w _ => by go_simp⟩) (by assumption) ?_
      simp only [Act.put, List.setIfInBounds_toArray, List.set_cons_zero, List.set_cons_succ]
      refine wpAnyH_take (i := 27) (oi := { dst := some 6, op := Op.assign (Operand.tmp 124), type := 4, pos := "law.go:206", after := #[{ on := 26, ground := Ground.data }, { on := 25, ground := Ground.chain }, { on := 0, ground := Ground.phase }, { on := 1, ground := Ground.phase }, { on := 2, ground := Ground.phase }, { on := 3, ground := Ground.phase }, { on := 4, ground := Ground.phase }, { on := 5, ground := Ground.phase }, { on := 6, ground := Ground.phase }, { on := 7, ground := Ground.phase }, { on := 8, ground := Ground.phase }, { on := 9, ground := Ground.phase }, { on := 10, ground := Ground.phase }, { on := 11, ground := Ground.phase }, { on := 12, ground := Ground.phase }, { on := 13, ground := Ground.phase }, { on := 14, ground := Ground.phase }, { on := 15, ground := Ground.phase }, { on := 16, ground := Ground.phase }, { on := 17, ground := Ground.phase }, { on := 18, ground := Ground.phase }, { on := 19, ground := Ground.phase }, { on := 20, ground := Ground.phase }, { on := 21, ground := Ground.phase }, { on := 22, ground := Ground.phase }, { on := 23, ground := Ground.phase }, { on := 24, ground := Ground.phase }, { on := 25, ground := Ground.phase }, { on := 26, ground := Ground.phase }], guard := none }) (v := .bool true) rfl (by kernel_rfl) (by kernel_rfl) (by kernel_rfl) (fun _ _ _ h => h) (Or.inl ⟨by rfl, fun w _ => by go_simp⟩) (by assumption) ?_
      simp only [Act.put, List.setIfInBounds_toArray, List.set_cons_zero, List.set_cons_succ]
      refine wpAnyH_done (by kernel_rfl) ?_ _
      have R := hide (below_on HB2.out hHeld)
      clear hHeld
      go_wp2
      go_ret
      exact ⟨rfl, R.out⟩
  · generalize W.drew = v0 at *
    have hbn := below_new v0 (.cells P.toArray 47)
    have HB := hide (own_one v0 W.heap.size 47 33 hHeld.size P ⟨HPL.out, HP1.out⟩)
    have HS := hHeld.alloc hHeld.size (.cells P.toArray 47)
    clear hbn
    refine cstep_build1 (by rfl) 33 47 (.tmp 59) rfl _ 33 36 Try.underlying33 infoP (by omega) (by omega) P HPL.out rfl ?_
    refine hK.out _ _ ?_ (fun hHeld => ?_)
    · exact HS
    clear hK K
    try simp only [Act.put, List.setIfInBounds_toArray, List.set_cons_zero, List.set_cons_succ]
    refine wpAnyH_ready (rs := [1]) (by kernel_rfl) (by simp) (AllReadyH.cons (o := { dst := some 52, op := Op.buildSlice 33 0 #[], type := 33, pos := "law.go:199", after := #[], guard := none }) rfl (fun K hK => ?_) AllReadyH.nil)
    generalize v0.alloc (.cells P.toArray 47) = v1 at *
    have hbn := below_new v1 (.cells #[] 47)
    have HD : Hid (∀ g, (Value.slice (some ⟨v1.heap.size, 0, none⟩) 0 0).ownBlock = some g → g ≠ v0.heap.size) := hide (fun g hg => by
      have h1 := (HB.out.lt _ rfl).2
      obtain rfl : v1.heap.size = g := by simpa [Value.ownBlock] using hg
      exact Nat.ne_of_gt h1)
    have HB := hide (HB.out.move (w1 := v1.alloc (.cells #[] 47)) fun g _ hl => hbn.block g hl)
    have HA := hide (own_none v1 W.heap.size 47 33 hHeld.size)
    have HS := hHeld.alloc hHeld.size (.cells #[] 47)
    clear hbn
    refine cstep_build0 (by rfl) 33 47 rfl _ 33 36 Try.underlying33 infoP ?_
    refine hK.out _ _ ?_ (fun hHeld => ?_)
    · exact HS
    clear hK K
    try simp only [Act.put, List.setIfInBounds_toArray, List.set_cons_zero, List.set_cons_succ]
    refine wpAnyH_ready (rs := [6]) (by kernel_rfl) (by simp) (AllReadyH.cons (o := { dst := some 57, op := Op.call { callee := Callee.builtin Builtin.append, args := #[Operand.tmp 52, Operand.tmp 56], argTypes := #[33, 33] }, type := 33, pos := "law.go:199", after := #[{ on := 1, ground := Ground.data }, { on := 5, ground := Ground.data }], guard := none }) rfl (fun K hK => ?_) AllReadyH.nil)
    generalize v1.alloc (.cells #[] 47) = v2 at *
    obtain ⟨u57, v3, hrun, hown, hgr, hwh⟩ := run_append_rows v2 33 47 33 _ 33 36 Try.underlying33 infoP rfl (by omega) (by omega) W.heap.size _ [] HA.out ⟨pb, po, none⟩ (q + 1) pc ((L.map fun c => pC c.pt).take (q + 1)) (head_at (HPW.out.on hHeld) (by omega)) (fun c hc => HE.out c (List.mem_of_mem_take hc)) (by rw [List.length_take, List.length_map]; have := HLN.out; simp; omega) hHeld.size
    rw [List.nil_append] at hown
    have HD2 : Hid (∀ g, u57.ownBlock = some g → g ≠ v0.heap.size) := hide (fun g hg => by
      rcases hwh with h | h
      · exact HD.out g (h.symm.trans hg)
      · have h1 := h g hg
        have h2 := (HB.out.lt _ rfl).2
        exact Nat.ne_of_gt (Nat.lt_of_lt_of_le h2 h1))
    have HB := hide (HB.out.kept hgr (Or.inr fun e => HD.out v0.heap.size e.symm rfl))
    have HD := HD2
    clear HD2
    have HS := hHeld.grown hgr hHeld.size fun j hj => (HA.out.lt j hj).1
    have HA := hide hown
    clear hown hgr hwh
    refine step_app rfl (.tmp 52) (.tmp 56) 33 rfl rfl rfl hrun ?_
    clear hrun
    refine hK.out _ _ ?_ (fun hHeld => ?_)
    · exact HS
    clear hK K
    try simp only [Act.put, List.setIfInBounds_toArray, List.set_cons_zero, List.set_cons_succ]
    refine wpAnyH_ready (rs := [14]) (by kernel_rfl) (by simp) (AllReadyH.cons (o := { dst := some 65, op := Op.call { callee := Callee.builtin Builtin.append, args := #[Operand.tmp 60, Operand.tmp 64], argTypes := #[33, 33] }, type := 33, pos := "law.go:199", after := #[{ on := 9, ground := Ground.data }, { on := 13, ground := Ground.data }, { on := 6, ground := Ground.chain }], guard := none }) rfl (fun K hK => ?_) AllReadyH.nil)
    obtain ⟨u65, v4, hrun, hown, hgr, hwh⟩ := run_append_rows v3 33 47 33 _ 33 36 Try.underlying33 infoP rfl (by omega) (by omega) W.heap.size (.slice (some ⟨v0.heap.size, 0, none⟩) 1 1) [P] HB.out ⟨pb, to, none⟩ (L.length - (q + 1)) (pc - (q + 1)) ((L.map fun c => pC c.pt).drop (q + 1)) (HTL.out.on hHeld) (fun c hc => HE.out c (List.mem_of_mem_drop hc)) (by rw [List.length_drop, List.length_map]; have := HLN.out; simp; omega) hHeld.size
    have HS := hHeld.grown hgr hHeld.size fun j hj => (HB.out.lt j hj).1
    have HA := hide (HA.out.kept hgr (Or.inr fun e => HD.out v0.heap.size e rfl))
    obtain ⟨ua, uc, rfl, -, -⟩ := hown.row.form
    obtain ⟨ub, uo, rfl, -⟩ := hown.row.get (k := 0) (c := P) rfl
    have HR := hide hown.row
    have HRE := hide hown.2
    obtain ⟨un, hun⟩ : ∃ un, un = ([P] ++ (L.map fun c => pC c.pt).drop (q + 1)).length := ⟨_, rfl⟩
    rw [← hun] at hrun HR
    clear hun hown hgr hwh HB HD
    refine step_app rfl (.tmp 60) (.tmp 64) 33 rfl rfl rfl hrun ?_
    clear hrun
    refine hK.out _ _ ?_ (fun hHeld => ?_)
    · exact HS
    clear hK K
    try simp only [Act.put, List.setIfInBounds_toArray, List.set_cons_zero, List.set_cons_succ]
    refine wpAnyH_ready (rs := [15]) (by kernel_rfl) (by simp) (AllReadyH.cons (o := { dst := some 66, op := Op.call { callee := Callee.builtin Builtin.append, args := #[Operand.tmp 57, Operand.tmp 65], argTypes := #[33, 33] }, type := 33, pos := "law.go:199", after := #[{ on := 6, ground := Ground.data }, { on := 14, ground := Ground.data }, { on := 14, ground := Ground.chain }], guard := none }) rfl (fun K hK => ?_) AllReadyH.nil)
    obtain ⟨u66, v5, hrun, hown, hgr, hwh⟩ := run_append_rows v4 33 47 33 _ 33 36 Try.underlying33 infoP rfl (by omega) (by omega) W.heap.size u57 _ HA.out ⟨ub, uo, none⟩ un uc _ HR.out HRE.out (by rw [List.length_append, List.length_take, List.length_drop, List.length_map]; have := HLN.out; simp; omega) hHeld.size
    have HS := hHeld.grown hgr hHeld.size fun j hj => (HA.out.lt j hj).1
    rw [← HPP.out, amid_row] at hown
    have HA := hide hown
    clear hown hgr hwh HR HRE
    refine step_app rfl (.tmp 57) (.tmp 65) 33 rfl rfl rfl hrun ?_
    clear hrun
    refine hK.out _ _ ?_ (fun hHeld => ?_)
    · exact HS
    clear hK K
    try simp only [Act.put, List.setIfInBounds_toArray, List.set_cons_zero, List.set_cons_succ]
    refine wpAnyH_ready (rs := [16]) (by kernel_rfl) (by simp) (AllReadyH.cons (o := { dst := some 67, op := Op.call { callee := Callee.value (Operand.func 14), args := #[Operand.tmp 51, Operand.tmp 66], argTypes := #[25, 33] }, type := 39, pos := "law.go:199", after := #[{ on := 0, ground := Ground.data }, { on := 15, ground := Ground.data }, { on := 15, ground := Ground.chain }], guard := none }) rfl (fun K hK => ?_) AllReadyH.nil)
    have HTK := hide (take_none v5 b (some k) L (HSW.out.on hHeld) (amid L (q + 1) c.pt) u66 (own_keeps (P := off b ((some k).getD b)) HA.out fun g h1 _ => ⟨by have := HSW.out.lt; omega, by have := (HSW.out.2.2.2 k rfl).2.lt; simp; omega⟩) (amid_ok (q + 1) HOK.out HC.out.1) (by rw [amid_length]; have := HLN.out; omega) (amid_once (q + 1) HIN.out HN.out) ⟨c.pt, amid_new _ _ _, HIN.out⟩)
    refine cstep_go (vs := #[.pointer (some ⟨b, 0, none⟩), u66]) (by rfl) 14 _ Try.func14 (by kernel_rfl) (by kernel_rfl) _ _ rfl (by simp [Act.eval]) ?_
    refine HTK.out.mono ?_
    rintro e v6 ⟨rfl, hb16⟩
    have HS := below_on hHeld hb16
    clear hb16 HTK HA
    refine ⟨_, rfl, ?_⟩
    refine hK.out _ _ ?_ (fun hHeld => ?_)
    · exact HS
    clear hK K
    try simp only [Act.put, List.setIfInBounds_toArray, List.set_cons_zero, List.set_cons_succ]
    refine wpAnyH_take (i := 17) (oi := { dst := some 50, op := Op.move (Operand.tmp 67), type := 39, pos := "law.go:199", after := #[{ on := 16, ground := Ground.data }], guard := none }) (v := .tuple #[.slice none 0 0, .int .i64 9]) rfl (by kernel_rfl) (by kernel_rfl) (by kernel_rfl) (fun _ _ _ h => h) (Or.inl ⟨by rfl, fun w _ => by go_simp⟩) (by assumption) ?_
    simp only [Act.put, List.setIfInBounds_toArray, List.set_cons_zero, List.set_cons_succ]
    refine wpAnyH_take (i := 18) (oi := { dst := some 68, op := Op.extract (Operand.tmp 50) 0, type := 38, pos := "law.go:199", after := #[{ on := 17, ground := Ground.data }], guard := none }) (v := .slice none 0 0) rfl (by kernel_rfl) (by kernel_rfl) (by kernel_rfl) (fun _ _ _ h => h) (Or.inl ⟨by rfl, fun w _ => by go_simp⟩) (by assumption) ?_
    simp only [Act.put, List.setIfInBounds_toArray, List.set_cons_zero, List.set_cons_succ]
    refine wpAnyH_take (i := 19) (oi := { dst := some 69, op := Op.extract (Operand.tmp 50) 1, type := 26, pos := "law.go:199", after := #[{ on := 17, ground := Ground.data }, { on := 20, ground := Ground.gcOnly Departure.lateStores }], guard := none }) (v := .int .i64 9) rfl (by kernel_rfl) (by kernel_rfl) (by kernel_rfl) (fun _ _ _ h => h) (Or.inl ⟨by rfl, fun w _ => by go_simp⟩) (by assumption) ?_
    simp only [Act.put, List.setIfInBounds_toArray, List.set_cons_zero, List.set_cons_succ]
    refine wpAnyH_take (i := 20) (oi := { dst := some 15, op := Op.assign (Operand.tmp 68), type := 38, pos := "law.go:199", after := #[{ on := 18, ground := Ground.data }, { on := 16, ground := Ground.chain }, { on := 0, ground := Ground.phase }, { on := 1, ground := Ground.phase }, { on := 2, ground := Ground.phase }, { on := 3, ground := Ground.phase }, { on := 4, ground := Ground.phase }, { on := 5, ground := Ground.phase }, { on := 6, ground := Ground.phase }, { on := 7, ground := Ground.phase }, { on := 8, ground := Ground.phase }, { on := 9, ground := Ground.phase }, { on := 10, ground := Ground.phase }, { on := 11, ground := Ground.phase }, { on := 12, ground := Ground.phase }, { on := 13, ground := Ground.phase }, { on := 14, ground := Ground.phase }, { on := 15, ground := Ground.phase }, { on := 16, ground := Ground.phase }, { on := 17, ground := Ground.phase }, { on := 18, ground := Ground.phase }, { on := 19, ground := Ground.textOnly Departure.lateStores }], guard := none }) (v := .slice none 0 0) rfl (by kernel_rfl) (by kernel_rfl) (by kernel_rfl) (fun _ _ _ h => h) (Or.inl ⟨by rfl, fun w _ => by go_simp⟩) (by assumption) ?_
    simp only [Act.put, List.setIfInBounds_toArray, List.set_cons_zero, List.set_cons_succ]
    refine wpAnyH_take (i := 21) (oi := { dst := some 16, op := Op.assign (Operand.tmp 69), type := 26, pos := "law.go:199", after := #[{ on := 19, ground := Ground.data }, { on := 20, ground := Ground.chain }, { on := 0, ground := Ground.phase }, { on := 1, ground := Ground.phase }, { on := 2, ground := Ground.phase }, { on := 3, ground := Ground.phase }, { on := 4, ground := Ground.phase }, { on := 5, ground := Ground.phase }, { on := 6, ground := Ground.phase }, { on := 7, ground := Ground.phase }, { on := 8, ground := Ground.phase }, { on := 9, ground := Ground.phase }, { on := 10, ground := Ground.phase }, { on := 11, ground := Ground.phase }, { on := 12, ground := Ground.phase }, { on := 13, ground := Ground.phase }, { on := 14, ground := Ground.phase }, { on := 15, ground := Ground.phase }, { on := 16, ground := Ground.phase }, { on := 17, ground := Ground.phase }, { on := 18, ground := Ground.phase }, { on := 19, ground := Ground.phase }, { on := 20, ground := Ground.phase }], guard := none }) (v := .int .i64 9) rfl (by kernel_rfl) (by kernel_rfl) (by kernel_rfl) (fun _ _ _ h => h) (Or.inl ⟨by rfl, fun w _ => by go_simp⟩) (by assumption) ?_
    simp only [Act.put, List.setIfInBounds_toArray, List.set_cons_zero, List.set_cons_succ]
    refine wpAnyH_done (by kernel_rfl) ?_ _
    have HSZ := hide (HSW.out.on hHeld)
    have HBZ := hide (below_on HBW.out hHeld)
    have HCZ := hide (range_on HCW.out hHeld)
    have HWZ := hide (HWASW.out.on hHeld)
    have CA1 := hide (all_any v6 b k L HSZ.out (by have := HLN.out; omega))
    clear hHeld HSW HBW HCW HWASW HPW HPTW HTL hw1 hw2 hw3 hw4 hw5
    go_wp2_with fail
    refine CA1.out.mono ?_
    rintro e x1 ⟨y1, M1, rfl, hp1, hs1, hr1, hx1⟩
    obtain rfl : M1 = M := sort_unique hs1 HPM.out.2 (hp1.trans HPM.out.1.symm)
    have HS1 := hide (HSZ.out.on hx1)
    have HB1 := hide (below_on HBZ.out hx1)
    have HC1 := hide (range_on HCZ.out hx1)
    have HW1 := hide (HWZ.out.on hx1)
    have CS1 := hide (rsamecn_eq M1 y1 wv x1 hr1.row HW1.out (fun d hd => HOK.out d (HPM.out.1.mem_iff.1 hd)))
    clear hp1 hs1 hr1 hx1 CA1 HSZ HBZ HCZ HWZ
    go_wp2_with fail
    refine CS1.out.mono ?_
    rintro e x2 ⟨rfl, hx2⟩
    have HS2 := hide (HS1.out.on hx2)
    have HB2 := hide (below_on HB1.out hx2)
    have HC2 := hide (range_on HC1.out hx2)
    have HW2 := hide (HW1.out.on hx2)
    clear hx2 CS1 HS1 HB1 HC1 HW1
    go_upto_region 20 with fail
    have HLX := hide (range_on HLR.out HB2.out)
    have HOK2 : Hid (∀ d ∈ [c, x], CnOk d) := hide (fun d hd => by
      rcases List.mem_cons.1 hd with h | h
      · rw [h]; exact HC.out
      · rw [List.mem_singleton.1 h]; exact HOK.out x HXM.out)
    have HOK3 : Hid (∀ d ∈ [c, c, x], CnOk d) := hide (fun d hd => by
      rcases List.mem_cons.1 hd with h | h
      · rw [h]; exact HC.out
      · exact HOK2.out d h)
    have HNX2 : Hid (([c, x].map Cn.pt).Nodup) := hide (by
      rw [List.map_cons, List.map_cons, List.map_nil, List.nodup_cons]
      exact ⟨fun h => HIN.out (by rw [List.mem_singleton.1 h]; exact mem_pt HXM.out), List.pairwise_singleton _ _⟩)
    refine wp_region_held_drew (S := fun wx => Below x2.heap.size x2 wx) (by kernel_rfl) (Below.refl _ _).drew (fun hHeld => ?_)
    refine wpAnyH_take (i := 0) (oi := { dst := some 98, op := Op.move (Operand.tmp 7), type := 25, pos := "law.go:206", after := #[], guard := none }) (v := .pointer (some ⟨b, 0, none⟩)) rfl (by kernel_rfl) (by kernel_rfl) (by kernel_rfl) (fun _ _ _ h => h) (Or.inl ⟨by rfl, fun w _ => by go_simp⟩) (by assumption) ?_
    simp only [Act.put, List.setIfInBounds_toArray, List.set_cons_zero, List.set_cons_succ]
    refine wpAnyH_take (i := 1) (oi := { dst := some 99, op := Op.load 59 (Operand.tmp 4), type := 59, pos := "law.go:206", after := #[], guard := none }) (v := .agg (cnC c).toArray) rfl (by kernel_rfl) (by kernel_rfl) (by kernel_rfl) (fun _ _ _ h => h) (yieldsIf_load_mid (by rfl) 59 (.tmp 4) rfl w.heap.size 0 rfl (cnC c) _ (fun w h => range_on HC2.out h) Try.underlying59 rfl HIC.out) (by assumption) ?_
    simp only [Act.put, List.setIfInBounds_toArray, List.set_cons_zero, List.set_cons_succ]
    refine wpAnyH_take (i := 2) (oi := { dst := some 100, op := Op.move (Operand.tmp 0), type := 30, pos := "law.go:206", after := #[], guard := none }) (v := .slice (some ⟨lb, lo, none⟩) L.length cap) rfl (by kernel_rfl) (by kernel_rfl) (by kernel_rfl) (fun _ _ _ h => h) (Or.inl ⟨by rfl, fun w _ => by go_simp⟩) (by assumption) ?_
    simp only [Act.put, List.setIfInBounds_toArray, List.set_cons_zero, List.set_cons_succ]
    refine wpAnyH_take (i := 3) (oi := { dst := some 101, op := Op.move (Operand.tmp 11), type := 3, pos := "law.go:206", after := #[], guard := none }) (v := .int .i64 q) rfl (by kernel_rfl) (by kernel_rfl) (by kernel_rfl) (fun _ _ _ h => h) (Or.inl ⟨by rfl, fun w _ => by go_simp⟩) (by assumption) ?_
    simp only [Act.put, List.setIfInBounds_toArray, List.set_cons_zero, List.set_cons_succ]
    refine wpAnyH_take (i := 4) (oi := { dst := some 102, op := Op.indexAddr 30 (Operand.tmp 100) (Operand.tmp 101), type := 0, pos := "law.go:206", after := #[{ on := 2, ground := Ground.data }, { on := 3, ground := Ground.data }], guard := none }) (v := .pointer (some ⟨lb, lo + q * 66, none⟩)) rfl (by kernel_rfl) (by kernel_rfl) (by kernel_rfl) (fun _ _ _ h => h) (Or.inl ⟨by rfl, fun w _ => by go_simp⟩) (by assumption) ?_
    simp only [Act.put, List.setIfInBounds_toArray, List.set_cons_zero, List.set_cons_succ]
    refine wpAnyH_take (i := 5) (oi := { dst := some 103, op := Op.load 59 (Operand.tmp 102), type := 59, pos := "law.go:206", after := #[{ on := 4, ground := Ground.data }], guard := none }) (v := .agg (cnC x).toArray) rfl (by kernel_rfl) (by kernel_rfl) (by kernel_rfl) (fun _ _ _ h => h) (yieldsIf_load_mid (by rfl) 59 (.tmp 102) rfl lb (lo + q * 66) rfl (cnC x) _ (fun w h => range_on HLX.out h) Try.underlying59 rfl HIX.out) (by assumption) ?_
    simp only [Act.put, List.setIfInBounds_toArray, List.set_cons_zero, List.set_cons_succ]
    refine wpAnyH_ready (rs := [6]) (by kernel_rfl) (by simp) (AllReadyH.cons (o := { dst := some 104, op := Op.buildSlice 30 2 #[(0, Operand.tmp 99), (1, Operand.tmp 103)], type := 30, pos := "law.go:206", after := #[{ on := 1, ground := Ground.data }, { on := 5, ground := Ground.data }], guard := none }) rfl (fun K hK => ?_) AllReadyH.nil)
    generalize x2.drew = y0 at *
    have HV2 := hide (cns_two y0 c x HC.out (HOK.out x HXM.out))
    have HS := hHeld.alloc hHeld.size (.cells (cnC c ++ cnC x).toArray 59)
    refine cstep_build2 (by rfl) 30 59 (.tmp 99) (.tmp 103) rfl _ 66 80 Try.underlying30 infoCn (by omega) (by omega) (cnC c) (cnC x) HCL.out HXL.out rfl rfl ?_
    refine hK.out _ _ ?_ (fun hHeld => ?_)
    · exact HS
    clear hK K
    try simp only [Act.put, List.setIfInBounds_toArray, List.set_cons_zero, List.set_cons_succ]
    refine wpAnyH_ready (rs := [7]) (by kernel_rfl) (by simp) (AllReadyH.cons (o := { dst := some 105, op := Op.call { callee := Callee.value (Operand.func 12), args := #[Operand.tmp 98, Operand.tmp 104], argTypes := #[25, 30] }, type := 26, pos := "law.go:206", after := #[{ on := 0, ground := Ground.data }, { on := 6, ground := Ground.data }], guard := none }) rfl (fun K hK => ?_) AllReadyH.nil)
    generalize y0.alloc (.cells (cnC c ++ cnC x).toArray 59) = y1 at *
    have CP := hide (put_there y1 b (some k) L (HS2.out.on hHeld) [c, x] _ HV2.out HOK2.out (by simp) HNX2.out ⟨x.pt, by simp, mem_pt HXM.out⟩)
    refine cstep_go (vs := #[.pointer (some ⟨b, 0, none⟩), .slice (some ⟨y0.heap.size, 0, none⟩) 2 2]) (by rfl) 12 _ Try.func12 (by kernel_rfl) (by kernel_rfl) _ _ rfl (by simp [Act.eval]) ?_
    refine CP.out.mono ?_
    rintro e y2 ⟨rfl, hy⟩
    have HS := below_on hHeld hy
    clear hy CP HV2
    refine ⟨_, rfl, ?_⟩
    refine hK.out _ _ ?_ (fun hHeld => ?_)
    · exact HS
    clear hK K
    try simp only [Act.put, List.setIfInBounds_toArray, List.set_cons_zero, List.set_cons_succ]
    refine wpAnyH_take (i := 8) (oi := { dst := some 106, op := Op.binOp BinOp.eql 26 (Operand.tmp 105) (Operand.const (Value.int IntKind.i64 10)) 26, type := 4, pos := "law.go:206", after := #[{ on := 7, ground := Ground.data }], guard := none }) (v := .bool true) rfl (by kernel_rfl) (by kernel_rfl) (by kernel_rfl) (fun _ _ _ h => h) (Or.inl ⟨by rfl, fun w _ => by go_simp⟩) (by assumption) ?_
    simp only [Act.put, List.setIfInBounds_toArray, List.set_cons_zero, List.set_cons_succ]
    refine wpAnyH_take (i := 9) (oi := { dst := some 107, op := Op.move (Operand.tmp 106), type := 4, pos := "law.go:206", after := #[{ on := 8, ground := Ground.data }, { on := 7, ground := Ground.chain }], guard := none }) (v := .bool true) rfl (by kernel_rfl) (by kernel_rfl) (by kernel_rfl) (fun _ _ _ h => h) (Or.inl ⟨by rfl, fun w _ => by go_simp⟩) (by assumption) ?_
    simp only [Act.put, List.setIfInBounds_toArray, List.set_cons_zero, List.set_cons_succ]
    refine wpAnyH_take (i := 10) (oi := { dst := some 108, op := Op.move (Operand.tmp 7), type := 25, pos := "law.go:206", after := #[{ on := 9, ground := Ground.guard }], guard := some (9, true) }) (v := .pointer (some ⟨b, 0, none⟩)) rfl (by kernel_rfl) (by kernel_rfl) (by kernel_rfl) (fun _ _ _ h => h) (Or.inl ⟨by rfl, fun w _ => by go_simp⟩) (by assumption) ?_
    simp only [Act.put, List.setIfInBounds_toArray, List.set_cons_zero, List.set_cons_succ]
    refine wpAnyH_take (i := 11) (oi := { dst := some 109, op := Op.load 59 (Operand.tmp 4), type := 59, pos := "law.go:206", after := #[{ on := 9, ground := Ground.guard }], guard := some (9, true) }) (v := .agg (cnC c).toArray) rfl (by kernel_rfl) (by kernel_rfl) (by kernel_rfl) (fun _ _ _ h => h) (yieldsIf_load_mid (by rfl) 59 (.tmp 4) rfl w.heap.size 0 rfl (cnC c) _ (fun w h => range_on HC2.out h) Try.underlying59 rfl HIC.out) (by assumption) ?_
    simp only [Act.put, List.setIfInBounds_toArray, List.set_cons_zero, List.set_cons_succ]
    refine wpAnyH_take (i := 12) (oi := { dst := some 110, op := Op.load 59 (Operand.tmp 4), type := 59, pos := "law.go:206", after := #[{ on := 9, ground := Ground.guard }], guard := some (9, true) }) (v := .agg (cnC c).toArray) rfl (by kernel_rfl) (by kernel_rfl) (by kernel_rfl) (fun _ _ _ h => h) (yieldsIf_load_mid (by rfl) 59 (.tmp 4) rfl w.heap.size 0 rfl (cnC c) _ (fun w h => range_on HC2.out h) Try.underlying59 rfl HIC.out) (by assumption) ?_
    simp only [Act.put, List.setIfInBounds_toArray, List.set_cons_zero, List.set_cons_succ]
    refine wpAnyH_take (i := 13) (oi := { dst := some 111, op := Op.move (Operand.tmp 0), type := 30, pos := "law.go:206", after := #[{ on := 9, ground := Ground.guard }], guard := some (9, true) }) (v := .slice (some ⟨lb, lo, none⟩) L.length cap) rfl (by kernel_rfl) (by kernel_rfl) (by kernel_rfl) (fun _ _ _ h => h) (Or.inl ⟨by rfl, fun w _ => by go_simp⟩) (by assumption) ?_
    simp only [Act.put, List.setIfInBounds_toArray, List.set_cons_zero, List.set_cons_succ]
    refine wpAnyH_take (i := 14) (oi := { dst := some 112, op := Op.move (Operand.tmp 11), type := 3, pos := "law.go:206", after := #[{ on := 9, ground := Ground.guard }], guard := some (9, true) }) (v := .int .i64 q) rfl (by kernel_rfl) (by kernel_rfl) (by kernel_rfl) (fun _ _ _ h => h) (Or.inl ⟨by rfl, fun w _ => by go_simp⟩) (by assumption) ?_
    simp only [Act.put, List.setIfInBounds_toArray, List.set_cons_zero, List.set_cons_succ]
    refine wpAnyH_take (i := 15) (oi := { dst := some 113, op := Op.indexAddr 30 (Operand.tmp 111) (Operand.tmp 112), type := 0, pos := "law.go:206", after := #[{ on := 13, ground := Ground.data }, { on := 14, ground := Ground.data }, { on := 9, ground := Ground.guard }], guard := some (9, true) }) (v := .pointer (some ⟨lb, lo + q * 66, none⟩)) rfl (by kernel_rfl) (by kernel_rfl) (by kernel_rfl) (fun _ _ _ h => h) (Or.inl ⟨by rfl, fun w _ => by go_simp⟩) (by assumption) ?_
    simp only [Act.put, List.setIfInBounds_toArray, List.set_cons_zero, List.set_cons_succ]
    refine wpAnyH_take (i := 16) (oi := { dst := some 114, op := Op.load 59 (Operand.tmp 113), type := 59, pos := "law.go:206", after := #[{ on := 15, ground := Ground.data }, { on := 9, ground := Ground.guard }], guard := some (9, true) }) (v := .agg (cnC x).toArray) rfl (by kernel_rfl) (by kernel_rfl) (by kernel_rfl) (fun _ _ _ h => h) (yieldsIf_load_mid (by rfl) 59 (.tmp 113) rfl lb (lo + q * 66) rfl (cnC x) _ (fun w h => range_on HLX.out h) Try.underlying59 rfl HIX.out) (by assumption) ?_
    simp only [Act.put, List.setIfInBounds_toArray, List.set_cons_zero, List.set_cons_succ]
    refine wpAnyH_ready (rs := [17]) (by kernel_rfl) (by simp) (AllReadyH.cons (o := { dst := some 115, op := Op.buildSlice 30 3 #[(0, Operand.tmp 109), (1, Operand.tmp 110), (2, Operand.tmp 114)], type := 30, pos := "law.go:206", after := #[{ on := 11, ground := Ground.data }, { on := 12, ground := Ground.data }, { on := 16, ground := Ground.data }, { on := 9, ground := Ground.guard }], guard := some (9, true) }) rfl (fun K hK => ?_) AllReadyH.nil)
    have HV3 := hide (cns_three y2 c c x HC.out HC.out)
    have HS := hHeld.alloc hHeld.size (.cells (cnC c ++ (cnC c ++ cnC x)).toArray 59)
    refine cstep_build3 (by rfl) 30 59 (.tmp 109) (.tmp 110) (.tmp 114) rfl _ 66 80 Try.underlying30 infoCn (by omega) (by omega) (cnC c) (cnC c) (cnC x) HCL.out HCL.out HXL.out rfl rfl rfl ?_
    refine hK.out _ _ ?_ (fun hHeld => ?_)
    · exact HS
    clear hK K
    try simp only [Act.put, List.setIfInBounds_toArray, List.set_cons_zero, List.set_cons_succ]
    refine wpAnyH_ready (rs := [18]) (by kernel_rfl) (by simp) (AllReadyH.cons (o := { dst := some 116, op := Op.call { callee := Callee.value (Operand.func 12), args := #[Operand.tmp 108, Operand.tmp 115], argTypes := #[25, 30] }, type := 26, pos := "law.go:206", after := #[{ on := 10, ground := Ground.data }, { on := 17, ground := Ground.data }, { on := 9, ground := Ground.chain }, { on := 9, ground := Ground.guard }], guard := some (9, true) }) rfl (fun K hK => ?_) AllReadyH.nil)
    generalize y2.alloc (.cells (cnC c ++ (cnC c ++ cnC x)).toArray 59) = y3 at *
    have CP := hide (put_twice y3 b (some k) L (HS2.out.on hHeld) [c, c, x] _ HV3.out HOK3.out (by simp) (by simp))
    refine cstep_go (vs := #[.pointer (some ⟨b, 0, none⟩), .slice (some ⟨y2.heap.size, 0, none⟩) 3 3]) (by rfl) 12 _ Try.func12 (by kernel_rfl) (by kernel_rfl) _ _ rfl (by simp [Act.eval]) ?_
    refine CP.out.mono ?_
    rintro e y4 ⟨rfl, hy⟩
    have HS := below_on hHeld hy
    clear hy CP HV3
    refine ⟨_, rfl, ?_⟩
    refine hK.out _ _ ?_ (fun hHeld => ?_)
    · exact HS
    clear hK K
    try simp only [Act.put, List.setIfInBounds_toArray, List.set_cons_zero, List.set_cons_succ]
    refine wpAnyH_take (i := 19) (oi := { dst := some 117, op := Op.binOp BinOp.eql 26 (Operand.tmp 116) (Operand.const (Value.int IntKind.i64 12)) 26, type := 4, pos := "law.go:206", after := #[{ on := 18, ground := Ground.data }, { on := 9, ground := Ground.guard }], guard := some (9, true) }) (v := .bool true) rfl (by kernel_rfl) (by kernel_rfl) (by kernel_rfl) (fun _ _ _ h => h) (Or.inl ⟨by rfl, fun w _ => by go_simp⟩) (by assumption) ?_
    simp only [Act.put, List.setIfInBounds_toArray, List.set_cons_zero, List.set_cons_succ]
    refine wpAnyH_take (i := 20) (oi := { dst := some 118, op := Op.pick (Operand.tmp 107) (Operand.tmp 117) (Operand.const (Value.bool false)), type := 4, pos := "law.go:206", after := #[{ on := 9, ground := Ground.data }, { on := 19, ground := Ground.data }], guard := none }) (v := .bool true) rfl (by kernel_rfl) (by kernel_rfl) (by kernel_rfl) (fun _ _ _ h => h) (Or.inl ⟨by rfl, fun w _ => by go_simp⟩) (by assumption) ?_
    simp only [Act.put, List.setIfInBounds_toArray, List.set_cons_zero, List.set_cons_succ]
    refine wpAnyH_take (i := 21) (oi := { dst := some 119, op := Op.move (Operand.tmp 118), type := 4, pos := "law.go:206", after := #[{ on := 20, ground := Ground.data }, { on := 18, ground := Ground.chain }], guard := none }) (v := .bool true) rfl (by kernel_rfl) (by kernel_rfl) (by kernel_rfl) (fun _ _ _ h => h) (Or.inl ⟨by rfl, fun w _ => by go_simp⟩) (by assumption) ?_
    simp only [Act.put, List.setIfInBounds_toArray, List.set_cons_zero, List.set_cons_succ]
    refine wpAnyH_take (i := 22) (oi := { dst := some 120, op := Op.move (Operand.tmp 7), type := 25, pos := "law.go:206", after := #[{ on := 21, ground := Ground.guard }], guard := some (21, true) }) (v := .pointer (some ⟨b, 0, none⟩)) rfl (by kernel_rfl) (by kernel_rfl) (by kernel_rfl) (fun _ _ _ h => h) (Or.inl ⟨by rfl, fun w _ => by go_simp⟩) (by assumption) ?_
    simp only [Act.put, List.setIfInBounds_toArray, List.set_cons_zero, List.set_cons_succ]
    refine wpAnyH_take (i := 24) (oi := { dst := some 122, op := Op.move (Operand.tmp 9), type := 30, pos := "law.go:206", after := #[{ on := 21, ground := Ground.guard }], guard := some (21, true) }) (v := wv) rfl (by kernel_rfl) (by kernel_rfl) (by kernel_rfl) (fun _ _ _ h => h) (Or.inl ⟨by rfl, fun w _ => by go_simp⟩) (by assumption) ?_
    simp only [Act.put, List.setIfInBounds_toArray, List.set_cons_zero, List.set_cons_succ]
    refine wpAnyH_ready (rs := [23]) (by kernel_rfl) (by simp) (AllReadyH.cons (o := { dst := some 121, op := Op.call { callee := Callee.value (Operand.func 20), args := #[Operand.tmp 120], argTypes := #[25] }, type := 30, pos := "law.go:206", after := #[{ on := 22, ground := Ground.data }, { on := 21, ground := Ground.chain }, { on := 21, ground := Ground.guard }], guard := some (21, true) }) rfl (fun K hK => ?_) AllReadyH.nil)
    have CA2 := hide (all_any y4 b k L (HS2.out.on hHeld) (by have := HLN.out; omega))
    refine cstep_go (vs := #[.pointer (some ⟨b, 0, none⟩)]) (by rfl) 20 _ Try.func20 (by kernel_rfl) (by kernel_rfl) _ _ rfl (by simp [Act.eval]) ?_
    refine CA2.out.mono ?_
    rintro e y5 ⟨u2, M2, rfl, hp2, hs2, hr2, hy⟩
    obtain rfl : M2 = M1 := sort_unique hs2 HPM.out.2 (hp2.trans HPM.out.1.symm)
    have HR2 : Hid (CnsAt y5 u2 M2) := hide hr2.row
    have HS := below_on hHeld hy
    clear hp2 hs2 hr2 hy CA2
    refine ⟨_, rfl, ?_⟩
    refine hK.out _ _ ?_ (fun hHeld => ?_)
    · exact HS
    clear hK K
    try simp only [Act.put, List.setIfInBounds_toArray, List.set_cons_zero, List.set_cons_succ]
    refine wpAnyH_ready (rs := [25]) (by kernel_rfl) (by simp) (AllReadyH.cons (o := { dst := some 123, op := Op.call { callee := Callee.value (Operand.func 19), args := #[Operand.tmp 121, Operand.tmp 122], argTypes := #[30, 30] }, type := 4, pos := "law.go:206", after := #[{ on := 23, ground := Ground.data }, { on := 24, ground := Ground.data }, { on := 23, ground := Ground.chain }, { on := 21, ground := Ground.guard }], guard := some (21, true) }) rfl (fun K hK => ?_) AllReadyH.nil)
    have CS2 := hide (rsamecn_eq M2 u2 wv y5 HR2.out (HW2.out.on hHeld) (fun d hd => HOK.out d (HPM.out.1.mem_iff.1 hd)))
    refine cstep_go (vs := #[u2, wv]) (by rfl) 19 _ Try.func19 (by kernel_rfl) (by kernel_rfl) _ _ rfl (by simp [Act.eval]) ?_
    refine CS2.out.mono ?_
    rintro e y6 ⟨rfl, hy⟩
    have HS := below_on hHeld hy
    clear hy CS2 HR2
    refine ⟨_, rfl, ?_⟩
    refine hK.out _ _ ?_ (fun hHeld => ?_)
    · exact HS
    clear hK K
    try simp only [Act.put, List.setIfInBounds_toArray, List.set_cons_zero, List.set_cons_succ]
    refine wpAnyH_take (i := 26) (oi := { dst := some 124, op := Op.pick (Operand.tmp 119) (Operand.tmp 123) (Operand.const (Value.bool false)), type := 4, pos := "law.go:206", after := #[{ on := 21, ground := Ground.data }, { on := 25, ground := Ground.data }], guard := none }) (v := .bool true) rfl (by kernel_rfl) (by kernel_rfl) (by kernel_rfl) (fun _ _ _ h => h) (Or.inl ⟨by rfl, fun w _ => by go_simp⟩) (by assumption) ?_
    simp only [Act.put, List.setIfInBounds_toArray, List.set_cons_zero, List.set_cons_succ]
    refine wpAnyH_take (i := 27) (oi := { dst := some 6, op := Op.assign (Operand.tmp 124), type := 4, pos := "law.go:206", after := #[{ on := 26, ground := Ground.data }, { on := 25, ground := Ground.chain }, { on := 0, ground := Ground.phase }, { on := 1, ground := Ground.phase }, { on := 2, ground := Ground.phase }, { on := 3, ground := Ground.phase }, { on := 4, ground := Ground.phase }, { on := 5, ground := Ground.phase }, { on := 6, ground := Ground.phase }, { on := 7, ground := Ground.phase }, { on := 8, ground := Ground.phase }, { on := 9, ground := Ground.phase }, { on := 10, ground := Ground.phase }, { on := 11, ground := Ground.phase }, { on := 12, ground := Ground.phase }, { on := 13, ground := Ground.phase }, { on := 14, ground := Ground.phase }, { on := 15, ground := Ground.phase }, { on := 16, ground := Ground.phase }, { on := 17, ground := Ground.phase }, { on := 18, ground := Ground.phase }, { on := 19, ground := Ground.phase }, { on := 20, ground := Ground.phase }, { on := 21, ground := Ground.phase }, { on := 22, ground := Ground.phase }, { on := 23, ground := Ground.phase }, { on := 24, ground := Ground.phase }, { on := 25, ground := Ground.phase }, { on := 26, ground := Ground.phase }], guard := none }) (v := .bool true) rfl (by kernel_rfl) (by kernel_rfl) (by kernel_rfl) (fun _ _ _ h => h) (Or.inl ⟨by rfl, fun w _ => by go_simp⟩) (by assumption) ?_
    simp only [Act.put, List.setIfInBounds_toArray, List.set_cons_zero, List.set_cons_succ]
    refine wpAnyH_done (by kernel_rfl) ?_ _
    have R := hide (below_on HB2.out hHeld)
    clear hHeld
    go_wp2
    go_ret
    exact ⟨rfl, R.out⟩
theorem coinRefuses_any {w : World} (v : Value) (L : List Cn) (hok : ∀ c ∈ L, CnOk c) (hV : CnsAt w v L) (c : Cn) (hc : CnOk c) (n : Int) (hn : Byte n) :
    Calls Try.prog 7 #[v, .agg (cnC c).toArray, .int .u8 n] w fun e w' => e = .returned (.bool true) ∧ Below w.heap.size w w' := by
  by_cases h1 : L.length ≤ 300
  · by_cases h0 : 0 < L.length
    · rcases nodup_or L with hN | hN
      · by_cases hin : c.pt ∈ L.map Cn.pt
        · exact refuses_in w v L c n hV hok hc hn h1 h0 hN hin
        · exact refuses_out w v L c n hV hok hc hn h1 h0 hN hin
      · exact refuses_twice w v L c n hV hok h1 h0 hN
    · obtain rfl : L = [] := List.length_eq_zero_iff.1 (by omega)
      exact refuses_empty w v c n hV
  · exact refuses_long w v L c n hV (by omega)
set_option maxRecDepth 100000 in
theorem coinRefuses_lifted (os : Os) (started : os.Started) (H : Type) (enc : TypeId × Value → H) :
    ReturnsInHanded {} Try.checked os 7 .any (Rows.coinRefusesSpec.pre6 enc Try.prog Try.f7 Rows.coinRefusesRow.domain false) (Rows.coinRefusesSpec.post enc Try.prog Try.f7 false true false false) := by
  refine returnsInHanded_of_change (C := Try.checked) own started (by kernel_rfl) Try.func7
    (ChangeSpec.witness6 (enc := enc) (C := Try.checked) false ⟨#[], #[.slice none 0 0, .agg (List.toArray (.int .u8 0 :: .int .u8 0 :: .int .u8 0 :: .int .u8 0 :: .int .u8 0 :: .int .u8 0 :: .int .u8 0 :: .int .u8 0 :: .int .u8 0 :: .int .u8 0 :: .int .u8 0 :: .int .u8 0 :: .int .u8 0 :: .int .u8 0 :: .int .u8 0 :: .int .u8 0 :: .int .u8 0 :: .int .u8 0 :: .int .u8 0 :: .int .u8 0 :: .int .u8 0 :: .int .u8 0 :: .int .u8 0 :: .int .u8 0 :: .int .u8 0 :: .int .u8 0 :: .int .u8 0 :: .int .u8 0 :: .int .u8 0 :: .int .u8 0 :: .int .u8 0 :: .int .u8 0 :: .int .u32 0 :: .int .u64 0 :: .int .u8 0 :: .int .u8 0 :: .int .u8 0 :: .int .u8 0 :: .int .u8 0 :: .int .u8 0 :: .int .u8 0 :: .int .u8 0 :: .int .u8 0 :: .int .u8 0 :: .int .u8 0 :: .int .u8 0 :: .int .u8 0 :: .int .u8 0 :: .int .u8 0 :: .int .u8 0 :: .int .u8 0 :: .int .u8 0 :: .int .u8 0 :: .int .u8 0 :: .int .u8 0 :: .int .u8 0 :: .int .u8 0 :: .int .u8 0 :: .int .u8 0 :: .int .u8 0 :: .int .u8 0 :: .int .u8 0 :: .int .u8 0 :: .int .u8 0 :: .int .u8 0 :: .int .u8 0 :: [])), .int .u8 0], []⟩ 8 (by kernel_rfl) (by kernel_rfl) (by kernel_rfl) (by kernel_rfl)) ?_
  intro W base args ds gs before hval0 hW hcnd _
  have hval : ∀ (j : Nat) t v, Try.f7.params[j]? = some t → args[j]? = some v → Value.okWide Try.prog W .any base t v := hval0
  have hW' := hW
  obtain ⟨p, q, hA0, hV, rfl, hfz, hnd⟩ := hW
  have hA : DataW.TrodAll enc Try.prog W 0 (fun _ => true) true Try.f7.params.toList args.toList ds p := hA0
  rw [Try.params7] at hA hval
  obtain ⟨v0, vs0, d0, ds0, p0, q0, hargs, rfl, rfl, h0, r0⟩ := trodAll_cons hA
  obtain ⟨v1, vs1, d1, ds1, p1, q1, rfl, rfl, rfl, h1, r1⟩ := trodAll_cons r0
  obtain ⟨v2, vs2, d2, ds2, p2, q2, rfl, rfl, rfl, h2, r2⟩ := trodAll_cons r1
  obtain ⟨rfl, rfl, rfl⟩ := trodAll_nil r2
  obtain rfl : args = #[v0, v1, v2] := by cases args; simp_all
  obtain ⟨rfl, rfl⟩ := trodVars_none hV
  have k0 := h0
  have lt0 : ∀ x ∈ p0, x.block < W.heap.size := by obtain ⟨m, hm⟩ := k0; exact DataW.trod_lt m _ _ _ hm
  obtain ⟨l0, s0, w0⟩ := cns_arg (hval 0 30 v0 rfl rfl) h0
  have k1 := h1
  have lt1 : ∀ x ∈ p1, x.block < W.heap.size := by obtain ⟨m, hm⟩ := k1; exact DataW.trod_lt m _ _ _ hm
  obtain ⟨l1, rfl, w1⟩ := cn_arg (hval 1 59 v1 rfl rfl) h1
  obtain ⟨a2, rfl, rfl, rfl, w2⟩ := open_int Try.underlying5 (hval 2 5 v2 rfl rfl) h2
  clear hA0 hval0
  refine (coinRefuses_any (w := W) _ l0 w0 s0 l1 w1 a2 (byte_of_wf w2)).mono fun e W' ⟨he, bel⟩ => ?_
  subst he
  exact ⟨_, rfl, _, _, _, [], _, [], hW', trodAll_mk1 (shut_bool Try.underlying4 _), (trodAll_cons_mk (Below.trod laidOut (by kernel_rfl) (of_decide_eq_true (by kernel_rfl)) k0 bel lt0) (trodAll_cons_mk (Below.trod laidOut (by kernel_rfl) (of_decide_eq_true (by kernel_rfl)) k1 bel lt1) (trodAll_cons_mk (shut_int Try.underlying5 w2) trodAll_mk0))), rfl, bel.frame _, fun h => by cases h⟩

theorem coinRefuses_holds : Rows.CoinRefusesSaid :=
  OpenClaim.holds_of_wide 7 Try.f7 rfl rfl rfl rfl rfl rfl rfl ⟨rfl, rfl, rfl, rfl, rfl⟩ rfl rfl rfl rfl rfl (by kernel_rfl) Try.func7 (by kernel_rfl)
    (of_decide_eq_true (by kernel_rfl)) (by unfold Func.isWrapper; first | (rw [if_pos (by decide +kernel)]; kernel_rfl) | (rw [if_neg (by decide +kernel)]; exact ⟨rfl, rfl⟩))
    (fun os started H enc _ => coinRefuses_lifted os started H enc)
#print axioms coinRefuses_holds

end Go.Proofs.Ytkemdfikcmgaaaa
