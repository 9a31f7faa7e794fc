/-
  What the layer's alive and many answer at this program.
-/
import Derived.Test.YtkemdfikcmgaaaaCoNew
import Derived.Test.YtkemdfikcmgaaaaCoFind
import Derived.Test.YtkemdfikcmgaaaaCoAll
import Derived.Test.YtkemdfikcmgaaaaCoStep
import Derived.Test.YtkemdfikcmgaaaaRefCoSame
namespace Go.Proofs.Ytkemdfikcmgaaaa
open Go.RowKit

theorem many_any (n : Nat) (a : Option Addr) (cap : Nat) (w : World) :
    Calls Try.prog 22 #[.slice a n cap] w fun e w' => e = .returned (.bool (decide (300 < (n : Int)))) ∧ w' = w := by
  go_enter Try.func22, Try.ntmps22
  go_wp2
  go_ret
  exact ⟨rfl, rfl⟩
theorem many_no (n : Nat) (a : Option Addr) (cap : Nat) (w : World) (hn : n ≤ 300) : Calls Try.prog 22 #[.slice a n cap] w fun e w' => e = .returned (.bool false) ∧ w' = w := by
  refine (many_any n a cap w).mono ?_
  rintro e w' ⟨rfl, rfl⟩
  rw [decide_eq_false (by omega)]
  exact ⟨rfl, rfl⟩
theorem many_yes (n : Nat) (a : Option Addr) (cap : Nat) (w : World) (hn : 300 < n) : Calls Try.prog 22 #[.slice a n cap] w fun e w' => e = .returned (.bool true) ∧ w' = w := by
  refine (many_any n a cap w).mono ?_
  rintro e w' ⟨rfl, rfl⟩
  rw [decide_eq_true (by omega)]
  exact ⟨rfl, rfl⟩
def hA : List Int := 1 :: List.replicate 31 0
def cA : Cn := ⟨hA, 9, ⟨5, List.replicate 32 0⟩⟩
def cB : Cn := ⟨hA, 3, noOut⟩
theorem hA_ok : hA.length = 32 ∧ AllB hA := ⟨rfl, by unfold AllB Byte hA; decide⟩
theorem cA_ok : CnOk cA := ⟨⟨hA_ok.1, hA_ok.2, by decide, by decide⟩, by decide, rfl, by unfold AllB Byte cA; decide⟩
theorem cB_ok : CnOk cB := ⟨⟨hA_ok.1, hA_ok.2, by decide, by decide⟩, noOut_ok⟩
theorem cAB_ok : ∀ c ∈ [cA, cB], CnOk c := by
  intro c hc
  rcases List.mem_cons.1 hc with rfl | hc
  · exact cA_ok
  · rw [List.mem_singleton.1 hc]; exact cB_ok
theorem cAB_ne : cA.pt ≠ cB.pt := fun h => by
  have := congrArg Prod.snd h
  have h2 : (9 : Int) = 3 := this
  omega
theorem cAB_nodup : ([cA, cB].map Cn.pt).Nodup := by
  rw [List.map_cons, List.map_cons, List.map_nil, List.nodup_cons]
  exact ⟨fun h => cAB_ne (List.mem_singleton.1 h), List.pairwise_singleton _ _⟩
theorem cBA_sorted : SortC [cB, cA] := by
  refine List.pairwise_cons.2 ⟨fun c hc => ?_, List.pairwise_singleton _ _⟩
  rw [List.mem_singleton.1 hc]
  show cmpPt (hA, 3) (hA, 9) < 0
  unfold cmpPt
  rw [if_pos (lexB_self hA)]
  decide
set_option maxRecDepth 100000 in
set_option maxHeartbeats 600000 in
theorem alive9_any (w : World) : Calls Try.prog 9 #[] w fun e w' => e = .returned (.bool true) ∧ Below w.heap.size w w' := by
  have HLA := hide (cnC_length cA_ok)
  have HLB := hide (cnC_length cB_ok)
  have HIA : Hid ((Try.prog.info? 59).map (·.size) = some (cnC cA).length) := hide (by rw [HLA.out]; exact info_cn)
  have HIB : Hid ((Try.prog.info? 59).map (·.size) = some (cnC cB).length) := hide (by rw [HLB.out]; exact info_cn)
  have HTA : Hid (∀ w : World, (w.alloc (.cells coinZ 59)).there w.heap.size 0 (cnC cA).length) := hide (fun w => by rw [HLA.out]; exact cn_there w)
  have HTB : Hid (∀ w : World, (w.alloc (.cells coinZ 59)).there w.heap.size 0 (cnC cB).length) := hide (fun w => by rw [HLB.out]; exact cn_there w)
  have hz := zero_cn w
  go_enter Try.func9, Try.ntmps9
  go_upto_region 2 with (first
    | (refine cw_const rfl 44 _ rfl (v := .agg (vals .u8 hA).toArray) (by kernel_rfl) ?_)
    | (refine cw_const rfl 47 _ rfl (v := .agg (pC cA.pt).toArray) (by kernel_rfl) ?_)
    | (refine cw_const rfl 50 _ rfl (v := .agg (outC cA.out).toArray) (by kernel_rfl) ?_)
    | (refine cw_const rfl 59 _ rfl (v := .agg (cnC cA).toArray) (by kernel_rfl) ?_)
    | (refine wp_store_row rfl 59 (.tmp 1) (.tmp 10) rfl w.heap.size 0 (cnC cA) rfl rfl (HTA.out w) HIA.out (cnC_one _) ?_))
  have HRA : Hid (((w.alloc (.cells coinZ 59)).setCells w.heap.size 0 (cnC cA)).rangeAt w.heap.size 0 (cnC cA)) := hide (World.rangeAt_setCells_same _ _ _ _ (HTA.out w))
  have HB1 : Hid (Below w.heap.size w ((w.alloc (.cells coinZ 59)).setCells w.heap.size 0 (cnC cA))) := hide (below_sets (Nat.le_refl _) _ _ _ (below_new w _))
  clear hz
  generalize (w.alloc (.cells coinZ 59)).setCells w.heap.size 0 (cnC cA) = W1 at *
  generalize hg : w.heap.size = g at *
  have HG := hide hg
  clear hg
  try simp only [Act.put]
  have hz := zero_cn W1
  go_upto_region 3 with (first
    | (refine cw_const rfl 44 _ rfl (v := .agg (vals .u8 hA).toArray) (by kernel_rfl) ?_)
    | (refine cw_const rfl 47 _ rfl (v := .agg (pC cB.pt).toArray) (by kernel_rfl) ?_)
    | (refine cw_const rfl 59 _ rfl (v := .agg (cnC cB).toArray) (by kernel_rfl) ?_)
    | (refine wp_store_row rfl 59 (.tmp 2) (.tmp 13) rfl W1.heap.size 0 (cnC cB) rfl rfl (HTB.out W1) HIB.out (cnC_one _) ?_))
  have HRB : Hid (((W1.alloc (.cells coinZ 59)).setCells W1.heap.size 0 (cnC cB)).rangeAt W1.heap.size 0 (cnC cB)) := hide (World.rangeAt_setCells_same _ _ _ _ (HTB.out W1))
  have HB2 : Hid (Below W1.heap.size W1 ((W1.alloc (.cells coinZ 59)).setCells W1.heap.size 0 (cnC cB))) := hide (below_sets (Nat.le_refl _) _ _ _ (below_new W1 _))
  clear hz HTA HTB
  generalize (W1.alloc (.cells coinZ 59)).setCells W1.heap.size 0 (cnC cB) = W2 at *
  have HRA2 := hide (range_on HRA.out HB2.out)
  have HB02 : Hid (Below g w W2) := hide (by have h := HB1.out; rw [← HG.out] at h ⊢; exact below_on h HB2.out)
  clear HRA HB1 HB2
  generalize W1.heap.size = q at *
  try simp only [Act.put]
  -- New
  have HC3 := hide (cns_two W2 cA cB cA_ok cB_ok)
  have HB3 := hide (below_new W2 (.cells (cnC cA ++ cnC cB).toArray 59))
  go_wp2_with (first
    | (refine cw_load (by rfl) 59 (.tmp 1) rfl g 0 rfl (cnC cA) _ HRA2.out Try.underlying59 rfl HIA.out ?_)
    | (refine cw_load (by rfl) 59 (.tmp 2) rfl q 0 rfl (cnC cB) _ HRB.out Try.underlying59 rfl HIB.out ?_)
    | (refine cw_build2 (by rfl) 30 59 (.tmp 15) (.tmp 16) rfl _ 66 80 Try.underlying30 infoCn (by omega) (by omega) (cnC cA) (cnC cB) HLA.out HLB.out rfl rfl ?_))
  generalize W2.alloc (.cells (cnC cA ++ cnC cB).toArray 59) = W3 at *
  have HRA3 := hide (range_on HRA2.out HB3.out)
  have HRB3 := hide (range_on HRB.out HB3.out)
  have HB03 : Hid (Below g w W3) := hide (by have h := HB02.out; rw [← HG.out] at h ⊢; exact below_on h HB3.out)
  clear HRA2 HRB HB02 HB3
  generalize W2.heap.size = q2 at *
  refine (new_ok [cA, cB] _ _ HC3.out cAB_ok (by decide) cAB_nodup).mono ?_
  rintro e W4 ⟨b, k, rfl, hset, -, -, hb4⟩
  have HS4 := hide hset
  have HRA4 := hide (range_on HRA3.out hb4)
  have HRB4 := hide (range_on HRB3.out hb4)
  have HB4 : Hid (Below g w W4) := hide (by have h := HB03.out; rw [← HG.out] at h ⊢; exact below_on h hb4)
  clear hset hb4 HRA3 HRB3 HB03 HC3
  -- Put of one that is there
  have HC5 := hide (cns_one W4 cB cB_ok)
  have HB5 := hide (below_new W4 (.cells (cnC cB).toArray 59))
  go_wp2_with (first
    | (refine cw_load (by rfl) 59 (.tmp 1) rfl g 0 rfl (cnC cA) _ HRA4.out Try.underlying59 rfl HIA.out ?_)
    | (refine cw_load (by rfl) 59 (.tmp 2) rfl q 0 rfl (cnC cB) _ HRB4.out Try.underlying59 rfl HIB.out ?_)
    | (refine cw_build1 (by rfl) 30 59 (.tmp 29) rfl _ 66 80 Try.underlying30 infoCn (by omega) (by omega) (cnC cB) HLB.out rfl ?_))
  generalize W4.alloc (.cells (cnC cB).toArray 59) = W5 at *
  have HS5 := hide (HS4.out.on HB5.out)
  have HRA5 := hide (range_on HRA4.out HB5.out)
  have HRB5 := hide (range_on HRB4.out HB5.out)
  have HB05 : Hid (Below g w W5) := hide (by have h := HB4.out; rw [← HG.out] at h ⊢; exact below_on h HB5.out)
  clear HB5 HRA4 HRB4 HS4 HB4
  generalize W4.heap.size = q4 at *
  refine (put_there W5 b _ _ HS5.out [cB] _ HC5.out (fun c hc => by rw [List.mem_singleton.1 hc]; exact cB_ok) (by decide) (List.pairwise_singleton _ _) ⟨cB.pt, by simp, by simp⟩).mono ?_
  rintro e W6 ⟨rfl, hb6⟩
  have HS6 := hide (HS5.out.on hb6)
  have HRA6 := hide (range_on HRA5.out hb6)
  have HRB6 := hide (range_on HRB5.out hb6)
  have HB06 : Hid (Below g w W6) := hide (by have h := HB05.out; rw [← HG.out] at h ⊢; exact below_on h hb6)
  clear hb6 HC5 HS5 HRA5 HRB5 HB05
  -- Put of one twice
  have HC7 := hide (cns_two W6 cA cA cA_ok cA_ok)
  have HB7 := hide (below_new W6 (.cells (cnC cA ++ cnC cA).toArray 59))
  go_wp2_with (first
    | (refine cw_load (by rfl) 59 (.tmp 1) rfl g 0 rfl (cnC cA) _ HRA6.out Try.underlying59 rfl HIA.out ?_)
    | (refine cw_build2 (by rfl) 30 59 (.tmp 36) (.tmp 37) rfl _ 66 80 Try.underlying30 infoCn (by omega) (by omega) (cnC cA) (cnC cA) HLA.out HLA.out rfl rfl ?_))
  generalize W6.alloc (.cells (cnC cA ++ cnC cA).toArray 59) = W7 at *
  have HS7 := hide (HS6.out.on HB7.out)
  have HRA7 := hide (range_on HRA6.out HB7.out)
  have HRB7 := hide (range_on HRB6.out HB7.out)
  have HB07 : Hid (Below g w W7) := hide (by have h := HB06.out; rw [← HG.out] at h ⊢; exact below_on h HB7.out)
  clear HB7 HRA6 HRB6 HS6 HB06
  generalize W6.heap.size = q6 at *
  refine (put_twice W7 b _ _ HS7.out [cA, cA] _ HC7.out (fun c hc => by simp at hc; rw [hc]; exact cA_ok) (by decide) (by simp)).mono ?_
  rintro e W8 ⟨rfl, hb8⟩
  have HS8 := hide (HS7.out.on hb8)
  have HRA8 := hide (range_on HRA7.out hb8)
  have HRB8 := hide (range_on HRB7.out hb8)
  have HB08 : Hid (Below g w W8) := hide (by have h := HB07.out; rw [← HG.out] at h ⊢; exact below_on h hb8)
  clear hb8 HC7 HS7 HRA7 HRB7 HB07
  -- Find
  have HPA := hide (cn_range HRA8.out cA_ok).1
  have HIPA : Hid ((Try.prog.info? 47).map (·.size) = some (pC cA.pt).length) := hide (by rw [pC_length cA_ok.1]; exact info_pt)
  have HIO : Hid ((Try.prog.info? 50).map (·.size) = some (outC cA.out).length) := hide (by rw [outC_length rfl]; exact info_out)
  have HTO : Hid (∀ w : World, (w.alloc (.cells #[.int .u64 0, .int .u8 0, .int .u8 0, .int .u8 0, .int .u8 0, .int .u8 0, .int .u8 0, .int .u8 0, .int .u8 0, .int .u8 0, .int .u8 0, .int .u8 0, .int .u8 0, .int .u8 0, .int .u8 0, .int .u8 0, .int .u8 0, .int .u8 0, .int .u8 0, .int .u8 0, .int .u8 0, .int .u8 0, .int .u8 0, .int .u8 0, .int .u8 0, .int .u8 0, .int .u8 0, .int .u8 0, .int .u8 0, .int .u8 0, .int .u8 0, .int .u8 0, .int .u8 0] 50)).there w.heap.size 0 (outC cA.out).length) := hide (fun w => by rw [outC_length rfl]; exact o_there w)
  have CF := hide (find_any W8 b _ _ HS8.out cA.pt cA_ok.1 cA.out true (Or.inl ⟨rfl, cA, by simp, rfl, rfl⟩))
  have HX0 : Hid ((outC cA.out)[0]? = some (.int .u64 5)) := hide rfl
  have HX1 := hide (outC_one cA.out)
  generalize outC cA.out = X at *
  generalize pC cA.pt = P at *
  go_wp2_with (first
    | (refine wpList_load_mid rfl 47 (.tmp 44) rfl g 0 rfl P _ HPA.out Try.underlying47 rfl HIPA.out ?_))
  refine CF.out.mono ?_
  rintro e W9 ⟨rfl, hb9⟩
  have HS9 := hide (HS8.out.on hb9)
  have HRA9 := hide (range_on HRA8.out hb9)
  have HRB9 := hide (range_on HRB8.out hb9)
  have HB09 : Hid (Below g w W9) := hide (by have h := HB08.out; rw [← HG.out] at h ⊢; exact below_on h hb9)
  clear hb9 HS8 HRA8 HRB8 HB08 CF HPA HIPA
  go_upto_region 7 with ((with_reducible show wpList _ _ _ (_ :: _) _ _); refine wp_store_row rfl 50 (.tmp 5) (.tmp 47) rfl W9.heap.size 0 X rfl rfl (HTO.out W9) HIO.out HX1.out ?_)
  have HV10 : Hid (((W9.alloc (.cells #[.int .u64 0, .int .u8 0, .int .u8 0, .int .u8 0, .int .u8 0, .int .u8 0, .int .u8 0, .int .u8 0, .int .u8 0, .int .u8 0, .int .u8 0, .int .u8 0, .int .u8 0, .int .u8 0, .int .u8 0, .int .u8 0, .int .u8 0, .int .u8 0, .int .u8 0, .int .u8 0, .int .u8 0, .int .u8 0, .int .u8 0, .int .u8 0, .int .u8 0, .int .u8 0, .int .u8 0, .int .u8 0, .int .u8 0, .int .u8 0, .int .u8 0, .int .u8 0, .int .u8 0] 50)).setCells W9.heap.size 0 X).cell? ⟨W9.heap.size, 0, none⟩ = some (.int .u64 5)) := hide (World.rangeAt_setCells_same _ _ _ _ (HTO.out W9) 0 _ HX0.out)
  have hb10 : Below W9.heap.size W9 ((W9.alloc (.cells #[.int .u64 0, .int .u8 0, .int .u8 0, .int .u8 0, .int .u8 0, .int .u8 0, .int .u8 0, .int .u8 0, .int .u8 0, .int .u8 0, .int .u8 0, .int .u8 0, .int .u8 0, .int .u8 0, .int .u8 0, .int .u8 0, .int .u8 0, .int .u8 0, .int .u8 0, .int .u8 0, .int .u8 0, .int .u8 0, .int .u8 0, .int .u8 0, .int .u8 0, .int .u8 0, .int .u8 0, .int .u8 0, .int .u8 0, .int .u8 0, .int .u8 0, .int .u8 0, .int .u8 0] 50)).setCells W9.heap.size 0 X) := below_sets (Nat.le_refl _) _ _ _ (below_new W9 _)
  generalize (W9.alloc (.cells #[.int .u64 0, .int .u8 0, .int .u8 0, .int .u8 0, .int .u8 0, .int .u8 0, .int .u8 0, .int .u8 0, .int .u8 0, .int .u8 0, .int .u8 0, .int .u8 0, .int .u8 0, .int .u8 0, .int .u8 0, .int .u8 0, .int .u8 0, .int .u8 0, .int .u8 0, .int .u8 0, .int .u8 0, .int .u8 0, .int .u8 0, .int .u8 0, .int .u8 0, .int .u8 0, .int .u8 0, .int .u8 0, .int .u8 0, .int .u8 0, .int .u8 0, .int .u8 0, .int .u8 0] 50)).setCells W9.heap.size 0 X = W at *
  have HS10 := hide (HS9.out.on hb10)
  have HRA10 := hide (range_on HRA9.out hb10)
  have HRB10 := hide (range_on HRB9.out hb10)
  have HB10 : Hid (Below g w W) := hide (by have h := HB09.out; rw [← HG.out] at h ⊢; exact below_on h hb10)
  clear hb10 HS9 HRA9 HRB9 HB09 HTO HIO
  generalize W9.heap.size = q9 at *
  have hvl : q9 < W.heap.size := World.block_lt_of_cell? _ _ HV10.out
  have HVL := hide hvl
  clear hvl
  refine wp_region_held_drew (S := fun wx => Below W.heap.size W wx) (by kernel_rfl) (Below.refl _ _).drew (fun hHeld => ?_)
  refine wpAnyH_take (i := 0) (oi := { dst := some 49, op := Op.move (Operand.tmp 6), type := 4, pos := "law.go:20", after := #[], guard := none }) (v := .bool true) rfl (by kernel_rfl) (by kernel_rfl) (by kernel_rfl) (fun _ _ _ h => h) (Or.inl ⟨by rfl, fun w _ => by go_simp⟩) (by assumption) ?_
  simp only [Act.put, List.setIfInBounds_toArray, List.set_cons_zero, List.set_cons_succ]
  refine wpAnyH_take (i := 1) (oi := { dst := some 50, op := Op.move (Operand.tmp 49), type := 4, pos := "law.go:20", after := #[{ on := 0, ground := Ground.data }], guard := none }) (v := .bool true) rfl (by kernel_rfl) (by kernel_rfl) (by kernel_rfl) (fun _ _ _ h => h) (Or.inl ⟨by rfl, fun w _ => by go_simp⟩) (by assumption) ?_
  simp only [Act.put, List.setIfInBounds_toArray, List.set_cons_zero, List.set_cons_succ]
  refine wpAnyH_take (i := 2) (oi := { dst := some 51, op := Op.fieldAddr 50 (Operand.tmp 5) 0, type := 0, pos := "law.go:20", after := #[{ on := 1, ground := Ground.guard }], guard := some (1, true) }) (v := .pointer (some ⟨q9, 0, none⟩)) rfl (by kernel_rfl) (by kernel_rfl) (by kernel_rfl) (fun _ _ _ h => h) (Or.inl ⟨by rfl, fun w _ => by go_simp⟩) (by assumption) ?_
  simp only [Act.put, List.setIfInBounds_toArray, List.set_cons_zero, List.set_cons_succ]
  refine wpAnyH_take (i := 3) (oi := { dst := some 52, op := Op.load 48 (Operand.tmp 51), type := 48, pos := "law.go:20", after := #[{ on := 2, ground := Ground.data }, { on := 1, ground := Ground.guard }], guard := some (1, true) }) (v := .int .u64 5) rfl (by kernel_rfl) (by kernel_rfl) (by kernel_rfl) (fun _ _ _ h => h) (Or.inl ⟨by rfl, fun wx h => by have c0 := (h.cell HVL.out).trans HV10.out; go_simp⟩) (by assumption) ?_
  simp only [Act.put, List.setIfInBounds_toArray, List.set_cons_zero, List.set_cons_succ]
  refine wpAnyH_take (i := 4) (oi := { dst := some 53, op := Op.binOp BinOp.eql 48 (Operand.tmp 52) (Operand.const (Value.int IntKind.u64 5)) 48, type := 4, pos := "law.go:20", after := #[{ on := 3, ground := Ground.data }, { on := 1, ground := Ground.guard }], guard := some (1, true) }) (v := .bool true) rfl (by kernel_rfl) (by kernel_rfl) (by kernel_rfl) (fun _ _ _ h => h) (Or.inl ⟨by rfl, fun w _ => by go_simp⟩) (by assumption) ?_
  simp only [Act.put, List.setIfInBounds_toArray, List.set_cons_zero, List.set_cons_succ]
  refine wpAnyH_take (i := 5) (oi := { dst := some 54, op := Op.pick (Operand.tmp 50) (Operand.tmp 53) (Operand.const (Value.bool false)), type := 4, pos := "law.go:20", after := #[{ on := 1, ground := Ground.data }, { on := 4, ground := Ground.data }], guard := none }) (v := .bool true) rfl (by kernel_rfl) (by kernel_rfl) (by kernel_rfl) (fun _ _ _ h => h) (Or.inl ⟨by rfl, fun w _ => by go_simp⟩) (by assumption) ?_
  simp only [Act.put, List.setIfInBounds_toArray, List.set_cons_zero, List.set_cons_succ]
  refine wpAnyH_take (i := 6) (oi := { dst := some 55, op := Op.move (Operand.tmp 54), type := 4, pos := "law.go:20", after := #[{ on := 5, ground := Ground.data }, { on := 1, ground := Ground.chain }], guard := none }) (v := .bool true) rfl (by kernel_rfl) (by kernel_rfl) (by kernel_rfl) (fun _ _ _ h => h) (Or.inl ⟨by rfl, fun w _ => by go_simp⟩) (by assumption) ?_
  simp only [Act.put, List.setIfInBounds_toArray, List.set_cons_zero, List.set_cons_succ]
  refine wpAnyH_take (i := 7) (oi := { dst := some 56, op := Op.move (Operand.tmp 3), type := 25, pos := "law.go:20", after := #[{ on := 6, ground := Ground.guard }], guard := some (6, true) }) (v := .pointer (some ⟨b, 0, none⟩)) rfl (by kernel_rfl) (by kernel_rfl) (by kernel_rfl) (fun _ _ _ h => h) (Or.inl ⟨by rfl, fun w _ => by go_simp⟩) (by assumption) ?_
  simp only [Act.put, List.setIfInBounds_toArray, List.set_cons_zero, List.set_cons_succ]
  refine wpAnyH_take (i := 9) (oi := { dst := some 58, op := Op.load 59 (Operand.tmp 2), type := 59, pos := "law.go:20", after := #[{ on := 6, ground := Ground.guard }], guard := some (6, true) }) (v := .agg (cnC cB).toArray) rfl (by kernel_rfl) (by kernel_rfl) (by kernel_rfl) (fun _ _ _ h => h) (yieldsIf_load_mid (by rfl) 59 (.tmp 2) rfl q 0 rfl (cnC cB) _ (fun w h => range_on HRB10.out h) Try.underlying59 rfl HIB.out) (by assumption) ?_
  simp only [Act.put, List.setIfInBounds_toArray, List.set_cons_zero, List.set_cons_succ]
  refine wpAnyH_take (i := 10) (oi := { dst := some 59, op := Op.load 59 (Operand.tmp 1), type := 59, pos := "law.go:20", after := #[{ on := 6, ground := Ground.guard }], guard := some (6, true) }) (v := .agg (cnC cA).toArray) rfl (by kernel_rfl) (by kernel_rfl) (by kernel_rfl) (fun _ _ _ h => h) (yieldsIf_load_mid (by rfl) 59 (.tmp 1) rfl g 0 rfl (cnC cA) _ (fun w h => range_on HRA10.out h) Try.underlying59 rfl HIA.out) (by assumption) ?_
  simp only [Act.put, List.setIfInBounds_toArray, List.set_cons_zero, List.set_cons_succ]
  refine wpAnyH_ready (rs := [8, 11]) (by kernel_rfl) (by simp) (AllReadyH.cons (o := { dst := some 57, op := Op.call { callee := Callee.value (Operand.func 20), args := #[Operand.tmp 56], argTypes := #[25] }, type := 30, pos := "law.go:20", after := #[{ on := 7, ground := Ground.data }, { on := 6, ground := Ground.chain }, { on := 6, ground := Ground.guard }], guard := some (6, true) }) rfl (fun K hK => ?_) (AllReadyH.cons (o := { dst := some 60, op := Op.buildSlice 30 2 #[(0, Operand.tmp 58), (1, Operand.tmp 59)], type := 30, pos := "law.go:20", after := #[{ on := 9, ground := Ground.data }, { on := 10, ground := Ground.data }, { on := 6, ground := Ground.guard }], guard := some (6, true) }) rfl (fun K hK => ?_) AllReadyH.nil))
  · refine cstep_go (vs := #[.pointer (some ⟨b, 0, none⟩)]) (by rfl) 20 _ Try.func20 (by kernel_rfl) (by kernel_rfl) _ _ rfl (by simp [Act.eval]) ?_
    refine (all_any _ b k _ (HS10.out.on hHeld) (by decide)).mono ?_
    rintro e wA ⟨v, M, rfl, hp, hs, hrow, hbA⟩
    obtain rfl : M = [cB, cA] := sort_unique hs cBA_sorted (hp.trans (List.Perm.swap _ _ _))
    have HV : Hid (CnsAt wA v [cB, cA]) := hide hrow.row
    have hb8 := below_on hHeld hbA
    clear hp hs hrow hbA
    refine ⟨_, rfl, ?_⟩
    refine hK.out _ _ ?_ (fun hHeld => ?_)
    · exact hb8
    clear hK K
    try simp only [Act.put, List.setIfInBounds_toArray, List.set_cons_zero, List.set_cons_succ]
    refine wpAnyH_ready (rs := [11]) (by kernel_rfl) (by simp) (AllReadyH.cons (o := { dst := some 60, op := Op.buildSlice 30 2 #[(0, Operand.tmp 58), (1, Operand.tmp 59)], type := 30, pos := "law.go:20", after := #[{ on := 9, ground := Ground.data }, { on := 10, ground := Ground.data }, { on := 6, ground := Ground.guard }], guard := some (6, true) }) rfl (fun K hK => ?_) AllReadyH.nil)
    have HW := hide (cns_two wA cB cA cB_ok cA_ok)
    have hb11 := hHeld.alloc hHeld.size (.cells (cnC cB ++ cnC cA).toArray 59)
    have HV2 := hide (HV.out.on (below_new wA (.cells (cnC cB ++ cnC cA).toArray 59)))
    refine cstep_build2 (by rfl) 30 59 (.tmp 58) (.tmp 59) rfl _ 66 80 Try.underlying30 infoCn (by omega) (by omega) (cnC cB) (cnC cA) HLB.out HLA.out rfl rfl ?_
    refine hK.out _ _ ?_ (fun hHeld => ?_)
    · exact hb11
    clear hK K
    try simp only [Act.put, List.setIfInBounds_toArray, List.set_cons_zero, List.set_cons_succ]
    refine wpAnyH_ready (rs := [12]) (by kernel_rfl) (by simp) (AllReadyH.cons (o := { dst := some 61, op := Op.call { callee := Callee.value (Operand.func 19), args := #[Operand.tmp 57, Operand.tmp 60], argTypes := #[30, 30] }, type := 4, pos := "law.go:20", after := #[{ on := 8, ground := Ground.data }, { on := 11, ground := Ground.data }, { on := 8, ground := Ground.chain }, { on := 6, ground := Ground.guard }], guard := some (6, true) }) rfl (fun K hK => ?_) AllReadyH.nil)
    refine cstep_go (vs := #[v, .slice (some ⟨wA.heap.size, 0, none⟩) 2 2]) (by rfl) 19 _ Try.func19 (by kernel_rfl) (by kernel_rfl) _ _ rfl (by simp [Act.eval]) ?_
    refine (rsamecn_eq [cB, cA] _ _ _ HV2.out HW.out (fun c hc => cAB_ok c (by simp at hc ⊢; exact hc.symm))).mono ?_
    rintro e wS ⟨rfl, hbS⟩
    have hb12 := below_on hHeld hbS
    clear hbS
    refine ⟨_, rfl, ?_⟩
    refine hK.out _ _ ?_ (fun hHeld => ?_)
    · exact hb12
    clear hK K
    try simp only [Act.put, List.setIfInBounds_toArray, List.set_cons_zero, List.set_cons_succ]
    refine wpAnyH_take (i := 13) (oi := { dst := some 62, op := Op.pick (Operand.tmp 55) (Operand.tmp 61) (Operand.const (Value.bool false)), type := 4, pos := "law.go:20", after := #[{ on := 6, ground := Ground.data }, { on := 12, ground := Ground.data }], guard := none }) (v := .bool true) rfl (by kernel_rfl) (by kernel_rfl) (by kernel_rfl) (fun _ _ _ h => h) (Or.inl ⟨by rfl, fun w _ => by go_simp⟩) (by assumption) ?_
    simp only [Act.put, List.setIfInBounds_toArray, List.set_cons_zero, List.set_cons_succ]
    refine wpAnyH_take (i := 14) (oi := { dst := some 63, op := Op.move (Operand.tmp 62), type := 4, pos := "law.go:20", after := #[{ on := 13, ground := Ground.data }, { on := 12, ground := Ground.chain }], guard := none }) (v := .bool true) rfl (by kernel_rfl) (by kernel_rfl) (by kernel_rfl) (fun _ _ _ h => h) (Or.inl ⟨by rfl, fun w _ => by go_simp⟩) (by assumption) ?_
    simp only [Act.put, List.setIfInBounds_toArray, List.set_cons_zero, List.set_cons_succ]
    refine wpAnyH_take (i := 15) (oi := { dst := some 64, op := Op.move (Operand.tmp 3), type := 25, pos := "law.go:20", after := #[{ on := 14, ground := Ground.guard }], guard := some (14, true) }) (v := .pointer (some ⟨b, 0, none⟩)) rfl (by kernel_rfl) (by kernel_rfl) (by kernel_rfl) (fun _ _ _ h => h) (Or.inl ⟨by rfl, fun w _ => by go_simp⟩) (by assumption) ?_
    simp only [Act.put, List.setIfInBounds_toArray, List.set_cons_zero, List.set_cons_succ]
    refine wpAnyH_ready (rs := [16]) (by kernel_rfl) (by simp) (AllReadyH.cons (o := { dst := some 65, op := Op.call { callee := Callee.value (Operand.func 21), args := #[Operand.tmp 64], argTypes := #[25] }, type := 3, pos := "law.go:20", after := #[{ on := 15, ground := Ground.data }, { on := 14, ground := Ground.chain }, { on := 14, ground := Ground.guard }], guard := some (14, true) }) rfl (fun K hK => ?_) AllReadyH.nil)
    refine cstep_go (vs := #[.pointer (some ⟨b, 0, none⟩)]) (by rfl) 21 _ Try.func21 (by kernel_rfl) (by kernel_rfl) _ _ rfl (by simp [Act.eval]) ?_
    refine (len_any _ b (some k) _ (HS10.out.on hHeld)).mono ?_
    rintro e wL ⟨rfl, hwL⟩
    rw [hwL]
    clear hwL
    refine ⟨_, rfl, ?_⟩
    refine hK.out _ _ ?_ (fun hHeld => ?_)
    · exact hHeld
    clear hK K
    try simp only [Act.put, List.setIfInBounds_toArray, List.set_cons_zero, List.set_cons_succ]
    refine wpAnyH_take (i := 17) (oi := { dst := some 66, op := Op.binOp BinOp.eql 3 (Operand.tmp 65) (Operand.const (Value.int IntKind.i64 2)) 3, type := 4, pos := "law.go:20", after := #[{ on := 16, ground := Ground.data }, { on := 14, ground := Ground.guard }], guard := some (14, true) }) (v := .bool true) rfl (by kernel_rfl) (by kernel_rfl) (by kernel_rfl) (fun _ _ _ h => h) (Or.inl ⟨by rfl, fun w _ => by go_simp⟩) (by assumption) ?_
    simp only [Act.put, List.setIfInBounds_toArray, List.set_cons_zero, List.set_cons_succ]
    refine wpAnyH_take (i := 18) (oi := { dst := some 67, op := Op.pick (Operand.tmp 63) (Operand.tmp 66) (Operand.const (Value.bool false)), type := 4, pos := "law.go:20", after := #[{ on := 14, ground := Ground.data }, { on := 17, ground := Ground.data }], guard := none }) (v := .bool true) rfl (by kernel_rfl) (by kernel_rfl) (by kernel_rfl) (fun _ _ _ h => h) (Or.inl ⟨by rfl, fun w _ => by go_simp⟩) (by assumption) ?_
    simp only [Act.put, List.setIfInBounds_toArray, List.set_cons_zero, List.set_cons_succ]
    refine wpAnyH_take (i := 19) (oi := { dst := some 0, op := Op.assign (Operand.tmp 67), type := 4, pos := "law.go:20", after := #[{ on := 18, ground := Ground.data }, { on := 16, ground := Ground.chain }, { on := 0, ground := Ground.phase }, { on := 1, ground := Ground.phase }, { on := 2, ground := Ground.phase }, { on := 3, ground := Ground.phase }, { on := 4, ground := Ground.phase }, { on := 5, ground := Ground.phase }, { on := 6, ground := Ground.phase }, { on := 7, ground := Ground.phase }, { on := 8, ground := Ground.phase }, { on := 9, ground := Ground.phase }, { on := 10, ground := Ground.phase }, { on := 11, ground := Ground.phase }, { on := 12, ground := Ground.phase }, { on := 13, ground := Ground.phase }, { on := 14, ground := Ground.phase }, { on := 15, ground := Ground.phase }, { on := 16, ground := Ground.phase }, { on := 17, ground := Ground.phase }, { on := 18, ground := Ground.phase }], guard := none }) (v := .bool true) rfl (by kernel_rfl) (by kernel_rfl) (by kernel_rfl) (fun _ _ _ h => h) (Or.inl ⟨by rfl, fun w _ => by go_simp⟩) (by assumption) ?_
    simp only [Act.put, List.setIfInBounds_toArray, List.set_cons_zero]
    refine wpAnyH_done (by kernel_rfl) ?_ _
    have R : Hid (Below g w wS) := hide (by have h := HB10.out; rw [← HG.out] at h ⊢; exact below_on h hHeld)
    clear hHeld
    go_wp2
    go_ret
    rw [HG.out]
    exact ⟨rfl, R.out⟩
  · have HW := hide (cns_two W.drew cB cA cB_ok cA_ok)
    have hb11 := hHeld.alloc hHeld.size (.cells (cnC cB ++ cnC cA).toArray 59)
    refine cstep_build2 (by rfl) 30 59 (.tmp 58) (.tmp 59) rfl _ 66 80 Try.underlying30 infoCn (by omega) (by omega) (cnC cB) (cnC cA) HLB.out HLA.out rfl rfl ?_
    refine hK.out _ _ ?_ (fun hHeld => ?_)
    · exact hb11
    clear hK K
    try simp only [Act.put, List.setIfInBounds_toArray, List.set_cons_zero, List.set_cons_succ]
    refine wpAnyH_ready (rs := [8]) (by kernel_rfl) (by simp) (AllReadyH.cons (o := { dst := some 57, op := Op.call { callee := Callee.value (Operand.func 20), args := #[Operand.tmp 56], argTypes := #[25] }, type := 30, pos := "law.go:20", after := #[{ on := 7, ground := Ground.data }, { on := 6, ground := Ground.chain }, { on := 6, ground := Ground.guard }], guard := some (6, true) }) rfl (fun K hK => ?_) AllReadyH.nil)
    refine cstep_go (vs := #[.pointer (some ⟨b, 0, none⟩)]) (by rfl) 20 _ Try.func20 (by kernel_rfl) (by kernel_rfl) _ _ rfl (by simp [Act.eval]) ?_
    refine (all_any _ b k _ (HS10.out.on hHeld) (by decide)).mono ?_
    rintro e wA ⟨v, M, rfl, hp, hs, hrow, hbA⟩
    obtain rfl : M = [cB, cA] := sort_unique hs cBA_sorted (hp.trans (List.Perm.swap _ _ _))
    have HV : Hid (CnsAt wA v [cB, cA]) := hide hrow.row
    have hb8 := below_on hHeld hbA
    have HW2 := hide (HW.out.on hbA)
    clear hp hs hrow hbA
    refine ⟨_, rfl, ?_⟩
    refine hK.out _ _ ?_ (fun hHeld => ?_)
    · exact hb8
    clear hK K
    try simp only [Act.put, List.setIfInBounds_toArray, List.set_cons_zero, List.set_cons_succ]
    refine wpAnyH_ready (rs := [12]) (by kernel_rfl) (by simp) (AllReadyH.cons (o := { dst := some 61, op := Op.call { callee := Callee.value (Operand.func 19), args := #[Operand.tmp 57, Operand.tmp 60], argTypes := #[30, 30] }, type := 4, pos := "law.go:20", after := #[{ on := 8, ground := Ground.data }, { on := 11, ground := Ground.data }, { on := 8, ground := Ground.chain }, { on := 6, ground := Ground.guard }], guard := some (6, true) }) rfl (fun K hK => ?_) AllReadyH.nil)
    refine cstep_go (vs := #[v, .slice (some ⟨W.drew.heap.size, 0, none⟩) 2 2]) (by rfl) 19 _ Try.func19 (by kernel_rfl) (by kernel_rfl) _ _ rfl (by simp [Act.eval]) ?_
    refine (rsamecn_eq [cB, cA] _ _ _ HV.out HW2.out (fun c hc => cAB_ok c (by simp at hc ⊢; exact hc.symm))).mono ?_
    rintro e wS ⟨rfl, hbS⟩
    have hb12 := below_on hHeld hbS
    clear hbS
    refine ⟨_, rfl, ?_⟩
    refine hK.out _ _ ?_ (fun hHeld => ?_)
    · exact hb12
    clear hK K
    try simp only [Act.put, List.setIfInBounds_toArray, List.set_cons_zero, List.set_cons_succ]
    refine wpAnyH_take (i := 13) (oi := { dst := some 62, op := Op.pick (Operand.tmp 55) (Operand.tmp 61) (Operand.const (Value.bool false)), type := 4, pos := "law.go:20", after := #[{ on := 6, ground := Ground.data }, { on := 12, ground := Ground.data }], guard := none }) (v := .bool true) rfl (by kernel_rfl) (by kernel_rfl) (by kernel_rfl) (fun _ _ _ h => h) (Or.inl ⟨by rfl, fun w _ => by go_simp⟩) (by assumption) ?_
    simp only [Act.put, List.setIfInBounds_toArray, List.set_cons_zero, List.set_cons_succ]
    refine wpAnyH_take (i := 14) (oi := { dst := some 63, op := Op.move (Operand.tmp 62), type := 4, pos := "law.go:20", after := #[{ on := 13, ground := Ground.data }, { on := 12, ground := Ground.chain }], guard := none }) (v := .bool true) rfl (by kernel_rfl) (by kernel_rfl) (by kernel_rfl) (fun _ _ _ h => h) (Or.inl ⟨by rfl, fun w _ => by go_simp⟩) (by assumption) ?_
    simp only [Act.put, List.setIfInBounds_toArray, List.set_cons_zero, List.set_cons_succ]
    refine wpAnyH_take (i := 15) (oi := { dst := some 64, op := Op.move (Operand.tmp 3), type := 25, pos := "law.go:20", after := #[{ on := 14, ground := Ground.guard }], guard := some (14, true) }) (v := .pointer (some ⟨b, 0, none⟩)) rfl (by kernel_rfl) (by kernel_rfl) (by kernel_rfl) (fun _ _ _ h => h) (Or.inl ⟨by rfl, fun w _ => by go_simp⟩) (by assumption) ?_
    simp only [Act.put, List.setIfInBounds_toArray, List.set_cons_zero, List.set_cons_succ]
    refine wpAnyH_ready (rs := [16]) (by kernel_rfl) (by simp) (AllReadyH.cons (o := { dst := some 65, op := Op.call { callee := Callee.value (Operand.func 21), args := #[Operand.tmp 64], argTypes := #[25] }, type := 3, pos := "law.go:20", after := #[{ on := 15, ground := Ground.data }, { on := 14, ground := Ground.chain }, { on := 14, ground := Ground.guard }], guard := some (14, true) }) rfl (fun K hK => ?_) AllReadyH.nil)
    refine cstep_go (vs := #[.pointer (some ⟨b, 0, none⟩)]) (by rfl) 21 _ Try.func21 (by kernel_rfl) (by kernel_rfl) _ _ rfl (by simp [Act.eval]) ?_
    refine (len_any _ b (some k) _ (HS10.out.on hHeld)).mono ?_
    rintro e wL ⟨rfl, hwL⟩
    rw [hwL]
    clear hwL
    refine ⟨_, rfl, ?_⟩
    refine hK.out _ _ ?_ (fun hHeld => ?_)
    · exact hHeld
    clear hK K
    try simp only [Act.put, List.setIfInBounds_toArray, List.set_cons_zero, List.set_cons_succ]
    refine wpAnyH_take (i := 17) (oi := { dst := some 66, op := Op.binOp BinOp.eql 3 (Operand.tmp 65) (Operand.const (Value.int IntKind.i64 2)) 3, type := 4, pos := "law.go:20", after := #[{ on := 16, ground := Ground.data }, { on := 14, ground := Ground.guard }], guard := some (14, true) }) (v := .bool true) rfl (by kernel_rfl) (by kernel_rfl) (by kernel_rfl) (fun _ _ _ h => h) (Or.inl ⟨by rfl, fun w _ => by go_simp⟩) (by assumption) ?_
    simp only [Act.put, List.setIfInBounds_toArray, List.set_cons_zero, List.set_cons_succ]
    refine wpAnyH_take (i := 18) (oi := { dst := some 67, op := Op.pick (Operand.tmp 63) (Operand.tmp 66) (Operand.const (Value.bool false)), type := 4, pos := "law.go:20", after := #[{ on := 14, ground := Ground.data }, { on := 17, ground := Ground.data }], guard := none }) (v := .bool true) rfl (by kernel_rfl) (by kernel_rfl) (by kernel_rfl) (fun _ _ _ h => h) (Or.inl ⟨by rfl, fun w _ => by go_simp⟩) (by assumption) ?_
    simp only [Act.put, List.setIfInBounds_toArray, List.set_cons_zero, List.set_cons_succ]
    refine wpAnyH_take (i := 19) (oi := { dst := some 0, op := Op.assign (Operand.tmp 67), type := 4, pos := "law.go:20", after := #[{ on := 18, ground := Ground.data }, { on := 16, ground := Ground.chain }, { on := 0, ground := Ground.phase }, { on := 1, ground := Ground.phase }, { on := 2, ground := Ground.phase }, { on := 3, ground := Ground.phase }, { on := 4, ground := Ground.phase }, { on := 5, ground := Ground.phase }, { on := 6, ground := Ground.phase }, { on := 7, ground := Ground.phase }, { on := 8, ground := Ground.phase }, { on := 9, ground := Ground.phase }, { on := 10, ground := Ground.phase }, { on := 11, ground := Ground.phase }, { on := 12, ground := Ground.phase }, { on := 13, ground := Ground.phase }, { on := 14, ground := Ground.phase }, { on := 15, ground := Ground.phase }, { on := 16, ground := Ground.phase }, { on := 17, ground := Ground.phase }, { on := 18, ground := Ground.phase }], guard := none }) (v := .bool true) rfl (by kernel_rfl) (by kernel_rfl) (by kernel_rfl) (fun _ _ _ h => h) (Or.inl ⟨by rfl, fun w _ => by go_simp⟩) (by assumption) ?_
    simp only [Act.put, List.setIfInBounds_toArray, List.set_cons_zero]
    refine wpAnyH_done (by kernel_rfl) ?_ _
    have R : Hid (Below g w wS) := hide (by have h := HB10.out; rw [← HG.out] at h ⊢; exact below_on h hHeld)
    clear hHeld
    go_wp2
    go_ret
    rw [HG.out]
    exact ⟨rfl, R.out⟩

end Go.Proofs.Ytkemdfikcmgaaaa
