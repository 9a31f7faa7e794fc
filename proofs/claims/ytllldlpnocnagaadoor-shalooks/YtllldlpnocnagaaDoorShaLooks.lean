/-
  ShaLooks: whatever bytes are written to a hasher, asked for its sum it stays as it is and goes on: the call returns true, and the bytes read as before.
-/
import Derived.Test.YtllldlpnocnagaaDoorShaSteps
namespace Go.Proofs.YtllldlpnocnagaaDoor
open Go.ChangeShapes Go.WideShapes Go.ChangeAt Go.RowKit

set_option maxRecDepth 100000 in
set_option maxHeartbeats 2000000 in
theorem shaLooks_walk {w : World} (hk : Ks w) (v : Value) (l : List Int) (_ : ∀ z ∈ l, Byte z) (hv : Bytes w v l) (v' : Value) (l' : List Int) (_ : ∀ z ∈ l', Byte z) (hv' : Bytes w v' l') :
    Calls Tryd.prog 6 #[v, v'] w fun e w' => e = .returned (.bool true) ∧ Below w.heap.size w w' := by
  have HK := hide hk
  have HV := hide hv
  have HV' := hide hv'
  have hk0 := hk.lt
  have A := hide (alive_any w hk)
  obtain ⟨a, cap, rfl, hc1, hc2⟩ := hv.form
  obtain ⟨a', cap', rfl, hc1', hc2'⟩ := hv'.form
  clear hk hv hv'
  by_cases hbig : 2000 < l.length
  · have hb : decide ((2000 : Int) < (l.length : Int)) = true := decide_eq_true (by omega)
    clear hbig
    go_enter Tryd.func6, Tryd.ntmps6
    go_wp2_with fail
    refine A.out.mono ?_
    rintro e w1 ⟨rfl, hbel1⟩
    have HB1 := hide hbel1
    clear hbel1
    go_wp2
    go_ret
    exact ⟨rfl, HB1.out⟩
  by_cases hbig' : 2000 < l'.length
  · have hb : decide ((2000 : Int) < (l.length : Int)) = false := decide_eq_false (by omega)
    have hb' : decide ((2000 : Int) < (l'.length : Int)) = true := decide_eq_true (by omega)
    clear hbig hbig'
    go_enter Tryd.func6, Tryd.ntmps6
    go_wp2_with fail
    refine A.out.mono ?_
    rintro e w1 ⟨rfl, hbel1⟩
    have HB1 := hide hbel1
    clear hbel1
    go_wp2
    go_ret
    exact ⟨rfl, HB1.out⟩
  have hb : decide ((2000 : Int) < (l.length : Int)) = false := decide_eq_false (by omega)
  have hb' : decide ((2000 : Int) < (l'.length : Int)) = false := decide_eq_false (by omega)
  have HN : Hid (l.length ≤ 2000 ∧ l'.length ≤ 2000) := hide ⟨by omega, by omega⟩
  clear hbig hbig'
  have HL1 := hide (digest_length l)
  have HL2 := hide (digest_length (l ++ l'))
  go_enter Tryd.func6, Tryd.ntmps6
  go_wp2_with fail
  refine A.out.mono ?_
  rintro e w1 ⟨rfl, hbel1⟩
  have HB1 := hide hbel1
  clear hbel1 A
  go_wp2_with fail
  refine (new_any w1).mono ?_
  rintro e w2 ⟨rfl, h2, hbel2⟩
  have HB2 := hide (below_on HB1.out hbel2)
  have HH2 := hide h2
  have HG : Hid (w.heap.size ≤ w1.heap.size) := hide HB1.out.size
  have HG0 : Hid (w1.heap.size ≠ 0) := hide (by have := HG.out; omega)
  clear h2 hbel2
  generalize w1.heap.size = g at *
  have W1 := hide (write_one w2 g [] _ l HH2.out (Src.old HV.out HB2.out HG.out) (HK.out.on HB2.out) HG0.out (by have := HN.out; simp; omega))
  rw [List.nil_append] at W1
  go_wp2_with fail
  refine W1.out.mono ?_
  rintro e w3 ⟨rfl, h3, o3⟩
  have HB3 := hide (HB2.out.trans (o3.ground HG.out))
  have HH3 := hide h3
  clear h3 o3 W1
  go_wp2_with fail
  refine (hsum_any w3 g l HH3.out (HK.out.on HB3.out) (by have := HN.out; omega)).mono ?_
  rintro e w4 ⟨rfl, hbel4⟩
  have HB4 := hide (below_on HB3.out hbel4)
  have HH4 := hide (HH3.out.on hbel4)
  have KP := hide (hash_kept w4 (digest l) HL1.out)
  have HGX : Hid (g < w4.heap.size) := hide HH4.out.lt
  clear hbel4
  go_wp2_with (refine wp_store_arr rfl 28 (.tmp 6) (.tmp 30) rfl _ 0 .u8 (digest l) rfl rfl 32 (hash_there _) info_h HL1.out ?_)
  generalize (w4.alloc (.cells #[.int .u8 0, .int .u8 0, .int .u8 0, .int .u8 0, .int .u8 0, .int .u8 0, .int .u8 0, .int .u8 0, .int .u8 0, .int .u8 0, .int .u8 0, .int .u8 0, .int .u8 0, .int .u8 0, .int .u8 0, .int .u8 0, .int .u8 0, .int .u8 0, .int .u8 0, .int .u8 0, .int .u8 0, .int .u8 0, .int .u8 0, .int .u8 0, .int .u8 0, .int .u8 0, .int .u8 0, .int .u8 0, .int .u8 0, .int .u8 0, .int .u8 0, .int .u8 0] 28)).setCells w4.heap.size 0 (vals .u8 (digest l)) = W5 at *
  have HB5 := hide (below_on HB4.out KP.out.1)
  have HH5 := hide (HH4.out.on KP.out.1)
  have HX5 := hide KP.out.2
  clear KP
  generalize w4.heap.size = g6 at *
  refine (hsum_any W5 g l HH5.out (HK.out.on HB5.out) (by have := HN.out; omega)).mono ?_
  rintro e w6 ⟨rfl, hbel6⟩
  have HB6 := hide (below_on HB5.out hbel6)
  have HH6 := hide (HH5.out.on hbel6)
  have HX6 := hide (HX5.out.on hbel6)
  have KP := hide (hash_kept w6 (digest l) HL1.out)
  have HGY : Hid (g < w6.heap.size) := hide HH6.out.lt
  clear hbel6
  go_wp2_with (refine wp_store_arr rfl 28 (.tmp 8) (.tmp 35) rfl _ 0 .u8 (digest l) rfl rfl 32 (hash_there _) info_h HL1.out ?_)
  generalize (w6.alloc (.cells #[.int .u8 0, .int .u8 0, .int .u8 0, .int .u8 0, .int .u8 0, .int .u8 0, .int .u8 0, .int .u8 0, .int .u8 0, .int .u8 0, .int .u8 0, .int .u8 0, .int .u8 0, .int .u8 0, .int .u8 0, .int .u8 0, .int .u8 0, .int .u8 0, .int .u8 0, .int .u8 0, .int .u8 0, .int .u8 0, .int .u8 0, .int .u8 0, .int .u8 0, .int .u8 0, .int .u8 0, .int .u8 0, .int .u8 0, .int .u8 0, .int .u8 0, .int .u8 0] 28)).setCells w6.heap.size 0 (vals .u8 (digest l)) = W7 at *
  have HB7 := hide (below_on HB6.out KP.out.1)
  have HH7 := hide (HH6.out.on KP.out.1)
  have HX7 := hide (HX6.out.on KP.out.1)
  have HY7 := hide KP.out.2
  clear KP
  generalize w6.heap.size = g8 at *
  refine (write_one W7 g l _ l' HH7.out (Src.old HV'.out HB7.out HG.out) (HK.out.on HB7.out) HG0.out (by have := HN.out; omega)).mono ?_
  rintro e w8 ⟨rfl, h8, o8⟩
  have HB8 := hide (HB7.out.trans (o8.ground HG.out))
  have HH8 := hide h8
  have HX8 := hide (HX7.out.only o8 (by have := HGX.out; omega))
  have HY8 := hide (HY7.out.only o8 (by have := HGY.out; omega))
  clear h8 o8
  go_wp2_with fail
  refine (hsum_any w8 g (l ++ l') HH8.out (HK.out.on HB8.out) (by have := HN.out; simp; omega)).mono ?_
  rintro e w9 ⟨rfl, hbel9⟩
  have HB9 := hide (below_on HB8.out hbel9)
  have HX9 := hide (HX8.out.on hbel9)
  have HY9 := hide (HY8.out.on hbel9)
  have KP := hide (hash_kept w9 (digest (l ++ l')) HL2.out)
  clear hbel9
  go_wp2_with (refine wp_store_arr rfl 28 (.tmp 10) (.tmp 44) rfl _ 0 .u8 (digest (l ++ l')) rfl rfl 32 (hash_there _) info_h HL2.out ?_)
  generalize (w9.alloc (.cells #[.int .u8 0, .int .u8 0, .int .u8 0, .int .u8 0, .int .u8 0, .int .u8 0, .int .u8 0, .int .u8 0, .int .u8 0, .int .u8 0, .int .u8 0, .int .u8 0, .int .u8 0, .int .u8 0, .int .u8 0, .int .u8 0, .int .u8 0, .int .u8 0, .int .u8 0, .int .u8 0, .int .u8 0, .int .u8 0, .int .u8 0, .int .u8 0, .int .u8 0, .int .u8 0, .int .u8 0, .int .u8 0, .int .u8 0, .int .u8 0, .int .u8 0, .int .u8 0] 28)).setCells w9.heap.size 0 (vals .u8 (digest (l ++ l'))) = W at *
  have HB := hide (below_on HB9.out KP.out.1)
  have HX := hide (HX9.out.on KP.out.1)
  have HY := hide (HY9.out.on KP.out.1)
  have HZ := hide KP.out.2
  have HKW := hide (HK.out.on HB.out)
  have HVW := hide (HV.out.below HB.out)
  have HVW' := hide (HV'.out.below HB.out)
  clear KP
  generalize w9.heap.size = g10 at *
  have S1 := hide (sum_drew W _ l HVW.out HKW.out (by have := HN.out; omega))
  have S2 := hide (fun wx (h : Below W.heap.size W wx) => sum_two wx _ _ l l' (HVW.out.below h) (HVW'.out.below h) (HKW.out.on h) (by have := HN.out; simp; omega))
  generalize digest (l ++ l') = D2 at *
  generalize digest l = D1 at *
  have EQ1 := fun wx => eql_hash D1 HL1.out wx
  have EQ2 := fun wx => eql_hash D2 HL2.out wx
  have hu28 := Tryd.underlying28
  have hi28 : (Tryd.prog.info? 28).map (·.size) = some (vals .u8 D1).length := by rw [vals_length, HL1.out]; exact info_h
  have hi28' : (Tryd.prog.info? 28).map (·.size) = some (vals .u8 D2).length := by rw [vals_length, HL2.out]; exact info_h
  have HC : Hid (∀ wx, Below W.heap.size W wx → wx.rangeAt g6 0 (vals .u8 D1) ∧ wx.rangeAt g8 0 (vals .u8 D1) ∧ wx.rangeAt g10 0 (vals .u8 D2)) := hide (fun wx hx => ⟨(HX.out.on hx).1, (HY.out.on hx).1, (HZ.out.on hx).1⟩)
  clear HB1 HB2 HH2 HB3 HH3 HB4 HH4 HGX HB5 HH5 HX5 HB6 HH6 HX6 HGY HB7 HH7 HX7 HY7 HB8 HH8 HX8 HY8 HB9 HX9 HY9 HX HY HZ
  refine wp_region_noPanic ?_
  refine wp_region_held_drew (S := fun wx => wx.rangeAt g6 0 (vals .u8 D1) ∧ wx.rangeAt g8 0 (vals .u8 D1) ∧ wx.rangeAt g10 0 (vals .u8 D2)) (by kernel_rfl) (HC.out _ (Below.drew (Below.refl _ _))) (fun hHeld => ?_)
  refine wpAnyH_take (i := 0) (oi := { dst := some 46, op := Op.move (Operand.tmp 7), type := 39, pos := "law.go:86", after := #[], guard := none }) (v := .int .i64 0) rfl (by kernel_rfl) (by kernel_rfl) (by kernel_rfl) (fun _ _ _ h => h) (Or.inl ⟨by rfl, fun w _ => by go_simp⟩) (by assumption) ?_
  simp only [Act.put, List.setIfInBounds_toArray, List.set_cons_zero, List.set_cons_succ]
  refine wpAnyH_take (i := 1) (oi := { dst := some 47, op := Op.binOp BinOp.eql 39 (Operand.tmp 46) (Operand.const (Value.int IntKind.i64 0)) 39, type := 4, pos := "law.go:86", after := #[{ on := 0, ground := Ground.data }], guard := none }) (v := .bool true) rfl (by kernel_rfl) (by kernel_rfl) (by kernel_rfl) (fun _ _ _ h => h) (Or.inl ⟨by rfl, fun w _ => by go_simp⟩) (by assumption) ?_
  simp only [Act.put, List.setIfInBounds_toArray, List.set_cons_zero, List.set_cons_succ]
  refine wpAnyH_take (i := 2) (oi := { dst := some 48, op := Op.move (Operand.tmp 47), type := 4, pos := "law.go:86", after := #[{ on := 1, ground := Ground.data }], guard := none }) (v := .bool true) rfl (by kernel_rfl) (by kernel_rfl) (by kernel_rfl) (fun _ _ _ h => h) (Or.inl ⟨by rfl, fun w _ => by go_simp⟩) (by assumption) ?_
  simp only [Act.put, List.setIfInBounds_toArray, List.set_cons_zero, List.set_cons_succ]
  refine wpAnyH_take (i := 3) (oi := { dst := some 49, op := Op.move (Operand.tmp 9), type := 39, pos := "law.go:86", after := #[{ on := 2, ground := Ground.guard }], guard := some (2, true) }) (v := .int .i64 0) rfl (by kernel_rfl) (by kernel_rfl) (by kernel_rfl) (fun _ _ _ h => h) (Or.inl ⟨by rfl, fun w _ => by go_simp⟩) (by assumption) ?_
  simp only [Act.put, List.setIfInBounds_toArray, List.set_cons_zero, List.set_cons_succ]
  refine wpAnyH_take (i := 4) (oi := { dst := some 50, op := Op.binOp BinOp.eql 39 (Operand.tmp 49) (Operand.const (Value.int IntKind.i64 0)) 39, type := 4, pos := "law.go:86", after := #[{ on := 3, ground := Ground.data }, { on := 2, ground := Ground.guard }], guard := some (2, true) }) (v := .bool true) rfl (by kernel_rfl) (by kernel_rfl) (by kernel_rfl) (fun _ _ _ h => h) (Or.inl ⟨by rfl, fun w _ => by go_simp⟩) (by assumption) ?_
  simp only [Act.put, List.setIfInBounds_toArray, List.set_cons_zero, List.set_cons_succ]
  refine wpAnyH_take (i := 5) (oi := { dst := some 51, op := Op.pick (Operand.tmp 48) (Operand.tmp 50) (Operand.const (Value.bool false)), type := 4, pos := "law.go:86", after := #[{ on := 2, ground := Ground.data }, { on := 4, ground := Ground.data }], guard := none }) (v := .bool true) rfl (by kernel_rfl) (by kernel_rfl) (by kernel_rfl) (fun _ _ _ h => h) (Or.inl ⟨by rfl, fun w _ => by go_simp⟩) (by assumption) ?_
  simp only [Act.put, List.setIfInBounds_toArray, List.set_cons_zero, List.set_cons_succ]
  refine wpAnyH_take (i := 6) (oi := { dst := some 52, op := Op.move (Operand.tmp 51), type := 4, pos := "law.go:86", after := #[{ on := 5, ground := Ground.data }, { on := 2, ground := Ground.chain }], guard := none }) (v := .bool true) rfl (by kernel_rfl) (by kernel_rfl) (by kernel_rfl) (fun _ _ _ h => h) (Or.inl ⟨by rfl, fun w _ => by go_simp⟩) (by assumption) ?_
  simp only [Act.put, List.setIfInBounds_toArray, List.set_cons_zero, List.set_cons_succ]
  refine wpAnyH_take (i := 7) (oi := { dst := some 53, op := Op.move (Operand.tmp 11), type := 39, pos := "law.go:86", after := #[{ on := 6, ground := Ground.guard }], guard := some (6, true) }) (v := .int .i64 0) rfl (by kernel_rfl) (by kernel_rfl) (by kernel_rfl) (fun _ _ _ h => h) (Or.inl ⟨by rfl, fun w _ => by go_simp⟩) (by assumption) ?_
  simp only [Act.put, List.setIfInBounds_toArray, List.set_cons_zero, List.set_cons_succ]
  refine wpAnyH_take (i := 8) (oi := { dst := some 54, op := Op.binOp BinOp.eql 39 (Operand.tmp 53) (Operand.const (Value.int IntKind.i64 0)) 39, type := 4, pos := "law.go:86", after := #[{ on := 7, ground := Ground.data }, { on := 6, ground := Ground.guard }], guard := some (6, true) }) (v := .bool true) rfl (by kernel_rfl) (by kernel_rfl) (by kernel_rfl) (fun _ _ _ h => h) (Or.inl ⟨by rfl, fun w _ => by go_simp⟩) (by assumption) ?_
  simp only [Act.put, List.setIfInBounds_toArray, List.set_cons_zero, List.set_cons_succ]
  refine wpAnyH_take (i := 9) (oi := { dst := some 55, op := Op.pick (Operand.tmp 52) (Operand.tmp 54) (Operand.const (Value.bool false)), type := 4, pos := "law.go:86", after := #[{ on := 6, ground := Ground.data }, { on := 8, ground := Ground.data }], guard := none }) (v := .bool true) rfl (by kernel_rfl) (by kernel_rfl) (by kernel_rfl) (fun _ _ _ h => h) (Or.inl ⟨by rfl, fun w _ => by go_simp⟩) (by assumption) ?_
  simp only [Act.put, List.setIfInBounds_toArray, List.set_cons_zero, List.set_cons_succ]
  refine wpAnyH_take (i := 10) (oi := { dst := some 56, op := Op.move (Operand.tmp 55), type := 4, pos := "law.go:86", after := #[{ on := 9, ground := Ground.data }, { on := 6, ground := Ground.chain }], guard := none }) (v := .bool true) rfl (by kernel_rfl) (by kernel_rfl) (by kernel_rfl) (fun _ _ _ h => h) (Or.inl ⟨by rfl, fun w _ => by go_simp⟩) (by assumption) ?_
  simp only [Act.put, List.setIfInBounds_toArray, List.set_cons_zero, List.set_cons_succ]
  refine wpAnyH_take (i := 11) (oi := { dst := some 57, op := Op.load 28 (Operand.tmp 6), type := 28, pos := "law.go:86", after := #[{ on := 10, ground := Ground.guard }], guard := some (10, true) }) (v := .agg (vals .u8 D1).toArray) rfl (by kernel_rfl) (by kernel_rfl) (by kernel_rfl) (fun _ _ _ h => h) (yieldsIf_load_mid (by rfl) 28 (.tmp 6) rfl g6 0 rfl (vals .u8 D1) _ (fun w h => h.1) hu28 rfl hi28) (by assumption) ?_
  simp only [Act.put, List.setIfInBounds_toArray, List.set_cons_zero, List.set_cons_succ]
  refine wpAnyH_take (i := 12) (oi := { dst := some 58, op := Op.load 28 (Operand.tmp 8), type := 28, pos := "law.go:86", after := #[{ on := 10, ground := Ground.guard }], guard := some (10, true) }) (v := .agg (vals .u8 D1).toArray) rfl (by kernel_rfl) (by kernel_rfl) (by kernel_rfl) (fun _ _ _ h => h) (yieldsIf_load_mid (by rfl) 28 (.tmp 8) rfl g8 0 rfl (vals .u8 D1) _ (fun w h => h.2.1) hu28 rfl hi28) (by assumption) ?_
  simp only [Act.put, List.setIfInBounds_toArray, List.set_cons_zero, List.set_cons_succ]
  refine wpAnyH_take (i := 13) (oi := { dst := some 59, op := Op.binOp BinOp.eql 28 (Operand.tmp 57) (Operand.tmp 58) 28, type := 4, pos := "law.go:86", after := #[{ on := 11, ground := Ground.data }, { on := 12, ground := Ground.data }, { on := 10, ground := Ground.guard }], guard := some (10, true) }) (v := .bool true) rfl (by kernel_rfl) (by kernel_rfl) (by kernel_rfl) (fun _ _ _ h => h) (Or.inl ⟨by rfl, fun w _ => by go_simp⟩) (by assumption) ?_
  simp only [Act.put, List.setIfInBounds_toArray, List.set_cons_zero, List.set_cons_succ]
  refine wpAnyH_take (i := 14) (oi := { dst := some 60, op := Op.pick (Operand.tmp 56) (Operand.tmp 59) (Operand.const (Value.bool false)), type := 4, pos := "law.go:86", after := #[{ on := 10, ground := Ground.data }, { on := 13, ground := Ground.data }], guard := none }) (v := .bool true) rfl (by kernel_rfl) (by kernel_rfl) (by kernel_rfl) (fun _ _ _ h => h) (Or.inl ⟨by rfl, fun w _ => by go_simp⟩) (by assumption) ?_
  simp only [Act.put, List.setIfInBounds_toArray, List.set_cons_zero, List.set_cons_succ]
  refine wpAnyH_take (i := 15) (oi := { dst := some 61, op := Op.move (Operand.tmp 60), type := 4, pos := "law.go:86", after := #[{ on := 14, ground := Ground.data }, { on := 10, ground := Ground.chain }], guard := none }) (v := .bool true) rfl (by kernel_rfl) (by kernel_rfl) (by kernel_rfl) (fun _ _ _ h => h) (Or.inl ⟨by rfl, fun w _ => by go_simp⟩) (by assumption) ?_
  simp only [Act.put, List.setIfInBounds_toArray, List.set_cons_zero, List.set_cons_succ]
  refine wpAnyH_take (i := 16) (oi := { dst := some 62, op := Op.load 28 (Operand.tmp 6), type := 28, pos := "law.go:86", after := #[{ on := 15, ground := Ground.guard }], guard := some (15, true) }) (v := .agg (vals .u8 D1).toArray) rfl (by kernel_rfl) (by kernel_rfl) (by kernel_rfl) (fun _ _ _ h => h) (yieldsIf_load_mid (by rfl) 28 (.tmp 6) rfl g6 0 rfl (vals .u8 D1) _ (fun w h => h.1) hu28 rfl hi28) (by assumption) ?_
  simp only [Act.put, List.setIfInBounds_toArray, List.set_cons_zero, List.set_cons_succ]
  refine wpAnyH_take (i := 17) (oi := { dst := some 63, op := Op.move (Operand.tmp 0), type := 25, pos := "law.go:86", after := #[{ on := 15, ground := Ground.guard }], guard := some (15, true) }) (v := .slice a l.length cap) rfl (by kernel_rfl) (by kernel_rfl) (by kernel_rfl) (fun _ _ _ h => h) (Or.inl ⟨by rfl, fun w _ => by go_simp⟩) (by assumption) ?_
  simp only [Act.put, List.setIfInBounds_toArray, List.set_cons_zero, List.set_cons_succ]
  refine wpAnyH_ready (rs := [18]) (by kernel_rfl) (by simp) (AllReadyH.cons (o := { dst := some 64, op := Op.buildSlice 22 1 #[(0, Operand.tmp 63)], type := 22, pos := "law.go:86", after := #[{ on := 17, ground := Ground.data }, { on := 15, ground := Ground.guard }], guard := some (15, true) }) rfl (fun K hK => ?_) AllReadyH.nil)
  go_simp
  refine hK.out _ _ ?_ (fun hHeld => ?_)
  · exact HC.out _ (Below.drew (below_alloc (Below.refl _ _) _))
  clear hK K
  refine wpAnyH_ready (rs := [19]) (by kernel_rfl) (by simp) (AllReadyH.cons (o := { dst := some 65, op := Op.call { callee := Callee.value (Operand.func 12), args := #[Operand.tmp 64], argTypes := #[22] }, type := 28, pos := "law.go:86", after := #[{ on := 18, ground := Ground.data }, { on := 15, ground := Ground.chain }, { on := 15, ground := Ground.guard }], guard := some (15, true) }) rfl (fun K hK => ?_) AllReadyH.nil)
  go_simp
  refine S1.out.mono ?_
  rintro e wa ⟨rfl, hb6⟩
  refine hK.out _ _ (HC.out _ hb6) (fun hHeld => ?_)
  clear hK K
  refine wpAnyH_take (i := 20) (oi := { dst := some 66, op := Op.binOp BinOp.eql 28 (Operand.tmp 62) (Operand.tmp 65) 28, type := 4, pos := "law.go:86", after := #[{ on := 16, ground := Ground.data }, { on := 19, ground := Ground.data }, { on := 15, ground := Ground.guard }], guard := some (15, true) }) (v := .bool true) rfl (by kernel_rfl) (by kernel_rfl) (by kernel_rfl) (fun _ _ _ h => h) (Or.inl ⟨by rfl, fun w _ => by go_simp⟩) (by assumption) ?_
  simp only [Act.put, List.setIfInBounds_toArray, List.set_cons_zero, List.set_cons_succ]
  refine wpAnyH_take (i := 21) (oi := { dst := some 67, op := Op.pick (Operand.tmp 61) (Operand.tmp 66) (Operand.const (Value.bool false)), type := 4, pos := "law.go:86", after := #[{ on := 15, ground := Ground.data }, { on := 20, ground := Ground.data }], guard := none }) (v := .bool true) rfl (by kernel_rfl) (by kernel_rfl) (by kernel_rfl) (fun _ _ _ h => h) (Or.inl ⟨by rfl, fun w _ => by go_simp⟩) (by assumption) ?_
  simp only [Act.put, List.setIfInBounds_toArray, List.set_cons_zero, List.set_cons_succ]
  refine wpAnyH_take (i := 22) (oi := { dst := some 68, op := Op.move (Operand.tmp 67), type := 4, pos := "law.go:86", after := #[{ on := 21, ground := Ground.data }, { on := 19, ground := Ground.chain }], guard := none }) (v := .bool true) rfl (by kernel_rfl) (by kernel_rfl) (by kernel_rfl) (fun _ _ _ h => h) (Or.inl ⟨by rfl, fun w _ => by go_simp⟩) (by assumption) ?_
  simp only [Act.put, List.setIfInBounds_toArray, List.set_cons_zero, List.set_cons_succ]
  refine wpAnyH_take (i := 23) (oi := { dst := some 69, op := Op.load 28 (Operand.tmp 10), type := 28, pos := "law.go:86", after := #[{ on := 22, ground := Ground.guard }], guard := some (22, true) }) (v := .agg (vals .u8 D2).toArray) rfl (by kernel_rfl) (by kernel_rfl) (by kernel_rfl) (fun _ _ _ h => h) (yieldsIf_load_mid (by rfl) 28 (.tmp 10) rfl g10 0 rfl (vals .u8 D2) _ (fun w h => h.2.2) hu28 rfl hi28') (by assumption) ?_
  simp only [Act.put, List.setIfInBounds_toArray, List.set_cons_zero, List.set_cons_succ]
  refine wpAnyH_take (i := 24) (oi := { dst := some 70, op := Op.move (Operand.tmp 0), type := 25, pos := "law.go:86", after := #[{ on := 22, ground := Ground.guard }], guard := some (22, true) }) (v := .slice a l.length cap) rfl (by kernel_rfl) (by kernel_rfl) (by kernel_rfl) (fun _ _ _ h => h) (Or.inl ⟨by rfl, fun w _ => by go_simp⟩) (by assumption) ?_
  simp only [Act.put, List.setIfInBounds_toArray, List.set_cons_zero, List.set_cons_succ]
  refine wpAnyH_take (i := 25) (oi := { dst := some 71, op := Op.move (Operand.tmp 1), type := 25, pos := "law.go:86", after := #[{ on := 22, ground := Ground.guard }], guard := some (22, true) }) (v := .slice a' l'.length cap') rfl (by kernel_rfl) (by kernel_rfl) (by kernel_rfl) (fun _ _ _ h => h) (Or.inl ⟨by rfl, fun w _ => by go_simp⟩) (by assumption) ?_
  simp only [Act.put, List.setIfInBounds_toArray, List.set_cons_zero, List.set_cons_succ]
  refine wpAnyH_ready (rs := [26]) (by kernel_rfl) (by simp) (AllReadyH.cons (o := { dst := some 72, op := Op.buildSlice 22 2 #[(0, Operand.tmp 70), (1, Operand.tmp 71)], type := 22, pos := "law.go:86", after := #[{ on := 24, ground := Ground.data }, { on := 25, ground := Ground.data }, { on := 22, ground := Ground.guard }], guard := some (22, true) }) rfl (fun K hK => ?_) AllReadyH.nil)
  go_simp
  refine hK.out _ _ ?_ (fun hHeld => ?_)
  · exact HC.out _ (below_alloc hb6 _)
  clear hK K
  refine wpAnyH_ready (rs := [27]) (by kernel_rfl) (by simp) (AllReadyH.cons (o := { dst := some 73, op := Op.call { callee := Callee.value (Operand.func 12), args := #[Operand.tmp 72], argTypes := #[22] }, type := 28, pos := "law.go:86", after := #[{ on := 26, ground := Ground.data }, { on := 22, ground := Ground.chain }, { on := 22, ground := Ground.guard }], guard := some (22, true) }) rfl (fun K hK => ?_) AllReadyH.nil)
  go_simp
  refine (S2.out _ hb6).mono ?_
  rintro e wb ⟨rfl, hbel7⟩
  have hb7 : Below W.heap.size W wb := below_on hb6 hbel7
  refine hK.out _ _ (HC.out _ hb7) (fun hHeld => ?_)
  clear hK K
  refine wpAnyH_take (i := 28) (oi := { dst := some 74, op := Op.binOp BinOp.eql 28 (Operand.tmp 69) (Operand.tmp 73) 28, type := 4, pos := "law.go:86", after := #[{ on := 23, ground := Ground.data }, { on := 27, ground := Ground.data }, { on := 22, ground := Ground.guard }], guard := some (22, true) }) (v := .bool true) rfl (by kernel_rfl) (by kernel_rfl) (by kernel_rfl) (fun _ _ _ h => h) (Or.inl ⟨by rfl, fun w _ => by go_simp⟩) (by assumption) ?_
  simp only [Act.put, List.setIfInBounds_toArray, List.set_cons_zero, List.set_cons_succ]
  refine wpAnyH_take (i := 29) (oi := { dst := some 75, op := Op.pick (Operand.tmp 68) (Operand.tmp 74) (Operand.const (Value.bool false)), type := 4, pos := "law.go:86", after := #[{ on := 22, ground := Ground.data }, { on := 28, ground := Ground.data }], guard := none }) (v := .bool true) rfl (by kernel_rfl) (by kernel_rfl) (by kernel_rfl) (fun _ _ _ h => h) (Or.inl ⟨by rfl, fun w _ => by go_simp⟩) (by assumption) ?_
  simp only [Act.put, List.setIfInBounds_toArray, List.set_cons_zero, List.set_cons_succ]
  refine wpAnyH_take (i := 30) (oi := { dst := some 4, op := Op.assign (Operand.tmp 75), type := 4, pos := "law.go:86", after := #[{ on := 29, ground := Ground.data }, { on := 27, ground := Ground.chain }, { on := 0, ground := Ground.phase }, { on := 1, ground := Ground.phase }, { on := 2, ground := Ground.phase }, { on := 3, ground := Ground.phase }, { on := 4, ground := Ground.phase }, { on := 5, ground := Ground.phase }, { on := 6, ground := Ground.phase }, { on := 7, ground := Ground.phase }, { on := 8, ground := Ground.phase }, { on := 9, ground := Ground.phase }, { on := 10, ground := Ground.phase }, { on := 11, ground := Ground.phase }, { on := 12, ground := Ground.phase }, { on := 13, ground := Ground.phase }, { on := 14, ground := Ground.phase }, { on := 15, ground := Ground.phase }, { on := 16, ground := Ground.phase }, { on := 17, ground := Ground.phase }, { on := 18, ground := Ground.phase }, { on := 19, ground := Ground.phase }, { on := 20, ground := Ground.phase }, { on := 21, ground := Ground.phase }, { on := 22, ground := Ground.phase }, { on := 23, ground := Ground.phase }, { on := 24, ground := Ground.phase }, { on := 25, ground := Ground.phase }, { on := 26, ground := Ground.phase }, { on := 27, ground := Ground.phase }, { on := 28, ground := Ground.phase }, { on := 29, ground := Ground.phase }], guard := none }) (v := .bool true) rfl (by kernel_rfl) (by kernel_rfl) (by kernel_rfl) (fun _ _ _ h => h) (Or.inl ⟨by rfl, fun w _ => by go_simp⟩) (by assumption) ?_
  simp only [Act.put, List.setIfInBounds_toArray, List.set_cons_zero, List.set_cons_succ]
  refine wpAnyH_done (by kernel_rfl) ?_ _
  refine NoPanic.normal ?_
  go_wp2
  go_ret
  exact ⟨rfl, below_on HB.out hb7⟩

set_option maxRecDepth 100000 in
theorem shaLooks_lifted (os : Os) (started : os.Started) (H : Type) (enc : TypeId × Value → H) :
    ReturnsInHanded {} Tryd.checked os 6 .any (fun w args => (Rows.shaLooksSpec.pre enc Tryd.prog Tryd.f6 [] false w args ∧ laidMetH Tryd.prog laid1 w) ∧ sizedMet enc Tryd.prog Tryd.f6 (OpenSpec.ofChange Rows.shaLooksSpec) false w args)
      (Rows.shaLooksSpec.post enc Tryd.prog Tryd.f6 false true false false) := by
  refine returnsInHanded_of_change_and (C := Tryd.checked) (X := fun w _ => laidMetH Tryd.prog laid1 w) (fun _ _ _ hh h => h.of_heap hh) own started (by kernel_rfl) Tryd.func6
    (ChangeSpec.witness_shaped (enc := enc) (C := Tryd.checked) (os := os) (X := fun w _ => laidMetH Tryd.prog laid1 w) false (World.doorLaid Tryd.prog 14 os) #[.slice none 0 0, .slice none 0 0] 8 rfl (World.shaped_of_RefB (by kernel_rfl) (by kernel_rfl)) (by kernel_rfl) (by kernel_rfl) (by kernel_rfl) (door_met os _)) ?_
  intro W base args ds gs before hval0 hW _ _ hL _
  have hval : ∀ (j : Nat) t v, Tryd.f6.params[j]? = some t → args[j]? = some v → Value.okWide Tryd.prog W .any base t v := hval0
  have hW' := hW
  obtain ⟨p, q, hA0, hV, rfl, hfz, hnd⟩ := hW
  have hA : DataW.TrodAll enc Tryd.prog W 0 (fun _ => true) true Tryd.f6.params.toList args.toList ds p := hA0
  rw [Tryd.params6] at hA hval
  obtain ⟨v0, vs0, d0, ds0, p0, q0, hargs, rfl, rfl, h0, r0⟩ := trodAll_cons hA
  obtain ⟨v1, vs1, d1, ds1, p1, q1, rfl, rfl, rfl, h1, r1⟩ := trodAll_cons r0
  obtain ⟨rfl, rfl, rfl⟩ := trodAll_nil r1
  obtain rfl : args = #[v0, v1] := by cases args; simp_all
  obtain ⟨rfl, rfl⟩ := trodVars_none hV
  obtain ⟨b0, len0, cap0, rfl⟩ := okWide_slice Tryd.underlying25 (hval 0 25 v0 rfl rfl)
  have k0 := h0
  have lt0 : ∀ x ∈ p0, x.block < W.heap.size := by obtain ⟨m, hm⟩ := k0; exact DataW.trod_lt m _ _ _ hm
  obtain ⟨l0, s0, w0⟩ : ∃ l, Bytes W (.slice b0 len0 cap0) l ∧ ∀ z ∈ l, Byte z := by
    obtain ⟨fuel, hf⟩ := h0
    rcases open_ints Tryd.underlying25 Tryd.underlying5 (by kernel_rfl) hf with ⟨hcs, _⟩ | ⟨x, l, c, zs, hcs, _, hl, hm, hz, _, hcell, hwz⟩
    · simp [Value.cells] at hcs
      obtain ⟨rfl, rfl, rfl⟩ := hcs
      exact ⟨[], Bytes.nil _, by simp⟩
    · simp [Value.cells] at hcs
      obtain ⟨rfl, rfl, rfl⟩ := hcs
      exact bytes_row hl hm (by simpa using hz) hcell hwz
  obtain ⟨b1, len1, cap1, rfl⟩ := okWide_slice Tryd.underlying25 (hval 1 25 v1 rfl rfl)
  have k1 := h1
  have lt1 : ∀ x ∈ p1, x.block < W.heap.size := by obtain ⟨m, hm⟩ := k1; exact DataW.trod_lt m _ _ _ hm
  obtain ⟨l1, s1, w1⟩ : ∃ l, Bytes W (.slice b1 len1 cap1) l ∧ ∀ z ∈ l, Byte z := by
    obtain ⟨fuel, hf⟩ := h1
    rcases open_ints Tryd.underlying25 Tryd.underlying5 (by kernel_rfl) hf with ⟨hcs, _⟩ | ⟨x, l, c, zs, hcs, _, hl, hm, hz, _, hcell, hwz⟩
    · simp [Value.cells] at hcs
      obtain ⟨rfl, rfl, rfl⟩ := hcs
      exact ⟨[], Bytes.nil _, by simp⟩
    · simp [Value.cells] at hcs
      obtain ⟨rfl, rfl, rfl⟩ := hcs
      exact bytes_row hl hm (by simpa using hz) hcell hwz
  clear hA0 hval0
  refine (shaLooks_walk (w := W) (ks_of_laid hL) _ l0 w0 s0 _ l1 w1 s1).mono fun e W' ⟨he, bel⟩ => ?_
  subst he
  exact ⟨_, rfl, _, _, _, [], _, [], hW', trodAll_mk1 (shut_bool Tryd.underlying4 _), (trodAll_cons_mk (Below.trod laidOut (by kernel_rfl) (of_decide_eq_true (by kernel_rfl)) k0 bel lt0) (trodAll_cons_mk (Below.trod laidOut (by kernel_rfl) (of_decide_eq_true (by kernel_rfl)) k1 bel lt1) trodAll_mk0)), rfl, bel.frame _, fun h => by cases h⟩

theorem shaLooks_holds : Rows.ShaLooksSaid :=
  OpenClaim.holds_of_wide 6 Tryd.f6 rfl rfl rfl rfl rfl rfl rfl ⟨rfl, rfl, rfl, rfl, rfl⟩ rfl rfl rfl rfl rfl (by kernel_rfl) Tryd.func6 (by kernel_rfl)
    (of_decide_eq_true (by kernel_rfl)) (by unfold Func.isWrapper; first | (rw [if_pos (by decide +kernel)]; kernel_rfl) | (rw [if_neg (by decide +kernel)]; exact ⟨rfl, rfl⟩))
    (fun os started H enc _ => shaLooks_lifted os started H enc)
#print axioms shaLooks_holds
theorem shaLooks_card : Rows.ShaLooksCardSaid :=
  Claim7.holds_tied_plain_at .later [] [.data] true (true, "34bf6f512d100cf8a2d92042fc1f1bd857a1573d03b0dbff5ca3c1d95d8d5be7") false
    shaLooks_holds (fun _ h => by cases h) (by kernel_rfl) (fun _ h => by cases h) shaLooks_row_tie rfl ⟨rfl, rfl⟩ (by kernel_rfl) rfl
    (fun f fn hf hfn => by
      obtain rfl : f = 6 := Option.some.inj ((show Tryd.prog.funcNamed "pappus/pappuslaw03.ShaLooks" = some 6 by kernel_rfl).symm.trans hf) |>.symm
      obtain rfl : fn = Tryd.f6 := (Option.some.inj (Tryd.func6.symm.trans hfn)).symm
      exact ⟨by kernel_rfl, fun j t ht => by
        rw [Tryd.params6] at ht
        have hm : t ∈ [25, 25] := by simpa using Array.mem_of_getElem? ht
        have hall : ([25, 25].all fun u => !Tryd.prog.wantsStandIn u) = true := by kernel_rfl
        exact (show Tryd.prog.wantsStandIn t = false by simpa using List.all_eq_true.1 hall t hm)⟩)
    (by kernel_rfl)
#print axioms shaLooks_card
end Go.Proofs.YtllldlpnocnagaaDoor
