/-
  Proved: for every transaction, all outputs and every size the law FeePays answers true, and its arguments read as they did. Condition: the table of the sum's constants stands, as the card says.
-/
import Derived.Test.YtbeegcpmpgdbnaaDoorFeeAl
import Derived.Test.YtbeegcpmpgdbnaaDoorFeeGr
import Derived.Test.YtbeegcpmpgdbnaaDoorFeeCame
import Derived.Test.YtbeegcpmpgdbnaaDoorRefOf10
import Derived.Test.YtbeegcpmpgdbnaaDoorRefFloor
import Derived.Test.YtbeegcpmpgdbnaaDoorShaLaw
namespace Go.Proofs.YtbeegcpmpgdbnaaDoor
open Go.ChangeShapes Go.WideShapes Go.ChangeAt Go.RowKit

def Counting (w : World) (n : Nat) (i : Value) (wr : World) : Prop := ∃ k : Nat, k ≤ n ∧ i = .int .i64 k ∧ Below w.heap.size w wr
set_option maxRecDepth 100000 in
set_option maxHeartbeats 4000000 in
theorem feePays_walk {w : World} (hk : Ks w) (t : Tr) (iv ov : Value) (h : TxAt w iv ov t) (hok : TrOk t) (pv : Value) (prev : List TOut) (hpo : ∀ x ∈ prev, OutOk x) (ho : OutsAt w pv prev) (z : Int) (hz : -9223372036854775808 ≤ z ∧ z ≤ 9223372036854775807) :
    Calls Tryd.prog 3 #[.agg #[.int .u32 t.ver, iv, ov], pv, .int .i64 z] w fun e w' => e = .returned (.bool true) ∧ Below w.heap.size w w' := by
  classical
  obtain ⟨p, hp⟩ : ∃ p : Bool, p = true ↔ PayOk t.outs := ⟨decide (PayOk t.outs), by simp⟩
  obtain ⟨d, hd⟩ : ∃ d : Bool, d = false ↔ (t.ins.map ptOf).Nodup := ⟨!decide ((t.ins.map ptOf).Nodup), by simp⟩
  obtain ⟨r, hr⟩ : ∃ r : Bool, r = true ↔ Opens t.ins prev := ⟨decide (Opens t.ins prev), by simp⟩
  have hnm : (Tryd.f13.name == "runtime.NumGoroutine") = false := by kernel_rfl
  have hbd : Tryd.f13.body.isNone = false := by kernel_rfl
  have hnm2 : (Tryd.f14.name == "runtime.NumGoroutine") = false := by kernel_rfl
  have hbd2 : Tryd.f14.body.isNone = false := by kernel_rfl
  have hnew := below_new w (.cells #[.int .u32 t.ver, iv, ov] 26)
  have HT0 := hide (h.on hnew)
  have HP0 := hide (OutsAt.on ho hnew)
  have HB0 := hide hnew
  have HX0 := hide (TBox.new w (.int .u32 t.ver) iv ov 26)
  have HK0 := hide (hk.on hnew)
  have AL := hide (fun w (k : Ks w) => alive10_any w k)
  have CO := hide (fun w (h : TxAt w iv ov t) (ho : OutsAt w pv prev) (k : Ks w) => of_any t iv ov pv prev w h ho hok hpo k p d r hp hd hr)
  have HOK := hide hok
  have RO := hide (fun w (h : TxAt w iv ov t) (ho : OutsAt w pv prev) => rof_any t iv ov pv prev w h ho hok hpo p d r hp hd hr)
  have FL := hide (fun w => floor_any z hz.1 (by have := hz.2; omega) w)
  have RF := hide (fun w => rfloor_any z hz.1 (by have := hz.2; omega) w)
  obtain ⟨a, cap, rfl, hc1, hc2⟩ := h.1.form
  obtain ⟨a', cap', rfl, hd1, hd2⟩ := h.2.form
  obtain ⟨a'', cap'', rfl, he1, he2⟩ := OutsAt.form ho
  have GR := hide (fun w (h : TxAt w (.slice a t.ins.length cap) (.slice a' t.outs.length cap') t) => great10_any t (.slice a t.ins.length cap) (.slice a' t.outs.length cap') a'' prev.length cap'' w h.1 h.2 (fun x hx => (HOK.out.2.1 x hx).1))
  have HG : Hid (g10 t prev.length = false → t.ins.length ≤ 100 ∧ t.outs.length ≤ 100 ∧ prev.length ≤ 100 ∧ ∀ x ∈ t.ins, x.key.length ≤ 1000) := hide (fun h => ⟨(greatB_not (g10_not h).1).1, (greatB_not (g10_not h).1).2.1, (g10_not h).2, (greatB_not (g10_not h).1).2.2⟩)
  clear h ho hok hpo hk hp hd hr hnew hz
  generalize hgg : g10 t prev.length = gg at *
  clear hgg
  go_enter Tryd.func3, Tryd.ntmps3
  go_upto_region 1 with fail
  generalize w.alloc (.cells #[.int .u32 t.ver, .slice a t.ins.length cap, .slice a' t.outs.length cap'] 26) = W0 at *
  generalize hwq : w.heap.size = q at *
  have HQ := hide hwq
  clear hwq
  go_wp2_with fail
  refine (AL.out _ HK0.out).mono ?_
  rintro e w1 ⟨rfl, hb1⟩
  have HB1 := hide (below_on (show Below w.heap.size w W0 by rw [HQ.out]; exact HB0.out) hb1)
  have HT1 := hide (HT0.out.on hb1)
  have HP1 := hide (OutsAt.on HP0.out hb1)
  have HX1 := hide (HX0.out.on hb1)
  have HK1 := hide (HK0.out.on hb1)
  obtain ⟨n0, n1, n2⟩ := HX1.out
  clear hb1 HB0 HT0 HP0 HX0 HK0 AL
  go_wp2_with fail
  refine (GR.out _ HT1.out).mono ?_
  rintro e w2 ⟨rfl, hb2⟩
  have HB2 := hide (below_on HB1.out hb2)
  have HT2 := hide (HT1.out.on hb2)
  have HP2 := hide (OutsAt.on HP1.out hb2)
  have HX2 := hide (HX1.out.on hb2)
  have HK2 := hide (HK1.out.on hb2)
  clear hb2 n0 n1 n2 HB1 HT1 HP1 HX1 HK1 GR
  obtain ⟨n0, n1, n2⟩ := HX2.out
  cases gg with
  | true =>
    clear CO RO FL RF
    go_wp2
    go_ret
    exact ⟨rfl, HB2.out⟩
  | false =>
  have HLE := hide (HG.out rfl)
  clear HG
  go_wp2_with fail
  refine (CO.out _ HT2.out HP2.out HK2.out).mono ?_
  rintro e w3 ⟨rfl, hb3⟩
  have HB3 := hide (below_on HB2.out hb3)
  have HT3 := hide (HT2.out.on hb3)
  have HP3 := hide (OutsAt.on HP2.out hb3)
  have HX3 := hide (HX2.out.on hb3)
  have HK3 := hide (HK2.out.on hb3)
  clear hb3 n0 n1 n2 HB2 HT2 HP2 HX2 HK2 CO
  obtain ⟨n0, n1, n2⟩ := HX3.out
  generalize ofV t prev p d r = n at *
  generalize ofE t prev p d r = ee at *
  go_wp2_with fail
  refine (RO.out _ HT3.out HP3.out).mono ?_
  rintro e w4 ⟨rfl, hb4⟩
  have HB4 := hide (below_on HB3.out hb4)
  have HT4 := hide (HT3.out.on hb4)
  have HX4 := hide (HX3.out.on hb4)
  have HK4 := hide (HK3.out.on hb4)
  clear hb4 n0 n1 n2 HB3 HT3 HP3 HX3 HK3 RO
  obtain ⟨n0, n1, n2⟩ := HX4.out
  have HS : Hid (Counting w4 t.ins.length (.int .i64 0) w4) := hide ⟨0, Nat.zero_le _, rfl, Below.refl _ _⟩
  have hle1 := HLE.out.1
  go_wp2
  clear n0 n1 n2
  go_loopw [33] (fun i wr => Counting w4 t.ins.length i wr) (fun i _ => t.ins.length - (intOf i).toNat)
  case atStart => exact HS.out
  case round =>
    clear HS
    obtain ⟨k, hk, rfl, hB⟩ := hrel
    have HB := hide hB
    by_cases hlt : k < t.ins.length
    · obtain ⟨x, hx⟩ : ∃ x, t.ins[k]? = some x := ⟨_, List.getElem?_eq_getElem hlt⟩
      obtain ⟨b, off, kv, rfl, hrx, hbv⟩ := (HT4.out.1.on hB).get hx
      have hxl := (HOK.out.2.1 x (List.mem_of_getElem? hx)).1
      have HKL := hide (HLE.out.2.2.2 x (List.mem_of_getElem? hx))
      have HXR := hide hrx
      have HN : Hid ((Tryd.prog.info? 39).map (·.size) = some (inC (x, kv)).length) := hide (by rw [inC_length hxl]; exact info_in)
      have H1 : Hid (∀ u ∈ inC (x, kv), u.oneCell' = true) := hide (inC_one hbv.oneCell)
      have HT : Hid (∀ w : World, (w.alloc (.cells #[.int .u8 0, .int .u8 0, .int .u8 0, .int .u8 0, .int .u8 0, .int .u8 0, .int .u8 0, .int .u8 0, .int .u8 0, .int .u8 0, .int .u8 0, .int .u8 0, .int .u8 0, .int .u8 0, .int .u8 0, .int .u8 0, .int .u8 0, .int .u8 0, .int .u8 0, .int .u8 0, .int .u8 0, .int .u8 0, .int .u8 0, .int .u8 0, .int .u8 0, .int .u8 0, .int .u8 0, .int .u8 0, .int .u8 0, .int .u8 0, .int .u8 0, .int .u8 0, .int .u32 0, .slice none 0 0] 39)).there w.heap.size 0 (inC (x, kv)).length) := hide (fun w => by rw [inC_length hxl]; exact in_there w)
      have hk1 : (k : Int) < (t.ins.length : Int) := by omega
      clear hx hB
      go_upto_region 10 with (first | (refine wpList_load_mid rfl 39 (.tmp 35) rfl b (off + k * 34) rfl (inC (x, kv)) _ HXR.out Tryd.underlying39 rfl HN.out ?_) | (refine wp_store_row rfl 39 (.tmp 12) (.tmp 36) rfl wr.heap.size 0 (inC (x, kv)) rfl rfl (HT.out wr) HN.out H1.out ?_))
      have hW : ((wr.alloc (.cells #[.int .u8 0, .int .u8 0, .int .u8 0, .int .u8 0, .int .u8 0, .int .u8 0, .int .u8 0, .int .u8 0, .int .u8 0, .int .u8 0, .int .u8 0, .int .u8 0, .int .u8 0, .int .u8 0, .int .u8 0, .int .u8 0, .int .u8 0, .int .u8 0, .int .u8 0, .int .u8 0, .int .u8 0, .int .u8 0, .int .u8 0, .int .u8 0, .int .u8 0, .int .u8 0, .int .u8 0, .int .u8 0, .int .u8 0, .int .u8 0, .int .u8 0, .int .u8 0, .int .u32 0, .slice none 0 0] 39)).setCells wr.heap.size 0 (inC (x, kv))).rangeAt wr.heap.size 0 (inC (x, kv)) := World.rangeAt_setCells_same _ _ _ _ (HT.out wr)
      have hB2 : Below wr.heap.size wr ((wr.alloc (.cells #[.int .u8 0, .int .u8 0, .int .u8 0, .int .u8 0, .int .u8 0, .int .u8 0, .int .u8 0, .int .u8 0, .int .u8 0, .int .u8 0, .int .u8 0, .int .u8 0, .int .u8 0, .int .u8 0, .int .u8 0, .int .u8 0, .int .u8 0, .int .u8 0, .int .u8 0, .int .u8 0, .int .u8 0, .int .u8 0, .int .u8 0, .int .u8 0, .int .u8 0, .int .u8 0, .int .u8 0, .int .u8 0, .int .u8 0, .int .u8 0, .int .u8 0, .int .u8 0, .int .u32 0, .slice none 0 0] 39)).setCells wr.heap.size 0 (inC (x, kv))) := below_sets (Nat.le_refl _) _ _ _ ((Below.refl _ _).alloc (Nat.le_refl _) _)
      generalize (wr.alloc (.cells #[.int .u8 0, .int .u8 0, .int .u8 0, .int .u8 0, .int .u8 0, .int .u8 0, .int .u8 0, .int .u8 0, .int .u8 0, .int .u8 0, .int .u8 0, .int .u8 0, .int .u8 0, .int .u8 0, .int .u8 0, .int .u8 0, .int .u8 0, .int .u8 0, .int .u8 0, .int .u8 0, .int .u8 0, .int .u8 0, .int .u8 0, .int .u8 0, .int .u8 0, .int .u8 0, .int .u8 0, .int .u8 0, .int .u8 0, .int .u8 0, .int .u8 0, .int .u8 0, .int .u32 0, .slice none 0 0] 39)).setCells wr.heap.size 0 (inC (x, kv)) = W at *
      have HB2 := hide (below_on HB.out hB2)
      have c33 := (inC_key hW hxl).1
      simp only [Nat.zero_add] at c33
      have HC := hide c33
      have HKV := hide ((hbv.below hB2).drew)
      have C := hide (lock_any W.drew kv x.key HKV.out ((HK4.out.on HB2.out).on (Below.refl _ _).drew) (by have := HKL.out; omega))
      have C2 := hide (fun w (h : Bytes w kv x.key) => rsum_any w kv x.key h (by have := HKL.out; omega))
      have HD := hide (digest_length x.key)
      have EQ := fun w => eql_hash (digest x.key) HD.out w
      clear hW hB2 HXR HN H1 HT hrx hbv c33
      generalize digest x.key = D at *
      generalize hgb : wr.heap.size = gb at *
      clear hgb
      try simp only [Act.put]
      refine wp_region_held_drew (S := fun wx => Below W.heap.size W wx) (by kernel_rfl) (Below.refl _ _).drew (fun hHeld => ?_)
      refine wpAnyH_take (i := 0) (oi := { dst := some 37, op := Op.fieldAddr 39 (Operand.tmp 12) 1, type := 0, pos := "law.go:56", after := #[], guard := none }) (v := .pointer (some ⟨gb, 33, none⟩)) rfl (by kernel_rfl) (by kernel_rfl) (by kernel_rfl) (fun _ _ _ h => h) (Or.inl ⟨by rfl, fun w _ => by go_simp⟩) (by assumption) ?_
      simp only [Act.put, List.setIfInBounds_toArray, List.set_cons_zero, List.set_cons_succ]
      refine wpAnyH_take (i := 1) (oi := { dst := some 38, op := Op.load 37 (Operand.tmp 37), type := 37, pos := "law.go:56", after := #[{ on := 0, ground := Ground.data }], guard := none }) (v := kv) rfl (by kernel_rfl) (by kernel_rfl) (by kernel_rfl) (fun _ _ _ h => h) (Or.inl ⟨by rfl, fun wx h => by have c0 := (h.cell (World.block_lt_of_cell? _ _ HC.out)).trans HC.out; go_simp⟩) (by assumption) ?_
      simp only [Act.put, List.setIfInBounds_toArray, List.set_cons_zero, List.set_cons_succ]
      refine wpAnyH_take (i := 3) (oi := { dst := some 40, op := Op.fieldAddr 39 (Operand.tmp 12) 1, type := 0, pos := "law.go:56", after := #[], guard := none }) (v := .pointer (some ⟨gb, 33, none⟩)) rfl (by kernel_rfl) (by kernel_rfl) (by kernel_rfl) (fun _ _ _ h => h) (Or.inl ⟨by rfl, fun w _ => by go_simp⟩) (by assumption) ?_
      simp only [Act.put, List.setIfInBounds_toArray, List.set_cons_zero, List.set_cons_succ]
      refine wpAnyH_take (i := 4) (oi := { dst := some 41, op := Op.load 37 (Operand.tmp 40), type := 37, pos := "law.go:56", after := #[{ on := 3, ground := Ground.data }], guard := none }) (v := kv) rfl (by kernel_rfl) (by kernel_rfl) (by kernel_rfl) (fun _ _ _ h => h) (Or.inl ⟨by rfl, fun wx h => by have c0 := (h.cell (World.block_lt_of_cell? _ _ HC.out)).trans HC.out; go_simp⟩) (by assumption) ?_
      simp only [Act.put, List.setIfInBounds_toArray, List.set_cons_zero, List.set_cons_succ]
      refine wpAnyH_ready (rs := [2]) (by kernel_rfl) (by simp) (AllReadyH.cons (o := { dst := some 39, op := Op.call { callee := Callee.value (Operand.func 13), args := #[Operand.tmp 38], argTypes := #[37] }, type := 34, pos := "law.go:56", after := #[{ on := 1, ground := Ground.data }], guard := none }) rfl (fun K hK => ?_) AllReadyH.nil)
      refine step_go (vs := #[kv]) rfl 13 _ Tryd.func13 hnm hbd _ _ rfl (by simp [Act.eval]) ?_
      refine C.out.mono ?_
      rintro e w3 ⟨rfl, hb3⟩
      refine ⟨_, rfl, ?_⟩
      refine hK.out _ _ ?_ (fun hHeld => ?_)
      · exact below_on (Below.refl _ _).drew hb3
      clear hK K
      try simp only [Act.put, List.setIfInBounds_toArray, List.set_cons_zero, List.set_cons_succ]
      refine wpAnyH_ready (rs := [5]) (by kernel_rfl) (by simp) (AllReadyH.cons (o := { dst := some 42, op := Op.call { callee := Callee.value (Operand.func 14), args := #[Operand.tmp 41], argTypes := #[37] }, type := 34, pos := "law.go:56", after := #[{ on := 4, ground := Ground.data }, { on := 2, ground := Ground.chain }], guard := none }) rfl (fun K hK => ?_) AllReadyH.nil)
      refine step_go (vs := #[kv]) rfl 14 _ Tryd.func14 hnm2 hbd2 _ _ rfl (by simp [Act.eval]) ?_
      refine (C2.out _ (HKV.out.below hb3)).mono ?_
      rintro e w5 ⟨rfl, hb5⟩
      refine ⟨_, rfl, ?_⟩
      refine hK.out _ _ ?_ (fun hHeld => ?_)
      · exact below_on hHeld hb5
      clear hK K
      try simp only [Act.put, List.setIfInBounds_toArray, List.set_cons_zero, List.set_cons_succ]
      refine wpAnyH_take (i := 6) (oi := { dst := some 43, op := Op.binOp BinOp.neq 34 (Operand.tmp 39) (Operand.tmp 42) 34, type := 4, pos := "law.go:56", after := #[{ on := 2, ground := Ground.data }, { on := 5, ground := Ground.data }], guard := none }) (v := .bool false) rfl (by kernel_rfl) (by kernel_rfl) (by kernel_rfl) (fun _ _ _ h => h) (Or.inl ⟨by rfl, fun w _ => by go_simp⟩) (by assumption) ?_
      simp only [Act.put, List.setIfInBounds_toArray, List.set_cons_zero, List.set_cons_succ]
      refine wpAnyH_done (by kernel_rfl) ?_ _
      clear hHeld
      have HB8 := hide (below_on HB2.out (below_on (below_on (Below.refl _ _).drew hb3) hb5))
      clear hb3 hb5 EQ
      have R : Hid (Counting w4 t.ins.length (.int .i64 ((k + 1 : Nat) : Int)) w5) := hide ⟨k + 1, by omega, rfl, HB8.out⟩
      clear HB8
      go_wp2
      go_roundw
      case rel => first | exact R.out | ((repeat apply Exists.intro); exact ⟨R.out, rfl⟩)
      case measure => simp [intOf]; omega
    · have hk2 : (t.ins.length : Int) ≤ (k : Int) := by omega
      have HB5 := hide (below_on HB4.out hB)
      clear hB HB
      generalize floorV z = fz at *
      go_wp2_with fail
      refine (FL.out _).mono ?_
      rintro e w6 ⟨rfl, hb6⟩
      have HB6 := hide (below_on HB5.out hb6)
      clear hb6 HB5 FL
      go_wp2_with fail
      refine (RF.out _).mono ?_
      rintro e w7 ⟨rfl, hb7⟩
      have HB7 := hide (below_on HB6.out hb7)
      clear hb7 HB6 RF
      go_wp2
      go_ret
      exact ⟨by first | rfl | simp, HB7.out⟩

set_option maxRecDepth 100000 in
theorem feePays_lifted (os : Os) (started : os.Started) (H : Type) (enc : TypeId × Value → H) :
    ReturnsInHanded {} Tryd.checked os 3 .any (fun w args => (Rows.feePaysSpec.pre enc Tryd.prog Tryd.f3 [] false w args ∧ laidMetH Tryd.prog laid1 w) ∧ sizedMet enc Tryd.prog Tryd.f3 (OpenSpec.ofChange Rows.feePaysSpec) false w args)
      (Rows.feePaysSpec.post enc Tryd.prog Tryd.f3 false true false false) := by
  refine returnsInHanded_of_change_and (C := Tryd.checked) (X := fun w _ => laidMetH Tryd.prog laid1 w) (fun _ _ _ hh h => h.of_heap hh) own started (by kernel_rfl) Tryd.func3
    (ChangeSpec.witness_shaped (enc := enc) (C := Tryd.checked) (os := os) (X := fun w _ => laidMetH Tryd.prog laid1 w) false (World.doorLaid Tryd.prog 14 os) #[.agg #[.int .u32 0, .slice none 0 0, .slice none 0 0], .slice none 0 0, .int .i64 0] 8 rfl (World.shaped_of_RefB (by kernel_rfl) (by kernel_rfl)) (by kernel_rfl) (by kernel_rfl) (by kernel_rfl) (door_met os _)) ?_
  intro W base args ds gs before hval0 hW _ _ hL _
  have hval : ∀ (j : Nat) t v, Tryd.f3.params[j]? = some t → args[j]? = some v → Value.okWide Tryd.prog W .any base t v := hval0
  have hW' := hW
  obtain ⟨p, q, hA0, hV, rfl, hfz, hnd⟩ := hW
  have hA : DataW.TrodAll enc Tryd.prog W 0 (fun _ => true) true Tryd.f3.params.toList args.toList ds p := hA0
  rw [Tryd.params3] at hA hval
  obtain ⟨v0, vs0, d0, ds0, p0, q0, hargs, rfl, rfl, h0, r0⟩ := trodAll_cons hA
  obtain ⟨v1, vs1, d1, ds1, p1, q1, rfl, rfl, rfl, h1, r1⟩ := trodAll_cons r0
  obtain ⟨v2, vs2, d2, ds2, p2, q2, rfl, rfl, rfl, h2, r2⟩ := trodAll_cons r1
  obtain ⟨rfl, rfl, rfl⟩ := trodAll_nil r2
  obtain rfl : args = #[v0, v1, v2] := by cases args; simp_all
  obtain ⟨rfl, rfl⟩ := trodVars_none hV
  have k0 := h0
  have lt0 : ∀ x ∈ p0, x.block < W.heap.size := by obtain ⟨m, hm⟩ := k0; exact DataW.trod_lt m _ _ _ hm
  obtain ⟨t0, a0, b0, rfl, s0, w0⟩ := tx_came (fun _ => rfl) (hval 0 26 v0 rfl rfl) h0
  have k1 := h1
  have lt1 : ∀ x ∈ p1, x.block < W.heap.size := by obtain ⟨m, hm⟩ := k1; exact DataW.trod_lt m _ _ _ hm
  obtain ⟨l1, s1, w1⟩ := outs_arg (hval 1 24 v1 rfl rfl) h1
  obtain ⟨a2, rfl, rfl, rfl, w2⟩ := open_int Tryd.underlying3 (hval 2 3 v2 rfl rfl) h2
  clear hA0 hval0
  refine (feePays_walk (w := W) (ks_of_laid hL) t0 _ _ s0 w0 _ l1 w1 s1 a2 (int_of_wf w2)).mono fun e W' ⟨he, bel⟩ => ?_
  subst he
  exact ⟨_, rfl, _, _, _, [], _, [], hW', trodAll_mk1 (shut_bool Tryd.underlying4 _), (trodAll_cons_mk (Below.trod laidOut (by kernel_rfl) (of_decide_eq_true (by kernel_rfl)) k0 bel lt0) (trodAll_cons_mk (Below.trod laidOut (by kernel_rfl) (of_decide_eq_true (by kernel_rfl)) k1 bel lt1) (trodAll_cons_mk (shut_int Tryd.underlying3 w2) trodAll_mk0))), rfl, bel.frame _, fun h => by cases h⟩

theorem feePays_holds : Rows.FeePaysSaid :=
  OpenClaim.holds_of_wide 3 Tryd.f3 rfl rfl rfl rfl rfl rfl rfl ⟨rfl, rfl, rfl, rfl, rfl⟩ rfl rfl rfl rfl rfl (by kernel_rfl) Tryd.func3 (by kernel_rfl)
    (of_decide_eq_true (by kernel_rfl)) (by unfold Func.isWrapper; first | (rw [if_pos (by decide +kernel)]; kernel_rfl) | (rw [if_neg (by decide +kernel)]; exact ⟨rfl, rfl⟩))
    (fun os started H enc _ => feePays_lifted os started H enc)
#print axioms feePays_holds
theorem feePays_card : Rows.FeePaysCardSaid :=
  Claim7.holds_tied_plain_at .later [] [.data] true (true, "85baf81c6edc530ebc6a8ace781ae8a87f889e51b0c1991837a95916fbd68c89") false
    feePays_holds (fun _ h => by cases h) (by kernel_rfl) (fun _ h => by cases h) feePays_row_tie rfl ⟨rfl, rfl⟩ (by kernel_rfl) rfl
    (fun f fn hf hfn => by
      obtain rfl : f = 3 := Option.some.inj ((show Tryd.prog.funcNamed "pappus/pappuslaw10.FeePays" = some 3 by kernel_rfl).symm.trans hf) |>.symm
      obtain rfl : fn = Tryd.f3 := (Option.some.inj (Tryd.func3.symm.trans hfn)).symm
      exact ⟨by kernel_rfl, fun j t ht => by
        rw [Tryd.params3] at ht
        have hm : t ∈ [26, 24, 3] := by simpa using Array.mem_of_getElem? ht
        have hall : ([26, 24, 3].all fun u => !Tryd.prog.wantsStandIn u) = true := by kernel_rfl
        exact (show Tryd.prog.wantsStandIn t = false by simpa using List.all_eq_true.1 hall t hm)⟩)
    (by kernel_rfl)
#print axioms feePays_card
end Go.Proofs.YtbeegcpmpgdbnaaDoor
