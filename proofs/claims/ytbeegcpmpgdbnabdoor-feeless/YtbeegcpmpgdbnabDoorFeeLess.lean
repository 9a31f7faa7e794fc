/-
  Proved: for all three weights the law FeeLess answers true, and its arguments read as they did. Condition: the table of the sum's constants stands, as the card says.
-/
import Derived.Test.YtbeegcpmpgdbnabDoorFeeAl
import Derived.Test.YtbeegcpmpgdbnabDoorFeeCame
import Derived.Test.YtbeegcpmpgdbnabDoorFeeWts
import Derived.Test.YtbeegcpmpgdbnabDoorShaLaw
namespace Go.Proofs.YtbeegcpmpgdbnabDoor
open Go.ChangeShapes Go.WideShapes Go.ChangeAt Go.RowKit

theorem less_more {x y : Wt} (hx : WtOk x) (h1 : x.fee ≤ y.fee) (h2 : y.size ≤ x.size) : lessW y x = false := by
  rw [lessW_not]
  have hs : wsz y ≤ wsz x := by unfold wsz; omega
  have e1 : x.fee * wsz y ≤ x.fee * wsz x := Int.mul_le_mul_of_nonneg_left hs hx.1.1
  have e2 : x.fee * wsz x ≤ y.fee * wsz x := Int.mul_le_mul_of_nonneg_right h1 (Int.le_of_lt (wsz_pos x))
  exact Int.le_trans e1 e2
/-- Five weights, each in its box. -/
def Boxes (w : World) (gx gy gz ga gb : Nat) (x y z : Wt) : Prop := w.rangeAt gx 0 (wtC x) ∧ w.rangeAt gy 0 (wtC y) ∧ w.rangeAt gz 0 (wtC z) ∧ w.rangeAt ga 0 (wtC x) ∧ w.rangeAt gb 0 (wtC y)
theorem Boxes.on {w w' : World} {gx gy gz ga gb : Nat} {x y z : Wt} (h : Boxes w gx gy gz ga gb x y z) (hb : Below w.heap.size w w') : Boxes w' gx gy gz ga gb x y z :=
  ⟨range_on h.1 hb, range_on h.2.1 hb, range_on h.2.2.1 hb, range_on h.2.2.2.1 hb, range_on h.2.2.2.2 hb⟩
theorem three_there (w : World) (t : TypeId) : (((w.alloc (.cells #[.int .u64 0, .int .i64 0] t)).alloc (.cells #[.int .u64 0, .int .i64 0] t)).alloc (.cells #[.int .u64 0, .int .i64 0] t)).drew.there w.heap.size 0 2 ∧ (((w.alloc (.cells #[.int .u64 0, .int .i64 0] t)).alloc (.cells #[.int .u64 0, .int .i64 0] t)).alloc (.cells #[.int .u64 0, .int .i64 0] t)).drew.there (w.heap.size + 1) 0 2 ∧ (((w.alloc (.cells #[.int .u64 0, .int .i64 0] t)).alloc (.cells #[.int .u64 0, .int .i64 0] t)).alloc (.cells #[.int .u64 0, .int .i64 0] t)).drew.there (w.heap.size + 1 + 1) 0 2 := by
  have h1 := there_new w #[.int .u64 0, .int .i64 0] t
  have h2 := there_new (w.alloc (.cells #[.int .u64 0, .int .i64 0] t)) #[.int .u64 0, .int .i64 0] t
  have h3 := there_new ((w.alloc (.cells #[.int .u64 0, .int .i64 0] t)).alloc (.cells #[.int .u64 0, .int .i64 0] t)) #[.int .u64 0, .int .i64 0] t
  rw [alloc_size] at h2
  rw [alloc_size, alloc_size] at h3
  have b2 := below_new (w.alloc (.cells #[.int .u64 0, .int .i64 0] t)) (.cells #[.int .u64 0, .int .i64 0] t)
  have b3 := below_new ((w.alloc (.cells #[.int .u64 0, .int .i64 0] t)).alloc (.cells #[.int .u64 0, .int .i64 0] t)) (.cells #[.int .u64 0, .int .i64 0] t)
  exact ⟨there_on (there_on h1 b2) b3.drew, there_on h2 b3.drew, h3⟩
theorem two_cells {w : World} {g : Nat} {x : Wt} (h : w.rangeAt g 0 (wtC x)) : w.cell? ⟨g, 0, none⟩ = some (.int .u64 x.fee) ∧ w.cell? ⟨g, 1, none⟩ = some (.int .i64 x.size) := by
  have h0 := h 0 _ rfl
  have h1 := h 1 _ rfl
  simp only [Nat.add_zero, Nat.zero_add] at h0 h1
  exact ⟨h0, h1⟩
theorem row_three (w : World) (x y z : Wt) (t : TypeId) : RowAt (w.alloc (.cells #[.int .u64 x.fee, .int .i64 x.size, .int .u64 y.fee, .int .i64 y.size, .int .u64 z.fee, .int .i64 z.size] t)) 2 (.slice (some ⟨w.heap.size, 0, none⟩) 3 3) ([x, y, z].map wtC) := by
  have hr := range_new w [.int .u64 x.fee, .int .i64 x.size, .int .u64 y.fee, .int .i64 y.size, .int .u64 z.fee, .int .i64 z.size] t
  refine ⟨_, 3, rfl, by simp, by omega, by simp, fun _ => ⟨_, 0, rfl, fun i d hi j u hu => ?_⟩⟩
  have hi3 : i < 3 := (List.getElem?_eq_some_iff.1 hi).1
  have hj2 : j < 2 := by
    have h1 := (List.getElem?_eq_some_iff.1 hu).1
    have h2 : d ∈ [x, y, z].map wtC := List.mem_of_getElem? hi
    obtain ⟨x, _, rfl⟩ := List.mem_map.1 h2
    exact h1
  rcases (show i = 0 ∨ i = 1 ∨ i = 2 by omega) with rfl | rfl | rfl <;> simp only [List.map_cons, List.map_nil, List.getElem?_cons_zero, List.getElem?_cons_succ, Option.some.injEq] at hi <;> subst hi <;> rcases (show j = 0 ∨ j = 1 by omega) with rfl | rfl <;> simp only [wtC, List.getElem?_cons_zero, List.getElem?_cons_succ, Option.some.injEq] at hu <;> subst hu
  · exact hr 0 _ rfl
  · exact hr 1 _ rfl
  · exact hr 2 _ rfl
  · exact hr 3 _ rfl
  · exact hr 4 _ rfl
  · exact hr 5 _ rfl

set_option maxRecDepth 100000 in
set_option maxHeartbeats 8000000 in
theorem feeLess_walk {w : World} (hk : Ks w) (x : Wt) (hx : WtOk x) (y : Wt) (hy : WtOk y) (z : Wt) (hz : WtOk z) :
    Calls Tryd.prog 3 #[.agg #[.int .u64 x.fee, .int .i64 x.size], .agg #[.int .u64 y.fee, .int .i64 y.size], .agg #[.int .u64 z.fee, .int .i64 z.size]] w fun e w' => e = .returned (.bool true) ∧ Below w.heap.size w w' := by
  have mixed : Tryd.prog.follows .mixedOrders = true := by kernel_rfl
  have aE := Tryd.isAgg29
  have zE := Tryd.sizeOf29
  have hb : ∀ (w : World) o, Below w.heap.size w (w.alloc o) := below_new
  have h1 := range_new w (wtC x) 24
  have h2 := range_new (w.alloc (.cells (wtC x).toArray 24)) (wtC y) 24
  have h3 := range_new ((w.alloc (.cells (wtC x).toArray 24)).alloc (.cells (wtC y).toArray 24)) (wtC z) 24
  have h1' := range_on (range_on h1 (hb _ (.cells (wtC y).toArray 24))) (hb _ (.cells (wtC z).toArray 24))
  have h2' := range_on h2 (hb _ (.cells (wtC z).toArray 24))
  rw [alloc_size] at h2'
  rw [alloc_size, alloc_size, show w.heap.size + 1 + 1 = w.heap.size + 2 from rfl] at h3
  have HB0 := hide (below_on (below_on (hb w (.cells (wtC x).toArray 24)) (hb _ (.cells (wtC y).toArray 24))) (hb _ (.cells (wtC z).toArray 24)))
  change Hid (Below w.heap.size w (((w.alloc (.cells #[.int .u64 x.fee, .int .i64 x.size] 24)).alloc (.cells #[.int .u64 y.fee, .int .i64 y.size] 24)).alloc (.cells #[.int .u64 z.fee, .int .i64 z.size] 24))) at HB0
  change World.rangeAt (((w.alloc (.cells #[.int .u64 x.fee, .int .i64 x.size] 24)).alloc (.cells #[.int .u64 y.fee, .int .i64 y.size] 24)).alloc (.cells #[.int .u64 z.fee, .int .i64 z.size] 24)) _ _ _ at h1' h2' h3
  have AL := hide (fun w (k : Ks w) => alive10_any w k)
  have WG := hide (fun w v (h : RowAt w 2 v ([x, y, z].map wtC)) => weights_any [x, y, z] (by simp) v w h)
  have CXX := hide (fun w => less_any x x hx hx w)
  have CXY := hide (fun w => less_any x y hx hy w)
  have CYX := hide (fun w => less_any y x hy hx w)
  have CYZ := hide (fun w => less_any y z hy hz w)
  have CXZ := hide (fun w => less_any x z hx hz w)
  rw [lessW_self] at CXX
  have HLM := hide (fun h1 h2 => less_more (y := y) hx h1 h2)
  have HK0 := hide (hk.on HB0.out)
  have HBX := hide (And.intro h1' (And.intro h2' h3))
  clear h1 h2 h3 h1' h2' hb hk hx hy hz
  go_enter Tryd.func3, Tryd.ntmps3
  go_upto_region 1 with fail
  generalize ((w.alloc (.cells #[.int .u64 x.fee, .int .i64 x.size] 24)).alloc (.cells #[.int .u64 y.fee, .int .i64 y.size] 24)).alloc (.cells #[.int .u64 z.fee, .int .i64 z.size] 24) = W0 at *
  generalize hga : w.heap.size = ga at *
  have HGA := hide hga
  clear hga
  go_wp2_with fail
  refine (AL.out _ HK0.out).mono ?_
  rintro e w1 ⟨rfl, hb1⟩
  have HB1 := hide (below_on (show Below w.heap.size w W0 by rw [HGA.out]; exact HB0.out) hb1)
  have HBX1 := hide (And.intro (range_on HBX.out.1 hb1) (And.intro (range_on HBX.out.2.1 hb1) (range_on HBX.out.2.2 hb1)))
  clear hb1 HB0 HBX AL HK0
  obtain ⟨a0, a1⟩ := two_cells HBX1.out.1
  obtain ⟨b0, b1⟩ := two_cells HBX1.out.2.1
  obtain ⟨c0, c1⟩ := two_cells HBX1.out.2.2
  have hrow := row_three w1 x y z 24
  have hbn := below_new w1 (.cells #[.int .u64 x.fee, .int .i64 x.size, .int .u64 y.fee, .int .i64 y.size, .int .u64 z.fee, .int .i64 z.size] 24)
  have HR := hide hrow
  have HB2 := hide (below_on HB1.out hbn)
  have HXA := hide (And.intro (range_on HBX1.out.1 hbn) (range_on HBX1.out.2.1 hbn))
  clear hrow hbn HB1 HBX1
  go_wp2_with fail
  refine (WG.out _ _ HR.out).mono ?_
  rintro e w3 ⟨v3, rfl, hb3, hrow3⟩
  clear a0 a1 b0 b1 c0 c1
  have hr3 := hrow3.row
  obtain ⟨a3, cap3, hv3, hc3, hd3⟩ := hr3.form
  have hv3 : v3 = .slice a3 3 cap3 := hv3
  subst hv3
  obtain ⟨b3, o3, rfl, k0⟩ := hr3.get (k := 0) (c := wtC x) rfl
  obtain ⟨b3', o3', e1, k1⟩ := hr3.get (k := 1) (c := wtC y) rfl
  cases e1
  obtain ⟨b3', o3', e2, k2⟩ := hr3.get (k := 2) (c := wtC z) rfl
  cases e2
  have HB3 := hide (below_on HB2.out hb3)
  have HXA3 := hide (And.intro (range_on HXA.out.1 hb3) (range_on HXA.out.2 hb3))
  clear hrow3 hr3 hc3 hd3 hb3 HB2 HXA HR WG
  have m0 := k0 0 _ rfl
  have m1 := k0 1 _ rfl
  have m2 := k1 0 _ rfl
  have m3 := k1 1 _ rfl
  have m4 := k2 0 _ rfl
  have m5 := k2 1 _ rfl
  simp only [Nat.zero_mul, Nat.one_mul, Nat.add_zero] at m0 m1 m2 m3 m4 m5
  clear k0 k1 k2
  go_upto_region 4 with fail
  have HM := hide (And.intro m0 (And.intro m1 (And.intro m2 (And.intro m3 (And.intro m4 m5)))))
  clear m0 m1 m2 m3 m4 m5
  generalize hw3 : w3 = W at *
  clear hw3
  try simp only [Act.put]
  refine wp_region_held_drew (S := fun wx => Below W.heap.size W wx) (by kernel_rfl) (Below.refl _ _).drew (fun hHeld => ?_)
  refine wpAnyH_take (i := 0) (oi := { dst := some 18, op := Op.move (Operand.tmp 7), type := 26, pos := "law.go:219", after := #[], guard := none }) (v := .slice (some ⟨b3, o3, none⟩) 3 cap3) rfl (by kernel_rfl) (by kernel_rfl) (by kernel_rfl) (fun _ _ _ h => h) (Or.inl ⟨by rfl, fun w _ => by go_simp⟩) (by assumption) ?_
  simp only [Act.put, List.setIfInBounds_toArray, List.set_cons_zero, List.set_cons_succ]
  refine wpAnyH_take (i := 1) (oi := { dst := some 19, op := Op.indexAddr 26 (Operand.tmp 18) (Operand.const (Value.int IntKind.i64 0)), type := 0, pos := "law.go:219", after := #[{ on := 0, ground := Ground.data }], guard := none }) (v := .pointer (some ⟨b3, o3, none⟩)) rfl (by kernel_rfl) (by kernel_rfl) (by kernel_rfl) (fun _ _ _ h => h) (Or.inl ⟨by rfl, fun w _ => by go_simp⟩) (by assumption) ?_
  simp only [Act.put, List.setIfInBounds_toArray, List.set_cons_zero, List.set_cons_succ]
  refine wpAnyH_take (i := 2) (oi := { dst := some 20, op := Op.load 29 (Operand.tmp 19), type := 29, pos := "law.go:219", after := #[{ on := 1, ground := Ground.data }], guard := none }) (v := .agg #[.int .u64 x.fee, .int .i64 x.size]) rfl (by kernel_rfl) (by kernel_rfl) (by kernel_rfl) (fun _ _ _ h => h) (Or.inl ⟨by rfl, fun wx h => by have c0 := (h.cell (World.block_lt_of_cell? _ _ HM.out.1)).trans HM.out.1; have c1 := (h.cell (World.block_lt_of_cell? _ _ HM.out.2.1)).trans HM.out.2.1; go_simp⟩) (by assumption) ?_
  simp only [Act.put, List.setIfInBounds_toArray, List.set_cons_zero, List.set_cons_succ]
  refine wpAnyH_take (i := 3) (oi := { dst := some 21, op := Op.move (Operand.tmp 7), type := 26, pos := "law.go:219", after := #[{ on := 12, ground := Ground.gcOnly Departure.lateStores }], guard := none }) (v := .slice (some ⟨b3, o3, none⟩) 3 cap3) rfl (by kernel_rfl) (by kernel_rfl) (by kernel_rfl) (fun _ _ _ h => h) (Or.inl ⟨by rfl, fun w _ => by go_simp⟩) (by assumption) ?_
  simp only [Act.put, List.setIfInBounds_toArray, List.set_cons_zero, List.set_cons_succ]
  refine wpAnyH_take (i := 4) (oi := { dst := some 22, op := Op.indexAddr 26 (Operand.tmp 21) (Operand.const (Value.int IntKind.i64 1)), type := 0, pos := "law.go:219", after := #[{ on := 3, ground := Ground.data }, { on := 12, ground := Ground.gcOnly Departure.lateStores }], guard := none }) (v := .pointer (some ⟨b3, o3 + 2, none⟩)) rfl (by kernel_rfl) (by kernel_rfl) (by kernel_rfl) (fun _ _ _ h => h) (Or.inl ⟨by rfl, fun w _ => by go_simp⟩) (by assumption) ?_
  simp only [Act.put, List.setIfInBounds_toArray, List.set_cons_zero, List.set_cons_succ]
  refine wpAnyH_take (i := 5) (oi := { dst := some 23, op := Op.load 29 (Operand.tmp 22), type := 29, pos := "law.go:219", after := #[{ on := 4, ground := Ground.data }, { on := 12, ground := Ground.gcOnly Departure.lateStores }], guard := none }) (v := .agg #[.int .u64 y.fee, .int .i64 y.size]) rfl (by kernel_rfl) (by kernel_rfl) (by kernel_rfl) (fun _ _ _ h => h) (Or.inl ⟨by rfl, fun wx h => by have c0 := (h.cell (World.block_lt_of_cell? _ _ HM.out.2.2.1)).trans HM.out.2.2.1; have c1 := (h.cell (World.block_lt_of_cell? _ _ HM.out.2.2.2.1)).trans HM.out.2.2.2.1; go_simp⟩) (by assumption) ?_
  simp only [Act.put, List.setIfInBounds_toArray, List.set_cons_zero, List.set_cons_succ]
  refine wpAnyH_take (i := 6) (oi := { dst := some 24, op := Op.move (Operand.tmp 7), type := 26, pos := "law.go:219", after := #[{ on := 13, ground := Ground.gcOnly Departure.lateStores }], guard := none }) (v := .slice (some ⟨b3, o3, none⟩) 3 cap3) rfl (by kernel_rfl) (by kernel_rfl) (by kernel_rfl) (fun _ _ _ h => h) (Or.inl ⟨by rfl, fun w _ => by go_simp⟩) (by assumption) ?_
  simp only [Act.put, List.setIfInBounds_toArray, List.set_cons_zero, List.set_cons_succ]
  refine wpAnyH_take (i := 7) (oi := { dst := some 25, op := Op.indexAddr 26 (Operand.tmp 24) (Operand.const (Value.int IntKind.i64 2)), type := 0, pos := "law.go:219", after := #[{ on := 6, ground := Ground.data }, { on := 13, ground := Ground.gcOnly Departure.lateStores }], guard := none }) (v := .pointer (some ⟨b3, o3 + 4, none⟩)) rfl (by kernel_rfl) (by kernel_rfl) (by kernel_rfl) (fun _ _ _ h => h) (Or.inl ⟨by rfl, fun w _ => by go_simp⟩) (by assumption) ?_
  simp only [Act.put, List.setIfInBounds_toArray, List.set_cons_zero, List.set_cons_succ]
  refine wpAnyH_take (i := 8) (oi := { dst := some 26, op := Op.load 29 (Operand.tmp 25), type := 29, pos := "law.go:219", after := #[{ on := 7, ground := Ground.data }, { on := 13, ground := Ground.gcOnly Departure.lateStores }], guard := none }) (v := .agg #[.int .u64 z.fee, .int .i64 z.size]) rfl (by kernel_rfl) (by kernel_rfl) (by kernel_rfl) (fun _ _ _ h => h) (Or.inl ⟨by rfl, fun wx h => by have c0 := (h.cell (World.block_lt_of_cell? _ _ HM.out.2.2.2.2.1)).trans HM.out.2.2.2.2.1; have c1 := (h.cell (World.block_lt_of_cell? _ _ HM.out.2.2.2.2.2)).trans HM.out.2.2.2.2.2; go_simp⟩) (by assumption) ?_
  simp only [Act.put, List.setIfInBounds_toArray, List.set_cons_zero, List.set_cons_succ]
  refine wpAnyH_ready (rs := [9, 10, 11]) (by kernel_rfl) (by simp) (AllReadyH.cons (o := { dst := some 8, op := Op.alloc 29, type := 0, pos := "law.go:219", after := #[], guard := none }) rfl (fun K hK => ?_) (AllReadyH.cons (o := { dst := some 9, op := Op.alloc 29, type := 0, pos := "law.go:219", after := #[], guard := none }) rfl (fun K hK => ?_) (AllReadyH.cons (o := { dst := some 10, op := Op.alloc 29, type := 0, pos := "law.go:219", after := #[], guard := none }) rfl (fun K hK => ?_) AllReadyH.nil)))
  · go_simp
    refine hK.out _ _ ?_ (fun hHeld => ?_)
    · exact hHeld.alloc hHeld.size _
    clear hK K
    try simp only [Act.put, List.setIfInBounds_toArray, List.set_cons_zero, List.set_cons_succ]
    refine wpAnyH_ready (rs := [10, 11]) (by kernel_rfl) (by simp) (AllReadyH.cons (o := { dst := some 9, op := Op.alloc 29, type := 0, pos := "law.go:219", after := #[], guard := none }) rfl (fun K hK => ?_) (AllReadyH.cons (o := { dst := some 10, op := Op.alloc 29, type := 0, pos := "law.go:219", after := #[], guard := none }) rfl (fun K hK => ?_) AllReadyH.nil))
    · go_simp
      refine hK.out _ _ ?_ (fun hHeld => ?_)
      · exact hHeld.alloc hHeld.size _
      clear hK K
      try simp only [Act.put, List.setIfInBounds_toArray, List.set_cons_zero, List.set_cons_succ]
      refine wpAnyH_ready (rs := [11]) (by kernel_rfl) (by simp) (AllReadyH.cons (o := { dst := some 10, op := Op.alloc 29, type := 0, pos := "law.go:219", after := #[], guard := none }) rfl (fun K hK => ?_) AllReadyH.nil)
      go_simp
      refine hK.out _ _ ?_ (fun hHeld => ?_)
      · exact hHeld.alloc hHeld.size _
      clear hK K
      try simp only [Act.put, List.setIfInBounds_toArray, List.set_cons_zero, List.set_cons_succ]
      refine wpAnyH_ready (rs := [12]) (by kernel_rfl) (by simp) (AllReadyH.cons (o := { dst := none, op := Op.store 29 (Operand.tmp 8) (Operand.tmp 20), type := 0, pos := "law.go:219", after := #[{ on := 9, ground := Ground.data }, { on := 2, ground := Ground.data }, { on := 0, ground := Ground.phase }, { on := 1, ground := Ground.phase }, { on := 2, ground := Ground.phase }, { on := 3, ground := Ground.textOnly Departure.lateStores }, { on := 4, ground := Ground.textOnly Departure.lateStores }, { on := 5, ground := Ground.textOnly Departure.lateStores }, { on := 6, ground := Ground.textOnly Departure.lateStores }, { on := 7, ground := Ground.textOnly Departure.lateStores }, { on := 8, ground := Ground.textOnly Departure.lateStores }, { on := 9, ground := Ground.phase }, { on := 10, ground := Ground.phase }, { on := 11, ground := Ground.phase }], guard := none }) rfl (fun K hK => ?_) AllReadyH.nil)
      obtain ⟨t0, t1, t2⟩ := three_there W 29
      generalize (((W.alloc (.cells #[.int .u64 0, .int .i64 0] 29)).alloc (.cells #[.int .u64 0, .int .i64 0] 29)).alloc (.cells #[.int .u64 0, .int .i64 0] 29)).drew = V at *
      refine step_store_row rfl 29 (.tmp 8) (.tmp 20) rfl (W.heap.size) 0 (wtC x) rfl rfl t0 info_wt (wtC_one x) ?_
      refine hK.out _ _ ?_ (fun hHeld => ?_)
      · exact below_sets (by omega) _ _ _ hHeld
      clear hK K
      try simp only [Act.put]
      refine wpAnyH_ready (rs := [13]) (by kernel_rfl) (by simp) (AllReadyH.cons (o := { dst := none, op := Op.store 29 (Operand.tmp 9) (Operand.tmp 23), type := 0, pos := "law.go:219", after := #[{ on := 10, ground := Ground.data }, { on := 5, ground := Ground.data }, { on := 12, ground := Ground.chain }, { on := 0, ground := Ground.phase }, { on := 1, ground := Ground.phase }, { on := 2, ground := Ground.phase }, { on := 3, ground := Ground.phase }, { on := 4, ground := Ground.phase }, { on := 5, ground := Ground.phase }, { on := 6, ground := Ground.textOnly Departure.lateStores }, { on := 7, ground := Ground.textOnly Departure.lateStores }, { on := 8, ground := Ground.textOnly Departure.lateStores }, { on := 9, ground := Ground.phase }, { on := 10, ground := Ground.phase }, { on := 11, ground := Ground.phase }, { on := 12, ground := Ground.phase }], guard := none }) rfl (fun K hK => ?_) AllReadyH.nil)
      refine step_store_row rfl 29 (.tmp 9) (.tmp 23) rfl (W.heap.size + 1) 0 (wtC y) rfl rfl (there_apart t1 (by omega) _ _) info_wt (wtC_one y) ?_
      refine hK.out _ _ ?_ (fun hHeld => ?_)
      · exact below_sets (by omega) _ _ _ hHeld
      clear hK K
      try simp only [Act.put]
      refine wpAnyH_ready (rs := [14]) (by kernel_rfl) (by simp) (AllReadyH.cons (o := { dst := none, op := Op.store 29 (Operand.tmp 10) (Operand.tmp 26), type := 0, pos := "law.go:219", after := #[{ on := 11, ground := Ground.data }, { on := 8, ground := Ground.data }, { on := 13, ground := Ground.chain }, { on := 0, ground := Ground.phase }, { on := 1, ground := Ground.phase }, { on := 2, ground := Ground.phase }, { on := 3, ground := Ground.phase }, { on := 4, ground := Ground.phase }, { on := 5, ground := Ground.phase }, { on := 6, ground := Ground.phase }, { on := 7, ground := Ground.phase }, { on := 8, ground := Ground.phase }, { on := 9, ground := Ground.phase }, { on := 10, ground := Ground.phase }, { on := 11, ground := Ground.phase }, { on := 12, ground := Ground.phase }, { on := 13, ground := Ground.phase }], guard := none }) rfl (fun K hK => ?_) AllReadyH.nil)
      refine step_store_row rfl 29 (.tmp 10) (.tmp 26) rfl (W.heap.size + 1 + 1) 0 (wtC z) rfl rfl (there_apart (there_apart t2 (by omega) _ _) (by omega) _ _) info_wt (wtC_one z) ?_
      refine hK.out _ _ ?_ (fun hHeld => ?_)
      · exact below_sets (by omega) _ _ _ hHeld
      clear hK K
      try simp only [Act.put]
      refine wpAnyH_done (by kernel_rfl) ?_ _
      have HBX := hide (show Boxes (((V.setCells (W.heap.size) 0 (wtC x)).setCells (W.heap.size + 1) 0 (wtC y)).setCells (W.heap.size + 1 + 1) 0 (wtC z)) (W.heap.size) (W.heap.size + 1) (W.heap.size + 1 + 1) ga (ga + 1) x y z from ⟨range_apart (range_apart (World.rangeAt_setCells_same V (W.heap.size) 0 (wtC x) t0) (by omega) 0 (wtC y)) (by omega) 0 (wtC z), range_apart (World.rangeAt_setCells_same (V.setCells (W.heap.size) 0 (wtC x)) (W.heap.size + 1) 0 (wtC y) (there_apart t1 (by omega) _ _)) (by omega) 0 (wtC z), World.rangeAt_setCells_same ((V.setCells (W.heap.size) 0 (wtC x)).setCells (W.heap.size + 1) 0 (wtC y)) (W.heap.size + 1 + 1) 0 (wtC z) (there_apart (there_apart t2 (by omega) _ _) (by omega) _ _), range_on HXA3.out.1 hHeld, range_on HXA3.out.2 hHeld⟩)
      have HB4 := hide (below_on HB3.out hHeld)
      clear hHeld t0 t1 t2 HM HXA3 HB3
      generalize (((V.setCells (W.heap.size) 0 (wtC x)).setCells (W.heap.size + 1) 0 (wtC y)).setCells (W.heap.size + 1 + 1) 0 (wtC z)) = W4 at *
      generalize W.heap.size + 1 + 1 = g2 at *
      generalize W.heap.size + 1 = g1 at *
      generalize W.heap.size = g0 at *
      have HBX4 := HBX
      clear HBX
      cases h12 : lessW x y with
      | true =>
        rw [h12] at CXY
        have h21 := lessW_one h12
        cases h23 : lessW y z with
        | true =>
          rw [h23] at CYZ
          rw [lessW_trans h12 h23] at CXZ
          have CYX0 := CYX
          rw [h21] at CYX0
          clear h12 h21 h23
          obtain ⟨x0, x1⟩ := two_cells HBX4.out.1
          obtain ⟨y0, y1⟩ := two_cells HBX4.out.2.1
          obtain ⟨z0, z1⟩ := two_cells HBX4.out.2.2.1
          go_wp2_with fail
          refine (CXX.out _).mono ?_
          rintro e w9 ⟨rfl, q, os, rfl⟩
          have hbw := below_grow (Below.refl W4.heap.size W4) q os
          generalize Sort.grow (W4.drewN q) os = W5 at *
          have HBX5 := hide (HBX4.out.on hbw)
          have HB5 := hide (below_on HB4.out hbw)
          clear hbw x0 x1 y0 y1 z0 z1 HBX4 HB4
          obtain ⟨x0, x1⟩ := two_cells HBX5.out.1
          obtain ⟨y0, y1⟩ := two_cells HBX5.out.2.1
          obtain ⟨z0, z1⟩ := two_cells HBX5.out.2.2.1
          go_wp2_with fail
          refine (CXY.out _).mono ?_
          rintro e w9 ⟨rfl, q, os, rfl⟩
          have hbw := below_grow (Below.refl W5.heap.size W5) q os
          generalize Sort.grow (W5.drewN q) os = W6 at *
          have HBX6 := hide (HBX5.out.on hbw)
          have HB6 := hide (below_on HB5.out hbw)
          clear hbw x0 x1 y0 y1 z0 z1 HBX5 HB5
          obtain ⟨x0, x1⟩ := two_cells HBX6.out.1
          obtain ⟨y0, y1⟩ := two_cells HBX6.out.2.1
          obtain ⟨z0, z1⟩ := two_cells HBX6.out.2.2.1
          go_wp2_with fail
          refine (CYX0.out _).mono ?_
          rintro e w9 ⟨rfl, q, os, rfl⟩
          have hbw := below_grow (Below.refl W6.heap.size W6) q os
          generalize Sort.grow (W6.drewN q) os = W7 at *
          have HBX7 := hide (HBX6.out.on hbw)
          have HB7 := hide (below_on HB6.out hbw)
          clear hbw x0 x1 y0 y1 z0 z1 HBX6 HB6
          obtain ⟨x0, x1⟩ := two_cells HBX7.out.1
          obtain ⟨y0, y1⟩ := two_cells HBX7.out.2.1
          obtain ⟨z0, z1⟩ := two_cells HBX7.out.2.2.1
          go_wp2_with fail
          refine (CXY.out _).mono ?_
          rintro e w9 ⟨rfl, q, os, rfl⟩
          have hbw := below_grow (Below.refl W7.heap.size W7) q os
          generalize Sort.grow (W7.drewN q) os = W8 at *
          have HBX8 := hide (HBX7.out.on hbw)
          have HB8 := hide (below_on HB7.out hbw)
          clear hbw x0 x1 y0 y1 z0 z1 HBX7 HB7
          obtain ⟨x0, x1⟩ := two_cells HBX8.out.1
          obtain ⟨y0, y1⟩ := two_cells HBX8.out.2.1
          obtain ⟨z0, z1⟩ := two_cells HBX8.out.2.2.1
          go_wp2_with fail
          refine (CYZ.out _).mono ?_
          rintro e w9 ⟨rfl, q, os, rfl⟩
          have hbw := below_grow (Below.refl W8.heap.size W8) q os
          generalize Sort.grow (W8.drewN q) os = W9 at *
          have HBX9 := hide (HBX8.out.on hbw)
          have HB9 := hide (below_on HB8.out hbw)
          clear hbw x0 x1 y0 y1 z0 z1 HBX8 HB8
          obtain ⟨x0, x1⟩ := two_cells HBX9.out.1
          obtain ⟨y0, y1⟩ := two_cells HBX9.out.2.1
          obtain ⟨z0, z1⟩ := two_cells HBX9.out.2.2.1
          go_wp2_with fail
          refine (CXZ.out _).mono ?_
          rintro e w9 ⟨rfl, q, os, rfl⟩
          have hbw := below_grow (Below.refl W9.heap.size W9) q os
          generalize Sort.grow (W9.drewN q) os = W10 at *
          have HBX10 := hide (HBX9.out.on hbw)
          have HB10 := hide (below_on HB9.out hbw)
          clear hbw x0 x1 y0 y1 z0 z1 HBX9 HB9
          obtain ⟨x0, x1⟩ := two_cells HBX10.out.1
          obtain ⟨y0, y1⟩ := two_cells HBX10.out.2.1
          obtain ⟨z0, z1⟩ := two_cells HBX10.out.2.2.1
          go_wp2_with fail
          refine (CXY.out _).mono ?_
          rintro e w9 ⟨rfl, q, os, rfl⟩
          have hbw := below_grow (Below.refl W10.heap.size W10) q os
          generalize Sort.grow (W10.drewN q) os = W11 at *
          have HBX11 := hide (HBX10.out.on hbw)
          have HB11 := hide (below_on HB10.out hbw)
          clear hbw x0 x1 y0 y1 z0 z1 HBX10 HB10
          obtain ⟨a0, a1⟩ := two_cells HBX11.out.2.2.2.1
          obtain ⟨b0, b1⟩ := two_cells HBX11.out.2.2.2.2
          by_cases hf : x.fee ≤ y.fee
          · by_cases hs : y.size ≤ x.size
            · have hyx := HLM.out hf hs
              rw [hyx] at CYX
              obtain ⟨x0, x1⟩ := two_cells HBX11.out.1
              obtain ⟨y0, y1⟩ := two_cells HBX11.out.2.1
              obtain ⟨z0, z1⟩ := two_cells HBX11.out.2.2.1
              go_wp2_with fail
              refine (CYX.out _).mono ?_
              rintro e w9 ⟨rfl, q, os, rfl⟩
              have hbw := below_grow (Below.refl W11.heap.size W11) q os
              generalize Sort.grow (W11.drewN q) os = W12 at *
              have HBX12 := hide (HBX11.out.on hbw)
              have HB12 := hide (below_on HB11.out hbw)
              clear hbw x0 x1 y0 y1 z0 z1 HBX11 HB11
              clear a0 a1 b0 b1
              go_wp2
              go_ret
              exact ⟨rfl, HB12.out⟩
            · have hs1 : decide (y.size ≤ x.size) = false := decide_eq_false hs
              have hs2 : x.size < y.size := by omega
              go_wp2
              go_ret
              exact ⟨rfl, HB11.out⟩
          · have hf1 : decide (x.fee ≤ y.fee) = false := decide_eq_false hf
            have hf2 : y.fee < x.fee := by omega
            go_wp2
            go_ret
            exact ⟨rfl, HB11.out⟩
        | false =>
          rw [h23] at CYZ
          have CYX0 := CYX
          rw [h21] at CYX0
          clear h12 h21 h23
          obtain ⟨x0, x1⟩ := two_cells HBX4.out.1
          obtain ⟨y0, y1⟩ := two_cells HBX4.out.2.1
          obtain ⟨z0, z1⟩ := two_cells HBX4.out.2.2.1
          go_wp2_with fail
          refine (CXX.out _).mono ?_
          rintro e w9 ⟨rfl, q, os, rfl⟩
          have hbw := below_grow (Below.refl W4.heap.size W4) q os
          generalize Sort.grow (W4.drewN q) os = W5 at *
          have HBX5 := hide (HBX4.out.on hbw)
          have HB5 := hide (below_on HB4.out hbw)
          clear hbw x0 x1 y0 y1 z0 z1 HBX4 HB4
          obtain ⟨x0, x1⟩ := two_cells HBX5.out.1
          obtain ⟨y0, y1⟩ := two_cells HBX5.out.2.1
          obtain ⟨z0, z1⟩ := two_cells HBX5.out.2.2.1
          go_wp2_with fail
          refine (CXY.out _).mono ?_
          rintro e w9 ⟨rfl, q, os, rfl⟩
          have hbw := below_grow (Below.refl W5.heap.size W5) q os
          generalize Sort.grow (W5.drewN q) os = W6 at *
          have HBX6 := hide (HBX5.out.on hbw)
          have HB6 := hide (below_on HB5.out hbw)
          clear hbw x0 x1 y0 y1 z0 z1 HBX5 HB5
          obtain ⟨x0, x1⟩ := two_cells HBX6.out.1
          obtain ⟨y0, y1⟩ := two_cells HBX6.out.2.1
          obtain ⟨z0, z1⟩ := two_cells HBX6.out.2.2.1
          go_wp2_with fail
          refine (CYX0.out _).mono ?_
          rintro e w9 ⟨rfl, q, os, rfl⟩
          have hbw := below_grow (Below.refl W6.heap.size W6) q os
          generalize Sort.grow (W6.drewN q) os = W7 at *
          have HBX7 := hide (HBX6.out.on hbw)
          have HB7 := hide (below_on HB6.out hbw)
          clear hbw x0 x1 y0 y1 z0 z1 HBX6 HB6
          obtain ⟨x0, x1⟩ := two_cells HBX7.out.1
          obtain ⟨y0, y1⟩ := two_cells HBX7.out.2.1
          obtain ⟨z0, z1⟩ := two_cells HBX7.out.2.2.1
          go_wp2_with fail
          refine (CXY.out _).mono ?_
          rintro e w9 ⟨rfl, q, os, rfl⟩
          have hbw := below_grow (Below.refl W7.heap.size W7) q os
          generalize Sort.grow (W7.drewN q) os = W8 at *
          have HBX8 := hide (HBX7.out.on hbw)
          have HB8 := hide (below_on HB7.out hbw)
          clear hbw x0 x1 y0 y1 z0 z1 HBX7 HB7
          obtain ⟨x0, x1⟩ := two_cells HBX8.out.1
          obtain ⟨y0, y1⟩ := two_cells HBX8.out.2.1
          obtain ⟨z0, z1⟩ := two_cells HBX8.out.2.2.1
          go_wp2_with fail
          refine (CYZ.out _).mono ?_
          rintro e w9 ⟨rfl, q, os, rfl⟩
          have hbw := below_grow (Below.refl W8.heap.size W8) q os
          generalize Sort.grow (W8.drewN q) os = W9 at *
          have HBX9 := hide (HBX8.out.on hbw)
          have HB9 := hide (below_on HB8.out hbw)
          clear hbw x0 x1 y0 y1 z0 z1 HBX8 HB8
          obtain ⟨x0, x1⟩ := two_cells HBX9.out.1
          obtain ⟨y0, y1⟩ := two_cells HBX9.out.2.1
          obtain ⟨z0, z1⟩ := two_cells HBX9.out.2.2.1
          go_wp2_with fail
          refine (CXY.out _).mono ?_
          rintro e w9 ⟨rfl, q, os, rfl⟩
          have hbw := below_grow (Below.refl W9.heap.size W9) q os
          generalize Sort.grow (W9.drewN q) os = W10 at *
          have HBX10 := hide (HBX9.out.on hbw)
          have HB10 := hide (below_on HB9.out hbw)
          clear hbw x0 x1 y0 y1 z0 z1 HBX9 HB9
          obtain ⟨a0, a1⟩ := two_cells HBX10.out.2.2.2.1
          obtain ⟨b0, b1⟩ := two_cells HBX10.out.2.2.2.2
          by_cases hf : x.fee ≤ y.fee
          · by_cases hs : y.size ≤ x.size
            · have hyx := HLM.out hf hs
              rw [hyx] at CYX
              obtain ⟨x0, x1⟩ := two_cells HBX10.out.1
              obtain ⟨y0, y1⟩ := two_cells HBX10.out.2.1
              obtain ⟨z0, z1⟩ := two_cells HBX10.out.2.2.1
              go_wp2_with fail
              refine (CYX.out _).mono ?_
              rintro e w9 ⟨rfl, q, os, rfl⟩
              have hbw := below_grow (Below.refl W10.heap.size W10) q os
              generalize Sort.grow (W10.drewN q) os = W11 at *
              have HBX11 := hide (HBX10.out.on hbw)
              have HB11 := hide (below_on HB10.out hbw)
              clear hbw x0 x1 y0 y1 z0 z1 HBX10 HB10
              clear a0 a1 b0 b1
              go_wp2
              go_ret
              exact ⟨rfl, HB11.out⟩
            · have hs1 : decide (y.size ≤ x.size) = false := decide_eq_false hs
              have hs2 : x.size < y.size := by omega
              go_wp2
              go_ret
              exact ⟨rfl, HB10.out⟩
          · have hf1 : decide (x.fee ≤ y.fee) = false := decide_eq_false hf
            have hf2 : y.fee < x.fee := by omega
            go_wp2
            go_ret
            exact ⟨rfl, HB10.out⟩
      | false =>
        rw [h12] at CXY
        cases h23 : lessW y z with
        | true =>
          rw [h23] at CYZ
          clear h12 h23
          obtain ⟨x0, x1⟩ := two_cells HBX4.out.1
          obtain ⟨y0, y1⟩ := two_cells HBX4.out.2.1
          obtain ⟨z0, z1⟩ := two_cells HBX4.out.2.2.1
          go_wp2_with fail
          refine (CXX.out _).mono ?_
          rintro e w9 ⟨rfl, q, os, rfl⟩
          have hbw := below_grow (Below.refl W4.heap.size W4) q os
          generalize Sort.grow (W4.drewN q) os = W5 at *
          have HBX5 := hide (HBX4.out.on hbw)
          have HB5 := hide (below_on HB4.out hbw)
          clear hbw x0 x1 y0 y1 z0 z1 HBX4 HB4
          obtain ⟨x0, x1⟩ := two_cells HBX5.out.1
          obtain ⟨y0, y1⟩ := two_cells HBX5.out.2.1
          obtain ⟨z0, z1⟩ := two_cells HBX5.out.2.2.1
          go_wp2_with fail
          refine (CXY.out _).mono ?_
          rintro e w9 ⟨rfl, q, os, rfl⟩
          have hbw := below_grow (Below.refl W5.heap.size W5) q os
          generalize Sort.grow (W5.drewN q) os = W6 at *
          have HBX6 := hide (HBX5.out.on hbw)
          have HB6 := hide (below_on HB5.out hbw)
          clear hbw x0 x1 y0 y1 z0 z1 HBX5 HB5
          obtain ⟨x0, x1⟩ := two_cells HBX6.out.1
          obtain ⟨y0, y1⟩ := two_cells HBX6.out.2.1
          obtain ⟨z0, z1⟩ := two_cells HBX6.out.2.2.1
          go_wp2_with fail
          refine (CXY.out _).mono ?_
          rintro e w9 ⟨rfl, q, os, rfl⟩
          have hbw := below_grow (Below.refl W6.heap.size W6) q os
          generalize Sort.grow (W6.drewN q) os = W7 at *
          have HBX7 := hide (HBX6.out.on hbw)
          have HB7 := hide (below_on HB6.out hbw)
          clear hbw x0 x1 y0 y1 z0 z1 HBX6 HB6
          obtain ⟨x0, x1⟩ := two_cells HBX7.out.1
          obtain ⟨y0, y1⟩ := two_cells HBX7.out.2.1
          obtain ⟨z0, z1⟩ := two_cells HBX7.out.2.2.1
          go_wp2_with fail
          refine (CXY.out _).mono ?_
          rintro e w9 ⟨rfl, q, os, rfl⟩
          have hbw := below_grow (Below.refl W7.heap.size W7) q os
          generalize Sort.grow (W7.drewN q) os = W8 at *
          have HBX8 := hide (HBX7.out.on hbw)
          have HB8 := hide (below_on HB7.out hbw)
          clear hbw x0 x1 y0 y1 z0 z1 HBX7 HB7
          obtain ⟨x0, x1⟩ := two_cells HBX8.out.1
          obtain ⟨y0, y1⟩ := two_cells HBX8.out.2.1
          obtain ⟨z0, z1⟩ := two_cells HBX8.out.2.2.1
          go_wp2_with fail
          refine (CYZ.out _).mono ?_
          rintro e w9 ⟨rfl, q, os, rfl⟩
          have hbw := below_grow (Below.refl W8.heap.size W8) q os
          generalize Sort.grow (W8.drewN q) os = W9 at *
          have HBX9 := hide (HBX8.out.on hbw)
          have HB9 := hide (below_on HB8.out hbw)
          clear hbw x0 x1 y0 y1 z0 z1 HBX8 HB8
          obtain ⟨a0, a1⟩ := two_cells HBX9.out.2.2.2.1
          obtain ⟨b0, b1⟩ := two_cells HBX9.out.2.2.2.2
          by_cases hf : x.fee ≤ y.fee
          · by_cases hs : y.size ≤ x.size
            · have hyx := HLM.out hf hs
              rw [hyx] at CYX
              obtain ⟨x0, x1⟩ := two_cells HBX9.out.1
              obtain ⟨y0, y1⟩ := two_cells HBX9.out.2.1
              obtain ⟨z0, z1⟩ := two_cells HBX9.out.2.2.1
              go_wp2_with fail
              refine (CYX.out _).mono ?_
              rintro e w9 ⟨rfl, q, os, rfl⟩
              have hbw := below_grow (Below.refl W9.heap.size W9) q os
              generalize Sort.grow (W9.drewN q) os = W10 at *
              have HBX10 := hide (HBX9.out.on hbw)
              have HB10 := hide (below_on HB9.out hbw)
              clear hbw x0 x1 y0 y1 z0 z1 HBX9 HB9
              clear a0 a1 b0 b1
              go_wp2
              go_ret
              exact ⟨rfl, HB10.out⟩
            · have hs1 : decide (y.size ≤ x.size) = false := decide_eq_false hs
              have hs2 : x.size < y.size := by omega
              go_wp2
              go_ret
              exact ⟨rfl, HB9.out⟩
          · have hf1 : decide (x.fee ≤ y.fee) = false := decide_eq_false hf
            have hf2 : y.fee < x.fee := by omega
            go_wp2
            go_ret
            exact ⟨rfl, HB9.out⟩
        | false =>
          rw [h23] at CYZ
          rw [lessW_ntrans h12 h23] at CXZ
          clear h12 h23
          obtain ⟨x0, x1⟩ := two_cells HBX4.out.1
          obtain ⟨y0, y1⟩ := two_cells HBX4.out.2.1
          obtain ⟨z0, z1⟩ := two_cells HBX4.out.2.2.1
          go_wp2_with fail
          refine (CXX.out _).mono ?_
          rintro e w9 ⟨rfl, q, os, rfl⟩
          have hbw := below_grow (Below.refl W4.heap.size W4) q os
          generalize Sort.grow (W4.drewN q) os = W5 at *
          have HBX5 := hide (HBX4.out.on hbw)
          have HB5 := hide (below_on HB4.out hbw)
          clear hbw x0 x1 y0 y1 z0 z1 HBX4 HB4
          obtain ⟨x0, x1⟩ := two_cells HBX5.out.1
          obtain ⟨y0, y1⟩ := two_cells HBX5.out.2.1
          obtain ⟨z0, z1⟩ := two_cells HBX5.out.2.2.1
          go_wp2_with fail
          refine (CXY.out _).mono ?_
          rintro e w9 ⟨rfl, q, os, rfl⟩
          have hbw := below_grow (Below.refl W5.heap.size W5) q os
          generalize Sort.grow (W5.drewN q) os = W6 at *
          have HBX6 := hide (HBX5.out.on hbw)
          have HB6 := hide (below_on HB5.out hbw)
          clear hbw x0 x1 y0 y1 z0 z1 HBX5 HB5
          obtain ⟨x0, x1⟩ := two_cells HBX6.out.1
          obtain ⟨y0, y1⟩ := two_cells HBX6.out.2.1
          obtain ⟨z0, z1⟩ := two_cells HBX6.out.2.2.1
          go_wp2_with fail
          refine (CXY.out _).mono ?_
          rintro e w9 ⟨rfl, q, os, rfl⟩
          have hbw := below_grow (Below.refl W6.heap.size W6) q os
          generalize Sort.grow (W6.drewN q) os = W7 at *
          have HBX7 := hide (HBX6.out.on hbw)
          have HB7 := hide (below_on HB6.out hbw)
          clear hbw x0 x1 y0 y1 z0 z1 HBX6 HB6
          obtain ⟨x0, x1⟩ := two_cells HBX7.out.1
          obtain ⟨y0, y1⟩ := two_cells HBX7.out.2.1
          obtain ⟨z0, z1⟩ := two_cells HBX7.out.2.2.1
          go_wp2_with fail
          refine (CXY.out _).mono ?_
          rintro e w9 ⟨rfl, q, os, rfl⟩
          have hbw := below_grow (Below.refl W7.heap.size W7) q os
          generalize Sort.grow (W7.drewN q) os = W8 at *
          have HBX8 := hide (HBX7.out.on hbw)
          have HB8 := hide (below_on HB7.out hbw)
          clear hbw x0 x1 y0 y1 z0 z1 HBX7 HB7
          obtain ⟨x0, x1⟩ := two_cells HBX8.out.1
          obtain ⟨y0, y1⟩ := two_cells HBX8.out.2.1
          obtain ⟨z0, z1⟩ := two_cells HBX8.out.2.2.1
          go_wp2_with fail
          refine (CYZ.out _).mono ?_
          rintro e w9 ⟨rfl, q, os, rfl⟩
          have hbw := below_grow (Below.refl W8.heap.size W8) q os
          generalize Sort.grow (W8.drewN q) os = W9 at *
          have HBX9 := hide (HBX8.out.on hbw)
          have HB9 := hide (below_on HB8.out hbw)
          clear hbw x0 x1 y0 y1 z0 z1 HBX8 HB8
          obtain ⟨x0, x1⟩ := two_cells HBX9.out.1
          obtain ⟨y0, y1⟩ := two_cells HBX9.out.2.1
          obtain ⟨z0, z1⟩ := two_cells HBX9.out.2.2.1
          go_wp2_with fail
          refine (CXZ.out _).mono ?_
          rintro e w9 ⟨rfl, q, os, rfl⟩
          have hbw := below_grow (Below.refl W9.heap.size W9) q os
          generalize Sort.grow (W9.drewN q) os = W10 at *
          have HBX10 := hide (HBX9.out.on hbw)
          have HB10 := hide (below_on HB9.out hbw)
          clear hbw x0 x1 y0 y1 z0 z1 HBX9 HB9
          obtain ⟨a0, a1⟩ := two_cells HBX10.out.2.2.2.1
          obtain ⟨b0, b1⟩ := two_cells HBX10.out.2.2.2.2
          by_cases hf : x.fee ≤ y.fee
          · by_cases hs : y.size ≤ x.size
            · have hyx := HLM.out hf hs
              rw [hyx] at CYX
              obtain ⟨x0, x1⟩ := two_cells HBX10.out.1
              obtain ⟨y0, y1⟩ := two_cells HBX10.out.2.1
              obtain ⟨z0, z1⟩ := two_cells HBX10.out.2.2.1
              go_wp2_with fail
              refine (CYX.out _).mono ?_
              rintro e w9 ⟨rfl, q, os, rfl⟩
              have hbw := below_grow (Below.refl W10.heap.size W10) q os
              generalize Sort.grow (W10.drewN q) os = W11 at *
              have HBX11 := hide (HBX10.out.on hbw)
              have HB11 := hide (below_on HB10.out hbw)
              clear hbw x0 x1 y0 y1 z0 z1 HBX10 HB10
              clear a0 a1 b0 b1
              go_wp2
              go_ret
              exact ⟨rfl, HB11.out⟩
            · have hs1 : decide (y.size ≤ x.size) = false := decide_eq_false hs
              have hs2 : x.size < y.size := by omega
              go_wp2
              go_ret
              exact ⟨rfl, HB10.out⟩
          · have hf1 : decide (x.fee ≤ y.fee) = false := decide_eq_false hf
            have hf2 : y.fee < x.fee := by omega
            go_wp2
            go_ret
            exact ⟨rfl, HB10.out⟩
    · go_simp
      refine hK.out _ _ ?_ (fun hHeld => ?_)
      · exact hHeld.alloc hHeld.size _
      clear hK K
      try simp only [Act.put, List.setIfInBounds_toArray, List.set_cons_zero, List.set_cons_succ]
      refine wpAnyH_ready (rs := [10]) (by kernel_rfl) (by simp) (AllReadyH.cons (o := { dst := some 9, op := Op.alloc 29, type := 0, pos := "law.go:219", after := #[], guard := none }) rfl (fun K hK => ?_) AllReadyH.nil)
      go_simp
      refine hK.out _ _ ?_ (fun hHeld => ?_)
      · exact hHeld.alloc hHeld.size _
      clear hK K
      try simp only [Act.put, List.setIfInBounds_toArray, List.set_cons_zero, List.set_cons_succ]
      refine wpAnyH_ready (rs := [12]) (by kernel_rfl) (by simp) (AllReadyH.cons (o := { dst := none, op := Op.store 29 (Operand.tmp 8) (Operand.tmp 20), type := 0, pos := "law.go:219", after := #[{ on := 9, ground := Ground.data }, { on := 2, ground := Ground.data }, { on := 0, ground := Ground.phase }, { on := 1, ground := Ground.phase }, { on := 2, ground := Ground.phase }, { on := 3, ground := Ground.textOnly Departure.lateStores }, { on := 4, ground := Ground.textOnly Departure.lateStores }, { on := 5, ground := Ground.textOnly Departure.lateStores }, { on := 6, ground := Ground.textOnly Departure.lateStores }, { on := 7, ground := Ground.textOnly Departure.lateStores }, { on := 8, ground := Ground.textOnly Departure.lateStores }, { on := 9, ground := Ground.phase }, { on := 10, ground := Ground.phase }, { on := 11, ground := Ground.phase }], guard := none }) rfl (fun K hK => ?_) AllReadyH.nil)
      obtain ⟨t0, t1, t2⟩ := three_there W 29
      generalize (((W.alloc (.cells #[.int .u64 0, .int .i64 0] 29)).alloc (.cells #[.int .u64 0, .int .i64 0] 29)).alloc (.cells #[.int .u64 0, .int .i64 0] 29)).drew = V at *
      refine step_store_row rfl 29 (.tmp 8) (.tmp 20) rfl (W.heap.size) 0 (wtC x) rfl rfl t0 info_wt (wtC_one x) ?_
      refine hK.out _ _ ?_ (fun hHeld => ?_)
      · exact below_sets (by omega) _ _ _ hHeld
      clear hK K
      try simp only [Act.put]
      refine wpAnyH_ready (rs := [13]) (by kernel_rfl) (by simp) (AllReadyH.cons (o := { dst := none, op := Op.store 29 (Operand.tmp 9) (Operand.tmp 23), type := 0, pos := "law.go:219", after := #[{ on := 10, ground := Ground.data }, { on := 5, ground := Ground.data }, { on := 12, ground := Ground.chain }, { on := 0, ground := Ground.phase }, { on := 1, ground := Ground.phase }, { on := 2, ground := Ground.phase }, { on := 3, ground := Ground.phase }, { on := 4, ground := Ground.phase }, { on := 5, ground := Ground.phase }, { on := 6, ground := Ground.textOnly Departure.lateStores }, { on := 7, ground := Ground.textOnly Departure.lateStores }, { on := 8, ground := Ground.textOnly Departure.lateStores }, { on := 9, ground := Ground.phase }, { on := 10, ground := Ground.phase }, { on := 11, ground := Ground.phase }, { on := 12, ground := Ground.phase }], guard := none }) rfl (fun K hK => ?_) AllReadyH.nil)
      refine step_store_row rfl 29 (.tmp 9) (.tmp 23) rfl (W.heap.size + 1 + 1) 0 (wtC y) rfl rfl (there_apart t2 (by omega) _ _) info_wt (wtC_one y) ?_
      refine hK.out _ _ ?_ (fun hHeld => ?_)
      · exact below_sets (by omega) _ _ _ hHeld
      clear hK K
      try simp only [Act.put]
      refine wpAnyH_ready (rs := [14]) (by kernel_rfl) (by simp) (AllReadyH.cons (o := { dst := none, op := Op.store 29 (Operand.tmp 10) (Operand.tmp 26), type := 0, pos := "law.go:219", after := #[{ on := 11, ground := Ground.data }, { on := 8, ground := Ground.data }, { on := 13, ground := Ground.chain }, { on := 0, ground := Ground.phase }, { on := 1, ground := Ground.phase }, { on := 2, ground := Ground.phase }, { on := 3, ground := Ground.phase }, { on := 4, ground := Ground.phase }, { on := 5, ground := Ground.phase }, { on := 6, ground := Ground.phase }, { on := 7, ground := Ground.phase }, { on := 8, ground := Ground.phase }, { on := 9, ground := Ground.phase }, { on := 10, ground := Ground.phase }, { on := 11, ground := Ground.phase }, { on := 12, ground := Ground.phase }, { on := 13, ground := Ground.phase }], guard := none }) rfl (fun K hK => ?_) AllReadyH.nil)
      refine step_store_row rfl 29 (.tmp 10) (.tmp 26) rfl (W.heap.size + 1) 0 (wtC z) rfl rfl (there_apart (there_apart t1 (by omega) _ _) (by omega) _ _) info_wt (wtC_one z) ?_
      refine hK.out _ _ ?_ (fun hHeld => ?_)
      · exact below_sets (by omega) _ _ _ hHeld
      clear hK K
      try simp only [Act.put]
      refine wpAnyH_done (by kernel_rfl) ?_ _
      have HBX := hide (show Boxes (((V.setCells (W.heap.size) 0 (wtC x)).setCells (W.heap.size + 1 + 1) 0 (wtC y)).setCells (W.heap.size + 1) 0 (wtC z)) (W.heap.size) (W.heap.size + 1 + 1) (W.heap.size + 1) ga (ga + 1) x y z from ⟨range_apart (range_apart (World.rangeAt_setCells_same V (W.heap.size) 0 (wtC x) t0) (by omega) 0 (wtC y)) (by omega) 0 (wtC z), range_apart (World.rangeAt_setCells_same (V.setCells (W.heap.size) 0 (wtC x)) (W.heap.size + 1 + 1) 0 (wtC y) (there_apart t2 (by omega) _ _)) (by omega) 0 (wtC z), World.rangeAt_setCells_same ((V.setCells (W.heap.size) 0 (wtC x)).setCells (W.heap.size + 1 + 1) 0 (wtC y)) (W.heap.size + 1) 0 (wtC z) (there_apart (there_apart t1 (by omega) _ _) (by omega) _ _), range_on HXA3.out.1 hHeld, range_on HXA3.out.2 hHeld⟩)
      have HB4 := hide (below_on HB3.out hHeld)
      clear hHeld t0 t1 t2 HM HXA3 HB3
      generalize (((V.setCells (W.heap.size) 0 (wtC x)).setCells (W.heap.size + 1 + 1) 0 (wtC y)).setCells (W.heap.size + 1) 0 (wtC z)) = W4 at *
      generalize W.heap.size + 1 + 1 = g2 at *
      generalize W.heap.size + 1 = g1 at *
      generalize W.heap.size = g0 at *
      have HBX4 := HBX
      clear HBX
      cases h12 : lessW x y with
      | true =>
        rw [h12] at CXY
        have h21 := lessW_one h12
        cases h23 : lessW y z with
        | true =>
          rw [h23] at CYZ
          rw [lessW_trans h12 h23] at CXZ
          have CYX0 := CYX
          rw [h21] at CYX0
          clear h12 h21 h23
          obtain ⟨x0, x1⟩ := two_cells HBX4.out.1
          obtain ⟨y0, y1⟩ := two_cells HBX4.out.2.1
          obtain ⟨z0, z1⟩ := two_cells HBX4.out.2.2.1
          go_wp2_with fail
          refine (CXX.out _).mono ?_
          rintro e w9 ⟨rfl, q, os, rfl⟩
          have hbw := below_grow (Below.refl W4.heap.size W4) q os
          generalize Sort.grow (W4.drewN q) os = W5 at *
          have HBX5 := hide (HBX4.out.on hbw)
          have HB5 := hide (below_on HB4.out hbw)
          clear hbw x0 x1 y0 y1 z0 z1 HBX4 HB4
          obtain ⟨x0, x1⟩ := two_cells HBX5.out.1
          obtain ⟨y0, y1⟩ := two_cells HBX5.out.2.1
          obtain ⟨z0, z1⟩ := two_cells HBX5.out.2.2.1
          go_wp2_with fail
          refine (CXY.out _).mono ?_
          rintro e w9 ⟨rfl, q, os, rfl⟩
          have hbw := below_grow (Below.refl W5.heap.size W5) q os
          generalize Sort.grow (W5.drewN q) os = W6 at *
          have HBX6 := hide (HBX5.out.on hbw)
          have HB6 := hide (below_on HB5.out hbw)
          clear hbw x0 x1 y0 y1 z0 z1 HBX5 HB5
          obtain ⟨x0, x1⟩ := two_cells HBX6.out.1
          obtain ⟨y0, y1⟩ := two_cells HBX6.out.2.1
          obtain ⟨z0, z1⟩ := two_cells HBX6.out.2.2.1
          go_wp2_with fail
          refine (CYX0.out _).mono ?_
          rintro e w9 ⟨rfl, q, os, rfl⟩
          have hbw := below_grow (Below.refl W6.heap.size W6) q os
          generalize Sort.grow (W6.drewN q) os = W7 at *
          have HBX7 := hide (HBX6.out.on hbw)
          have HB7 := hide (below_on HB6.out hbw)
          clear hbw x0 x1 y0 y1 z0 z1 HBX6 HB6
          obtain ⟨x0, x1⟩ := two_cells HBX7.out.1
          obtain ⟨y0, y1⟩ := two_cells HBX7.out.2.1
          obtain ⟨z0, z1⟩ := two_cells HBX7.out.2.2.1
          go_wp2_with fail
          refine (CXY.out _).mono ?_
          rintro e w9 ⟨rfl, q, os, rfl⟩
          have hbw := below_grow (Below.refl W7.heap.size W7) q os
          generalize Sort.grow (W7.drewN q) os = W8 at *
          have HBX8 := hide (HBX7.out.on hbw)
          have HB8 := hide (below_on HB7.out hbw)
          clear hbw x0 x1 y0 y1 z0 z1 HBX7 HB7
          obtain ⟨x0, x1⟩ := two_cells HBX8.out.1
          obtain ⟨y0, y1⟩ := two_cells HBX8.out.2.1
          obtain ⟨z0, z1⟩ := two_cells HBX8.out.2.2.1
          go_wp2_with fail
          refine (CYZ.out _).mono ?_
          rintro e w9 ⟨rfl, q, os, rfl⟩
          have hbw := below_grow (Below.refl W8.heap.size W8) q os
          generalize Sort.grow (W8.drewN q) os = W9 at *
          have HBX9 := hide (HBX8.out.on hbw)
          have HB9 := hide (below_on HB8.out hbw)
          clear hbw x0 x1 y0 y1 z0 z1 HBX8 HB8
          obtain ⟨x0, x1⟩ := two_cells HBX9.out.1
          obtain ⟨y0, y1⟩ := two_cells HBX9.out.2.1
          obtain ⟨z0, z1⟩ := two_cells HBX9.out.2.2.1
          go_wp2_with fail
          refine (CXZ.out _).mono ?_
          rintro e w9 ⟨rfl, q, os, rfl⟩
          have hbw := below_grow (Below.refl W9.heap.size W9) q os
          generalize Sort.grow (W9.drewN q) os = W10 at *
          have HBX10 := hide (HBX9.out.on hbw)
          have HB10 := hide (below_on HB9.out hbw)
          clear hbw x0 x1 y0 y1 z0 z1 HBX9 HB9
          obtain ⟨x0, x1⟩ := two_cells HBX10.out.1
          obtain ⟨y0, y1⟩ := two_cells HBX10.out.2.1
          obtain ⟨z0, z1⟩ := two_cells HBX10.out.2.2.1
          go_wp2_with fail
          refine (CXY.out _).mono ?_
          rintro e w9 ⟨rfl, q, os, rfl⟩
          have hbw := below_grow (Below.refl W10.heap.size W10) q os
          generalize Sort.grow (W10.drewN q) os = W11 at *
          have HBX11 := hide (HBX10.out.on hbw)
          have HB11 := hide (below_on HB10.out hbw)
          clear hbw x0 x1 y0 y1 z0 z1 HBX10 HB10
          obtain ⟨a0, a1⟩ := two_cells HBX11.out.2.2.2.1
          obtain ⟨b0, b1⟩ := two_cells HBX11.out.2.2.2.2
          by_cases hf : x.fee ≤ y.fee
          · by_cases hs : y.size ≤ x.size
            · have hyx := HLM.out hf hs
              rw [hyx] at CYX
              obtain ⟨x0, x1⟩ := two_cells HBX11.out.1
              obtain ⟨y0, y1⟩ := two_cells HBX11.out.2.1
              obtain ⟨z0, z1⟩ := two_cells HBX11.out.2.2.1
              go_wp2_with fail
              refine (CYX.out _).mono ?_
              rintro e w9 ⟨rfl, q, os, rfl⟩
              have hbw := below_grow (Below.refl W11.heap.size W11) q os
              generalize Sort.grow (W11.drewN q) os = W12 at *
              have HBX12 := hide (HBX11.out.on hbw)
              have HB12 := hide (below_on HB11.out hbw)
              clear hbw x0 x1 y0 y1 z0 z1 HBX11 HB11
              clear a0 a1 b0 b1
              go_wp2
              go_ret
              exact ⟨rfl, HB12.out⟩
            · have hs1 : decide (y.size ≤ x.size) = false := decide_eq_false hs
              have hs2 : x.size < y.size := by omega
              go_wp2
              go_ret
              exact ⟨rfl, HB11.out⟩
          · have hf1 : decide (x.fee ≤ y.fee) = false := decide_eq_false hf
            have hf2 : y.fee < x.fee := by omega
            go_wp2
            go_ret
            exact ⟨rfl, HB11.out⟩
        | false =>
          rw [h23] at CYZ
          have CYX0 := CYX
          rw [h21] at CYX0
          clear h12 h21 h23
          obtain ⟨x0, x1⟩ := two_cells HBX4.out.1
          obtain ⟨y0, y1⟩ := two_cells HBX4.out.2.1
          obtain ⟨z0, z1⟩ := two_cells HBX4.out.2.2.1
          go_wp2_with fail
          refine (CXX.out _).mono ?_
          rintro e w9 ⟨rfl, q, os, rfl⟩
          have hbw := below_grow (Below.refl W4.heap.size W4) q os
          generalize Sort.grow (W4.drewN q) os = W5 at *
          have HBX5 := hide (HBX4.out.on hbw)
          have HB5 := hide (below_on HB4.out hbw)
          clear hbw x0 x1 y0 y1 z0 z1 HBX4 HB4
          obtain ⟨x0, x1⟩ := two_cells HBX5.out.1
          obtain ⟨y0, y1⟩ := two_cells HBX5.out.2.1
          obtain ⟨z0, z1⟩ := two_cells HBX5.out.2.2.1
          go_wp2_with fail
          refine (CXY.out _).mono ?_
          rintro e w9 ⟨rfl, q, os, rfl⟩
          have hbw := below_grow (Below.refl W5.heap.size W5) q os
          generalize Sort.grow (W5.drewN q) os = W6 at *
          have HBX6 := hide (HBX5.out.on hbw)
          have HB6 := hide (below_on HB5.out hbw)
          clear hbw x0 x1 y0 y1 z0 z1 HBX5 HB5
          obtain ⟨x0, x1⟩ := two_cells HBX6.out.1
          obtain ⟨y0, y1⟩ := two_cells HBX6.out.2.1
          obtain ⟨z0, z1⟩ := two_cells HBX6.out.2.2.1
          go_wp2_with fail
          refine (CYX0.out _).mono ?_
          rintro e w9 ⟨rfl, q, os, rfl⟩
          have hbw := below_grow (Below.refl W6.heap.size W6) q os
          generalize Sort.grow (W6.drewN q) os = W7 at *
          have HBX7 := hide (HBX6.out.on hbw)
          have HB7 := hide (below_on HB6.out hbw)
          clear hbw x0 x1 y0 y1 z0 z1 HBX6 HB6
          obtain ⟨x0, x1⟩ := two_cells HBX7.out.1
          obtain ⟨y0, y1⟩ := two_cells HBX7.out.2.1
          obtain ⟨z0, z1⟩ := two_cells HBX7.out.2.2.1
          go_wp2_with fail
          refine (CXY.out _).mono ?_
          rintro e w9 ⟨rfl, q, os, rfl⟩
          have hbw := below_grow (Below.refl W7.heap.size W7) q os
          generalize Sort.grow (W7.drewN q) os = W8 at *
          have HBX8 := hide (HBX7.out.on hbw)
          have HB8 := hide (below_on HB7.out hbw)
          clear hbw x0 x1 y0 y1 z0 z1 HBX7 HB7
          obtain ⟨x0, x1⟩ := two_cells HBX8.out.1
          obtain ⟨y0, y1⟩ := two_cells HBX8.out.2.1
          obtain ⟨z0, z1⟩ := two_cells HBX8.out.2.2.1
          go_wp2_with fail
          refine (CYZ.out _).mono ?_
          rintro e w9 ⟨rfl, q, os, rfl⟩
          have hbw := below_grow (Below.refl W8.heap.size W8) q os
          generalize Sort.grow (W8.drewN q) os = W9 at *
          have HBX9 := hide (HBX8.out.on hbw)
          have HB9 := hide (below_on HB8.out hbw)
          clear hbw x0 x1 y0 y1 z0 z1 HBX8 HB8
          obtain ⟨x0, x1⟩ := two_cells HBX9.out.1
          obtain ⟨y0, y1⟩ := two_cells HBX9.out.2.1
          obtain ⟨z0, z1⟩ := two_cells HBX9.out.2.2.1
          go_wp2_with fail
          refine (CXY.out _).mono ?_
          rintro e w9 ⟨rfl, q, os, rfl⟩
          have hbw := below_grow (Below.refl W9.heap.size W9) q os
          generalize Sort.grow (W9.drewN q) os = W10 at *
          have HBX10 := hide (HBX9.out.on hbw)
          have HB10 := hide (below_on HB9.out hbw)
          clear hbw x0 x1 y0 y1 z0 z1 HBX9 HB9
          obtain ⟨a0, a1⟩ := two_cells HBX10.out.2.2.2.1
          obtain ⟨b0, b1⟩ := two_cells HBX10.out.2.2.2.2
          by_cases hf : x.fee ≤ y.fee
          · by_cases hs : y.size ≤ x.size
            · have hyx := HLM.out hf hs
              rw [hyx] at CYX
              obtain ⟨x0, x1⟩ := two_cells HBX10.out.1
              obtain ⟨y0, y1⟩ := two_cells HBX10.out.2.1
              obtain ⟨z0, z1⟩ := two_cells HBX10.out.2.2.1
              go_wp2_with fail
              refine (CYX.out _).mono ?_
              rintro e w9 ⟨rfl, q, os, rfl⟩
              have hbw := below_grow (Below.refl W10.heap.size W10) q os
              generalize Sort.grow (W10.drewN q) os = W11 at *
              have HBX11 := hide (HBX10.out.on hbw)
              have HB11 := hide (below_on HB10.out hbw)
              clear hbw x0 x1 y0 y1 z0 z1 HBX10 HB10
              clear a0 a1 b0 b1
              go_wp2
              go_ret
              exact ⟨rfl, HB11.out⟩
            · have hs1 : decide (y.size ≤ x.size) = false := decide_eq_false hs
              have hs2 : x.size < y.size := by omega
              go_wp2
              go_ret
              exact ⟨rfl, HB10.out⟩
          · have hf1 : decide (x.fee ≤ y.fee) = false := decide_eq_false hf
            have hf2 : y.fee < x.fee := by omega
            go_wp2
            go_ret
            exact ⟨rfl, HB10.out⟩
      | false =>
        rw [h12] at CXY
        cases h23 : lessW y z with
        | true =>
          rw [h23] at CYZ
          clear h12 h23
          obtain ⟨x0, x1⟩ := two_cells HBX4.out.1
          obtain ⟨y0, y1⟩ := two_cells HBX4.out.2.1
          obtain ⟨z0, z1⟩ := two_cells HBX4.out.2.2.1
          go_wp2_with fail
          refine (CXX.out _).mono ?_
          rintro e w9 ⟨rfl, q, os, rfl⟩
          have hbw := below_grow (Below.refl W4.heap.size W4) q os
          generalize Sort.grow (W4.drewN q) os = W5 at *
          have HBX5 := hide (HBX4.out.on hbw)
          have HB5 := hide (below_on HB4.out hbw)
          clear hbw x0 x1 y0 y1 z0 z1 HBX4 HB4
          obtain ⟨x0, x1⟩ := two_cells HBX5.out.1
          obtain ⟨y0, y1⟩ := two_cells HBX5.out.2.1
          obtain ⟨z0, z1⟩ := two_cells HBX5.out.2.2.1
          go_wp2_with fail
          refine (CXY.out _).mono ?_
          rintro e w9 ⟨rfl, q, os, rfl⟩
          have hbw := below_grow (Below.refl W5.heap.size W5) q os
          generalize Sort.grow (W5.drewN q) os = W6 at *
          have HBX6 := hide (HBX5.out.on hbw)
          have HB6 := hide (below_on HB5.out hbw)
          clear hbw x0 x1 y0 y1 z0 z1 HBX5 HB5
          obtain ⟨x0, x1⟩ := two_cells HBX6.out.1
          obtain ⟨y0, y1⟩ := two_cells HBX6.out.2.1
          obtain ⟨z0, z1⟩ := two_cells HBX6.out.2.2.1
          go_wp2_with fail
          refine (CXY.out _).mono ?_
          rintro e w9 ⟨rfl, q, os, rfl⟩
          have hbw := below_grow (Below.refl W6.heap.size W6) q os
          generalize Sort.grow (W6.drewN q) os = W7 at *
          have HBX7 := hide (HBX6.out.on hbw)
          have HB7 := hide (below_on HB6.out hbw)
          clear hbw x0 x1 y0 y1 z0 z1 HBX6 HB6
          obtain ⟨x0, x1⟩ := two_cells HBX7.out.1
          obtain ⟨y0, y1⟩ := two_cells HBX7.out.2.1
          obtain ⟨z0, z1⟩ := two_cells HBX7.out.2.2.1
          go_wp2_with fail
          refine (CXY.out _).mono ?_
          rintro e w9 ⟨rfl, q, os, rfl⟩
          have hbw := below_grow (Below.refl W7.heap.size W7) q os
          generalize Sort.grow (W7.drewN q) os = W8 at *
          have HBX8 := hide (HBX7.out.on hbw)
          have HB8 := hide (below_on HB7.out hbw)
          clear hbw x0 x1 y0 y1 z0 z1 HBX7 HB7
          obtain ⟨x0, x1⟩ := two_cells HBX8.out.1
          obtain ⟨y0, y1⟩ := two_cells HBX8.out.2.1
          obtain ⟨z0, z1⟩ := two_cells HBX8.out.2.2.1
          go_wp2_with fail
          refine (CYZ.out _).mono ?_
          rintro e w9 ⟨rfl, q, os, rfl⟩
          have hbw := below_grow (Below.refl W8.heap.size W8) q os
          generalize Sort.grow (W8.drewN q) os = W9 at *
          have HBX9 := hide (HBX8.out.on hbw)
          have HB9 := hide (below_on HB8.out hbw)
          clear hbw x0 x1 y0 y1 z0 z1 HBX8 HB8
          obtain ⟨a0, a1⟩ := two_cells HBX9.out.2.2.2.1
          obtain ⟨b0, b1⟩ := two_cells HBX9.out.2.2.2.2
          by_cases hf : x.fee ≤ y.fee
          · by_cases hs : y.size ≤ x.size
            · have hyx := HLM.out hf hs
              rw [hyx] at CYX
              obtain ⟨x0, x1⟩ := two_cells HBX9.out.1
              obtain ⟨y0, y1⟩ := two_cells HBX9.out.2.1
              obtain ⟨z0, z1⟩ := two_cells HBX9.out.2.2.1
              go_wp2_with fail
              refine (CYX.out _).mono ?_
              rintro e w9 ⟨rfl, q, os, rfl⟩
              have hbw := below_grow (Below.refl W9.heap.size W9) q os
              generalize Sort.grow (W9.drewN q) os = W10 at *
              have HBX10 := hide (HBX9.out.on hbw)
              have HB10 := hide (below_on HB9.out hbw)
              clear hbw x0 x1 y0 y1 z0 z1 HBX9 HB9
              clear a0 a1 b0 b1
              go_wp2
              go_ret
              exact ⟨rfl, HB10.out⟩
            · have hs1 : decide (y.size ≤ x.size) = false := decide_eq_false hs
              have hs2 : x.size < y.size := by omega
              go_wp2
              go_ret
              exact ⟨rfl, HB9.out⟩
          · have hf1 : decide (x.fee ≤ y.fee) = false := decide_eq_false hf
            have hf2 : y.fee < x.fee := by omega
            go_wp2
            go_ret
            exact ⟨rfl, HB9.out⟩
        | false =>
          rw [h23] at CYZ
          rw [lessW_ntrans h12 h23] at CXZ
          clear h12 h23
          obtain ⟨x0, x1⟩ := two_cells HBX4.out.1
          obtain ⟨y0, y1⟩ := two_cells HBX4.out.2.1
          obtain ⟨z0, z1⟩ := two_cells HBX4.out.2.2.1
          go_wp2_with fail
          refine (CXX.out _).mono ?_
          rintro e w9 ⟨rfl, q, os, rfl⟩
          have hbw := below_grow (Below.refl W4.heap.size W4) q os
          generalize Sort.grow (W4.drewN q) os = W5 at *
          have HBX5 := hide (HBX4.out.on hbw)
          have HB5 := hide (below_on HB4.out hbw)
          clear hbw x0 x1 y0 y1 z0 z1 HBX4 HB4
          obtain ⟨x0, x1⟩ := two_cells HBX5.out.1
          obtain ⟨y0, y1⟩ := two_cells HBX5.out.2.1
          obtain ⟨z0, z1⟩ := two_cells HBX5.out.2.2.1
          go_wp2_with fail
          refine (CXY.out _).mono ?_
          rintro e w9 ⟨rfl, q, os, rfl⟩
          have hbw := below_grow (Below.refl W5.heap.size W5) q os
          generalize Sort.grow (W5.drewN q) os = W6 at *
          have HBX6 := hide (HBX5.out.on hbw)
          have HB6 := hide (below_on HB5.out hbw)
          clear hbw x0 x1 y0 y1 z0 z1 HBX5 HB5
          obtain ⟨x0, x1⟩ := two_cells HBX6.out.1
          obtain ⟨y0, y1⟩ := two_cells HBX6.out.2.1
          obtain ⟨z0, z1⟩ := two_cells HBX6.out.2.2.1
          go_wp2_with fail
          refine (CXY.out _).mono ?_
          rintro e w9 ⟨rfl, q, os, rfl⟩
          have hbw := below_grow (Below.refl W6.heap.size W6) q os
          generalize Sort.grow (W6.drewN q) os = W7 at *
          have HBX7 := hide (HBX6.out.on hbw)
          have HB7 := hide (below_on HB6.out hbw)
          clear hbw x0 x1 y0 y1 z0 z1 HBX6 HB6
          obtain ⟨x0, x1⟩ := two_cells HBX7.out.1
          obtain ⟨y0, y1⟩ := two_cells HBX7.out.2.1
          obtain ⟨z0, z1⟩ := two_cells HBX7.out.2.2.1
          go_wp2_with fail
          refine (CXY.out _).mono ?_
          rintro e w9 ⟨rfl, q, os, rfl⟩
          have hbw := below_grow (Below.refl W7.heap.size W7) q os
          generalize Sort.grow (W7.drewN q) os = W8 at *
          have HBX8 := hide (HBX7.out.on hbw)
          have HB8 := hide (below_on HB7.out hbw)
          clear hbw x0 x1 y0 y1 z0 z1 HBX7 HB7
          obtain ⟨x0, x1⟩ := two_cells HBX8.out.1
          obtain ⟨y0, y1⟩ := two_cells HBX8.out.2.1
          obtain ⟨z0, z1⟩ := two_cells HBX8.out.2.2.1
          go_wp2_with fail
          refine (CYZ.out _).mono ?_
          rintro e w9 ⟨rfl, q, os, rfl⟩
          have hbw := below_grow (Below.refl W8.heap.size W8) q os
          generalize Sort.grow (W8.drewN q) os = W9 at *
          have HBX9 := hide (HBX8.out.on hbw)
          have HB9 := hide (below_on HB8.out hbw)
          clear hbw x0 x1 y0 y1 z0 z1 HBX8 HB8
          obtain ⟨x0, x1⟩ := two_cells HBX9.out.1
          obtain ⟨y0, y1⟩ := two_cells HBX9.out.2.1
          obtain ⟨z0, z1⟩ := two_cells HBX9.out.2.2.1
          go_wp2_with fail
          refine (CXZ.out _).mono ?_
          rintro e w9 ⟨rfl, q, os, rfl⟩
          have hbw := below_grow (Below.refl W9.heap.size W9) q os
          generalize Sort.grow (W9.drewN q) os = W10 at *
          have HBX10 := hide (HBX9.out.on hbw)
          have HB10 := hide (below_on HB9.out hbw)
          clear hbw x0 x1 y0 y1 z0 z1 HBX9 HB9
          obtain ⟨a0, a1⟩ := two_cells HBX10.out.2.2.2.1
          obtain ⟨b0, b1⟩ := two_cells HBX10.out.2.2.2.2
          by_cases hf : x.fee ≤ y.fee
          · by_cases hs : y.size ≤ x.size
            · have hyx := HLM.out hf hs
              rw [hyx] at CYX
              obtain ⟨x0, x1⟩ := two_cells HBX10.out.1
              obtain ⟨y0, y1⟩ := two_cells HBX10.out.2.1
              obtain ⟨z0, z1⟩ := two_cells HBX10.out.2.2.1
              go_wp2_with fail
              refine (CYX.out _).mono ?_
              rintro e w9 ⟨rfl, q, os, rfl⟩
              have hbw := below_grow (Below.refl W10.heap.size W10) q os
              generalize Sort.grow (W10.drewN q) os = W11 at *
              have HBX11 := hide (HBX10.out.on hbw)
              have HB11 := hide (below_on HB10.out hbw)
              clear hbw x0 x1 y0 y1 z0 z1 HBX10 HB10
              clear a0 a1 b0 b1
              go_wp2
              go_ret
              exact ⟨rfl, HB11.out⟩
            · have hs1 : decide (y.size ≤ x.size) = false := decide_eq_false hs
              have hs2 : x.size < y.size := by omega
              go_wp2
              go_ret
              exact ⟨rfl, HB10.out⟩
          · have hf1 : decide (x.fee ≤ y.fee) = false := decide_eq_false hf
            have hf2 : y.fee < x.fee := by omega
            go_wp2
            go_ret
            exact ⟨rfl, HB10.out⟩
  · go_simp
    refine hK.out _ _ ?_ (fun hHeld => ?_)
    · exact hHeld.alloc hHeld.size _
    clear hK K
    try simp only [Act.put, List.setIfInBounds_toArray, List.set_cons_zero, List.set_cons_succ]
    refine wpAnyH_ready (rs := [9, 11]) (by kernel_rfl) (by simp) (AllReadyH.cons (o := { dst := some 8, op := Op.alloc 29, type := 0, pos := "law.go:219", after := #[], guard := none }) rfl (fun K hK => ?_) (AllReadyH.cons (o := { dst := some 10, op := Op.alloc 29, type := 0, pos := "law.go:219", after := #[], guard := none }) rfl (fun K hK => ?_) AllReadyH.nil))
    · go_simp
      refine hK.out _ _ ?_ (fun hHeld => ?_)
      · exact hHeld.alloc hHeld.size _
      clear hK K
      try simp only [Act.put, List.setIfInBounds_toArray, List.set_cons_zero, List.set_cons_succ]
      refine wpAnyH_ready (rs := [11]) (by kernel_rfl) (by simp) (AllReadyH.cons (o := { dst := some 10, op := Op.alloc 29, type := 0, pos := "law.go:219", after := #[], guard := none }) rfl (fun K hK => ?_) AllReadyH.nil)
      go_simp
      refine hK.out _ _ ?_ (fun hHeld => ?_)
      · exact hHeld.alloc hHeld.size _
      clear hK K
      try simp only [Act.put, List.setIfInBounds_toArray, List.set_cons_zero, List.set_cons_succ]
      refine wpAnyH_ready (rs := [12]) (by kernel_rfl) (by simp) (AllReadyH.cons (o := { dst := none, op := Op.store 29 (Operand.tmp 8) (Operand.tmp 20), type := 0, pos := "law.go:219", after := #[{ on := 9, ground := Ground.data }, { on := 2, ground := Ground.data }, { on := 0, ground := Ground.phase }, { on := 1, ground := Ground.phase }, { on := 2, ground := Ground.phase }, { on := 3, ground := Ground.textOnly Departure.lateStores }, { on := 4, ground := Ground.textOnly Departure.lateStores }, { on := 5, ground := Ground.textOnly Departure.lateStores }, { on := 6, ground := Ground.textOnly Departure.lateStores }, { on := 7, ground := Ground.textOnly Departure.lateStores }, { on := 8, ground := Ground.textOnly Departure.lateStores }, { on := 9, ground := Ground.phase }, { on := 10, ground := Ground.phase }, { on := 11, ground := Ground.phase }], guard := none }) rfl (fun K hK => ?_) AllReadyH.nil)
      obtain ⟨t0, t1, t2⟩ := three_there W 29
      generalize (((W.alloc (.cells #[.int .u64 0, .int .i64 0] 29)).alloc (.cells #[.int .u64 0, .int .i64 0] 29)).alloc (.cells #[.int .u64 0, .int .i64 0] 29)).drew = V at *
      refine step_store_row rfl 29 (.tmp 8) (.tmp 20) rfl (W.heap.size + 1) 0 (wtC x) rfl rfl t1 info_wt (wtC_one x) ?_
      refine hK.out _ _ ?_ (fun hHeld => ?_)
      · exact below_sets (by omega) _ _ _ hHeld
      clear hK K
      try simp only [Act.put]
      refine wpAnyH_ready (rs := [13]) (by kernel_rfl) (by simp) (AllReadyH.cons (o := { dst := none, op := Op.store 29 (Operand.tmp 9) (Operand.tmp 23), type := 0, pos := "law.go:219", after := #[{ on := 10, ground := Ground.data }, { on := 5, ground := Ground.data }, { on := 12, ground := Ground.chain }, { on := 0, ground := Ground.phase }, { on := 1, ground := Ground.phase }, { on := 2, ground := Ground.phase }, { on := 3, ground := Ground.phase }, { on := 4, ground := Ground.phase }, { on := 5, ground := Ground.phase }, { on := 6, ground := Ground.textOnly Departure.lateStores }, { on := 7, ground := Ground.textOnly Departure.lateStores }, { on := 8, ground := Ground.textOnly Departure.lateStores }, { on := 9, ground := Ground.phase }, { on := 10, ground := Ground.phase }, { on := 11, ground := Ground.phase }, { on := 12, ground := Ground.phase }], guard := none }) rfl (fun K hK => ?_) AllReadyH.nil)
      refine step_store_row rfl 29 (.tmp 9) (.tmp 23) rfl (W.heap.size) 0 (wtC y) rfl rfl (there_apart t0 (by omega) _ _) info_wt (wtC_one y) ?_
      refine hK.out _ _ ?_ (fun hHeld => ?_)
      · exact below_sets (by omega) _ _ _ hHeld
      clear hK K
      try simp only [Act.put]
      refine wpAnyH_ready (rs := [14]) (by kernel_rfl) (by simp) (AllReadyH.cons (o := { dst := none, op := Op.store 29 (Operand.tmp 10) (Operand.tmp 26), type := 0, pos := "law.go:219", after := #[{ on := 11, ground := Ground.data }, { on := 8, ground := Ground.data }, { on := 13, ground := Ground.chain }, { on := 0, ground := Ground.phase }, { on := 1, ground := Ground.phase }, { on := 2, ground := Ground.phase }, { on := 3, ground := Ground.phase }, { on := 4, ground := Ground.phase }, { on := 5, ground := Ground.phase }, { on := 6, ground := Ground.phase }, { on := 7, ground := Ground.phase }, { on := 8, ground := Ground.phase }, { on := 9, ground := Ground.phase }, { on := 10, ground := Ground.phase }, { on := 11, ground := Ground.phase }, { on := 12, ground := Ground.phase }, { on := 13, ground := Ground.phase }], guard := none }) rfl (fun K hK => ?_) AllReadyH.nil)
      refine step_store_row rfl 29 (.tmp 10) (.tmp 26) rfl (W.heap.size + 1 + 1) 0 (wtC z) rfl rfl (there_apart (there_apart t2 (by omega) _ _) (by omega) _ _) info_wt (wtC_one z) ?_
      refine hK.out _ _ ?_ (fun hHeld => ?_)
      · exact below_sets (by omega) _ _ _ hHeld
      clear hK K
      try simp only [Act.put]
      refine wpAnyH_done (by kernel_rfl) ?_ _
      have HBX := hide (show Boxes (((V.setCells (W.heap.size + 1) 0 (wtC x)).setCells (W.heap.size) 0 (wtC y)).setCells (W.heap.size + 1 + 1) 0 (wtC z)) (W.heap.size + 1) (W.heap.size) (W.heap.size + 1 + 1) ga (ga + 1) x y z from ⟨range_apart (range_apart (World.rangeAt_setCells_same V (W.heap.size + 1) 0 (wtC x) t1) (by omega) 0 (wtC y)) (by omega) 0 (wtC z), range_apart (World.rangeAt_setCells_same (V.setCells (W.heap.size + 1) 0 (wtC x)) (W.heap.size) 0 (wtC y) (there_apart t0 (by omega) _ _)) (by omega) 0 (wtC z), World.rangeAt_setCells_same ((V.setCells (W.heap.size + 1) 0 (wtC x)).setCells (W.heap.size) 0 (wtC y)) (W.heap.size + 1 + 1) 0 (wtC z) (there_apart (there_apart t2 (by omega) _ _) (by omega) _ _), range_on HXA3.out.1 hHeld, range_on HXA3.out.2 hHeld⟩)
      have HB4 := hide (below_on HB3.out hHeld)
      clear hHeld t0 t1 t2 HM HXA3 HB3
      generalize (((V.setCells (W.heap.size + 1) 0 (wtC x)).setCells (W.heap.size) 0 (wtC y)).setCells (W.heap.size + 1 + 1) 0 (wtC z)) = W4 at *
      generalize W.heap.size + 1 + 1 = g2 at *
      generalize W.heap.size + 1 = g1 at *
      generalize W.heap.size = g0 at *
      have HBX4 := HBX
      clear HBX
      cases h12 : lessW x y with
      | true =>
        rw [h12] at CXY
        have h21 := lessW_one h12
        cases h23 : lessW y z with
        | true =>
          rw [h23] at CYZ
          rw [lessW_trans h12 h23] at CXZ
          have CYX0 := CYX
          rw [h21] at CYX0
          clear h12 h21 h23
          obtain ⟨x0, x1⟩ := two_cells HBX4.out.1
          obtain ⟨y0, y1⟩ := two_cells HBX4.out.2.1
          obtain ⟨z0, z1⟩ := two_cells HBX4.out.2.2.1
          go_wp2_with fail
          refine (CXX.out _).mono ?_
          rintro e w9 ⟨rfl, q, os, rfl⟩
          have hbw := below_grow (Below.refl W4.heap.size W4) q os
          generalize Sort.grow (W4.drewN q) os = W5 at *
          have HBX5 := hide (HBX4.out.on hbw)
          have HB5 := hide (below_on HB4.out hbw)
          clear hbw x0 x1 y0 y1 z0 z1 HBX4 HB4
          obtain ⟨x0, x1⟩ := two_cells HBX5.out.1
          obtain ⟨y0, y1⟩ := two_cells HBX5.out.2.1
          obtain ⟨z0, z1⟩ := two_cells HBX5.out.2.2.1
          go_wp2_with fail
          refine (CXY.out _).mono ?_
          rintro e w9 ⟨rfl, q, os, rfl⟩
          have hbw := below_grow (Below.refl W5.heap.size W5) q os
          generalize Sort.grow (W5.drewN q) os = W6 at *
          have HBX6 := hide (HBX5.out.on hbw)
          have HB6 := hide (below_on HB5.out hbw)
          clear hbw x0 x1 y0 y1 z0 z1 HBX5 HB5
          obtain ⟨x0, x1⟩ := two_cells HBX6.out.1
          obtain ⟨y0, y1⟩ := two_cells HBX6.out.2.1
          obtain ⟨z0, z1⟩ := two_cells HBX6.out.2.2.1
          go_wp2_with fail
          refine (CYX0.out _).mono ?_
          rintro e w9 ⟨rfl, q, os, rfl⟩
          have hbw := below_grow (Below.refl W6.heap.size W6) q os
          generalize Sort.grow (W6.drewN q) os = W7 at *
          have HBX7 := hide (HBX6.out.on hbw)
          have HB7 := hide (below_on HB6.out hbw)
          clear hbw x0 x1 y0 y1 z0 z1 HBX6 HB6
          obtain ⟨x0, x1⟩ := two_cells HBX7.out.1
          obtain ⟨y0, y1⟩ := two_cells HBX7.out.2.1
          obtain ⟨z0, z1⟩ := two_cells HBX7.out.2.2.1
          go_wp2_with fail
          refine (CXY.out _).mono ?_
          rintro e w9 ⟨rfl, q, os, rfl⟩
          have hbw := below_grow (Below.refl W7.heap.size W7) q os
          generalize Sort.grow (W7.drewN q) os = W8 at *
          have HBX8 := hide (HBX7.out.on hbw)
          have HB8 := hide (below_on HB7.out hbw)
          clear hbw x0 x1 y0 y1 z0 z1 HBX7 HB7
          obtain ⟨x0, x1⟩ := two_cells HBX8.out.1
          obtain ⟨y0, y1⟩ := two_cells HBX8.out.2.1
          obtain ⟨z0, z1⟩ := two_cells HBX8.out.2.2.1
          go_wp2_with fail
          refine (CYZ.out _).mono ?_
          rintro e w9 ⟨rfl, q, os, rfl⟩
          have hbw := below_grow (Below.refl W8.heap.size W8) q os
          generalize Sort.grow (W8.drewN q) os = W9 at *
          have HBX9 := hide (HBX8.out.on hbw)
          have HB9 := hide (below_on HB8.out hbw)
          clear hbw x0 x1 y0 y1 z0 z1 HBX8 HB8
          obtain ⟨x0, x1⟩ := two_cells HBX9.out.1
          obtain ⟨y0, y1⟩ := two_cells HBX9.out.2.1
          obtain ⟨z0, z1⟩ := two_cells HBX9.out.2.2.1
          go_wp2_with fail
          refine (CXZ.out _).mono ?_
          rintro e w9 ⟨rfl, q, os, rfl⟩
          have hbw := below_grow (Below.refl W9.heap.size W9) q os
          generalize Sort.grow (W9.drewN q) os = W10 at *
          have HBX10 := hide (HBX9.out.on hbw)
          have HB10 := hide (below_on HB9.out hbw)
          clear hbw x0 x1 y0 y1 z0 z1 HBX9 HB9
          obtain ⟨x0, x1⟩ := two_cells HBX10.out.1
          obtain ⟨y0, y1⟩ := two_cells HBX10.out.2.1
          obtain ⟨z0, z1⟩ := two_cells HBX10.out.2.2.1
          go_wp2_with fail
          refine (CXY.out _).mono ?_
          rintro e w9 ⟨rfl, q, os, rfl⟩
          have hbw := below_grow (Below.refl W10.heap.size W10) q os
          generalize Sort.grow (W10.drewN q) os = W11 at *
          have HBX11 := hide (HBX10.out.on hbw)
          have HB11 := hide (below_on HB10.out hbw)
          clear hbw x0 x1 y0 y1 z0 z1 HBX10 HB10
          obtain ⟨a0, a1⟩ := two_cells HBX11.out.2.2.2.1
          obtain ⟨b0, b1⟩ := two_cells HBX11.out.2.2.2.2
          by_cases hf : x.fee ≤ y.fee
          · by_cases hs : y.size ≤ x.size
            · have hyx := HLM.out hf hs
              rw [hyx] at CYX
              obtain ⟨x0, x1⟩ := two_cells HBX11.out.1
              obtain ⟨y0, y1⟩ := two_cells HBX11.out.2.1
              obtain ⟨z0, z1⟩ := two_cells HBX11.out.2.2.1
              go_wp2_with fail
              refine (CYX.out _).mono ?_
              rintro e w9 ⟨rfl, q, os, rfl⟩
              have hbw := below_grow (Below.refl W11.heap.size W11) q os
              generalize Sort.grow (W11.drewN q) os = W12 at *
              have HBX12 := hide (HBX11.out.on hbw)
              have HB12 := hide (below_on HB11.out hbw)
              clear hbw x0 x1 y0 y1 z0 z1 HBX11 HB11
              clear a0 a1 b0 b1
              go_wp2
              go_ret
              exact ⟨rfl, HB12.out⟩
            · have hs1 : decide (y.size ≤ x.size) = false := decide_eq_false hs
              have hs2 : x.size < y.size := by omega
              go_wp2
              go_ret
              exact ⟨rfl, HB11.out⟩
          · have hf1 : decide (x.fee ≤ y.fee) = false := decide_eq_false hf
            have hf2 : y.fee < x.fee := by omega
            go_wp2
            go_ret
            exact ⟨rfl, HB11.out⟩
        | false =>
          rw [h23] at CYZ
          have CYX0 := CYX
          rw [h21] at CYX0
          clear h12 h21 h23
          obtain ⟨x0, x1⟩ := two_cells HBX4.out.1
          obtain ⟨y0, y1⟩ := two_cells HBX4.out.2.1
          obtain ⟨z0, z1⟩ := two_cells HBX4.out.2.2.1
          go_wp2_with fail
          refine (CXX.out _).mono ?_
          rintro e w9 ⟨rfl, q, os, rfl⟩
          have hbw := below_grow (Below.refl W4.heap.size W4) q os
          generalize Sort.grow (W4.drewN q) os = W5 at *
          have HBX5 := hide (HBX4.out.on hbw)
          have HB5 := hide (below_on HB4.out hbw)
          clear hbw x0 x1 y0 y1 z0 z1 HBX4 HB4
          obtain ⟨x0, x1⟩ := two_cells HBX5.out.1
          obtain ⟨y0, y1⟩ := two_cells HBX5.out.2.1
          obtain ⟨z0, z1⟩ := two_cells HBX5.out.2.2.1
          go_wp2_with fail
          refine (CXY.out _).mono ?_
          rintro e w9 ⟨rfl, q, os, rfl⟩
          have hbw := below_grow (Below.refl W5.heap.size W5) q os
          generalize Sort.grow (W5.drewN q) os = W6 at *
          have HBX6 := hide (HBX5.out.on hbw)
          have HB6 := hide (below_on HB5.out hbw)
          clear hbw x0 x1 y0 y1 z0 z1 HBX5 HB5
          obtain ⟨x0, x1⟩ := two_cells HBX6.out.1
          obtain ⟨y0, y1⟩ := two_cells HBX6.out.2.1
          obtain ⟨z0, z1⟩ := two_cells HBX6.out.2.2.1
          go_wp2_with fail
          refine (CYX0.out _).mono ?_
          rintro e w9 ⟨rfl, q, os, rfl⟩
          have hbw := below_grow (Below.refl W6.heap.size W6) q os
          generalize Sort.grow (W6.drewN q) os = W7 at *
          have HBX7 := hide (HBX6.out.on hbw)
          have HB7 := hide (below_on HB6.out hbw)
          clear hbw x0 x1 y0 y1 z0 z1 HBX6 HB6
          obtain ⟨x0, x1⟩ := two_cells HBX7.out.1
          obtain ⟨y0, y1⟩ := two_cells HBX7.out.2.1
          obtain ⟨z0, z1⟩ := two_cells HBX7.out.2.2.1
          go_wp2_with fail
          refine (CXY.out _).mono ?_
          rintro e w9 ⟨rfl, q, os, rfl⟩
          have hbw := below_grow (Below.refl W7.heap.size W7) q os
          generalize Sort.grow (W7.drewN q) os = W8 at *
          have HBX8 := hide (HBX7.out.on hbw)
          have HB8 := hide (below_on HB7.out hbw)
          clear hbw x0 x1 y0 y1 z0 z1 HBX7 HB7
          obtain ⟨x0, x1⟩ := two_cells HBX8.out.1
          obtain ⟨y0, y1⟩ := two_cells HBX8.out.2.1
          obtain ⟨z0, z1⟩ := two_cells HBX8.out.2.2.1
          go_wp2_with fail
          refine (CYZ.out _).mono ?_
          rintro e w9 ⟨rfl, q, os, rfl⟩
          have hbw := below_grow (Below.refl W8.heap.size W8) q os
          generalize Sort.grow (W8.drewN q) os = W9 at *
          have HBX9 := hide (HBX8.out.on hbw)
          have HB9 := hide (below_on HB8.out hbw)
          clear hbw x0 x1 y0 y1 z0 z1 HBX8 HB8
          obtain ⟨x0, x1⟩ := two_cells HBX9.out.1
          obtain ⟨y0, y1⟩ := two_cells HBX9.out.2.1
          obtain ⟨z0, z1⟩ := two_cells HBX9.out.2.2.1
          go_wp2_with fail
          refine (CXY.out _).mono ?_
          rintro e w9 ⟨rfl, q, os, rfl⟩
          have hbw := below_grow (Below.refl W9.heap.size W9) q os
          generalize Sort.grow (W9.drewN q) os = W10 at *
          have HBX10 := hide (HBX9.out.on hbw)
          have HB10 := hide (below_on HB9.out hbw)
          clear hbw x0 x1 y0 y1 z0 z1 HBX9 HB9
          obtain ⟨a0, a1⟩ := two_cells HBX10.out.2.2.2.1
          obtain ⟨b0, b1⟩ := two_cells HBX10.out.2.2.2.2
          by_cases hf : x.fee ≤ y.fee
          · by_cases hs : y.size ≤ x.size
            · have hyx := HLM.out hf hs
              rw [hyx] at CYX
              obtain ⟨x0, x1⟩ := two_cells HBX10.out.1
              obtain ⟨y0, y1⟩ := two_cells HBX10.out.2.1
              obtain ⟨z0, z1⟩ := two_cells HBX10.out.2.2.1
              go_wp2_with fail
              refine (CYX.out _).mono ?_
              rintro e w9 ⟨rfl, q, os, rfl⟩
              have hbw := below_grow (Below.refl W10.heap.size W10) q os
              generalize Sort.grow (W10.drewN q) os = W11 at *
              have HBX11 := hide (HBX10.out.on hbw)
              have HB11 := hide (below_on HB10.out hbw)
              clear hbw x0 x1 y0 y1 z0 z1 HBX10 HB10
              clear a0 a1 b0 b1
              go_wp2
              go_ret
              exact ⟨rfl, HB11.out⟩
            · have hs1 : decide (y.size ≤ x.size) = false := decide_eq_false hs
              have hs2 : x.size < y.size := by omega
              go_wp2
              go_ret
              exact ⟨rfl, HB10.out⟩
          · have hf1 : decide (x.fee ≤ y.fee) = false := decide_eq_false hf
            have hf2 : y.fee < x.fee := by omega
            go_wp2
            go_ret
            exact ⟨rfl, HB10.out⟩
      | false =>
        rw [h12] at CXY
        cases h23 : lessW y z with
        | true =>
          rw [h23] at CYZ
          clear h12 h23
          obtain ⟨x0, x1⟩ := two_cells HBX4.out.1
          obtain ⟨y0, y1⟩ := two_cells HBX4.out.2.1
          obtain ⟨z0, z1⟩ := two_cells HBX4.out.2.2.1
          go_wp2_with fail
          refine (CXX.out _).mono ?_
          rintro e w9 ⟨rfl, q, os, rfl⟩
          have hbw := below_grow (Below.refl W4.heap.size W4) q os
          generalize Sort.grow (W4.drewN q) os = W5 at *
          have HBX5 := hide (HBX4.out.on hbw)
          have HB5 := hide (below_on HB4.out hbw)
          clear hbw x0 x1 y0 y1 z0 z1 HBX4 HB4
          obtain ⟨x0, x1⟩ := two_cells HBX5.out.1
          obtain ⟨y0, y1⟩ := two_cells HBX5.out.2.1
          obtain ⟨z0, z1⟩ := two_cells HBX5.out.2.2.1
          go_wp2_with fail
          refine (CXY.out _).mono ?_
          rintro e w9 ⟨rfl, q, os, rfl⟩
          have hbw := below_grow (Below.refl W5.heap.size W5) q os
          generalize Sort.grow (W5.drewN q) os = W6 at *
          have HBX6 := hide (HBX5.out.on hbw)
          have HB6 := hide (below_on HB5.out hbw)
          clear hbw x0 x1 y0 y1 z0 z1 HBX5 HB5
          obtain ⟨x0, x1⟩ := two_cells HBX6.out.1
          obtain ⟨y0, y1⟩ := two_cells HBX6.out.2.1
          obtain ⟨z0, z1⟩ := two_cells HBX6.out.2.2.1
          go_wp2_with fail
          refine (CXY.out _).mono ?_
          rintro e w9 ⟨rfl, q, os, rfl⟩
          have hbw := below_grow (Below.refl W6.heap.size W6) q os
          generalize Sort.grow (W6.drewN q) os = W7 at *
          have HBX7 := hide (HBX6.out.on hbw)
          have HB7 := hide (below_on HB6.out hbw)
          clear hbw x0 x1 y0 y1 z0 z1 HBX6 HB6
          obtain ⟨x0, x1⟩ := two_cells HBX7.out.1
          obtain ⟨y0, y1⟩ := two_cells HBX7.out.2.1
          obtain ⟨z0, z1⟩ := two_cells HBX7.out.2.2.1
          go_wp2_with fail
          refine (CXY.out _).mono ?_
          rintro e w9 ⟨rfl, q, os, rfl⟩
          have hbw := below_grow (Below.refl W7.heap.size W7) q os
          generalize Sort.grow (W7.drewN q) os = W8 at *
          have HBX8 := hide (HBX7.out.on hbw)
          have HB8 := hide (below_on HB7.out hbw)
          clear hbw x0 x1 y0 y1 z0 z1 HBX7 HB7
          obtain ⟨x0, x1⟩ := two_cells HBX8.out.1
          obtain ⟨y0, y1⟩ := two_cells HBX8.out.2.1
          obtain ⟨z0, z1⟩ := two_cells HBX8.out.2.2.1
          go_wp2_with fail
          refine (CYZ.out _).mono ?_
          rintro e w9 ⟨rfl, q, os, rfl⟩
          have hbw := below_grow (Below.refl W8.heap.size W8) q os
          generalize Sort.grow (W8.drewN q) os = W9 at *
          have HBX9 := hide (HBX8.out.on hbw)
          have HB9 := hide (below_on HB8.out hbw)
          clear hbw x0 x1 y0 y1 z0 z1 HBX8 HB8
          obtain ⟨a0, a1⟩ := two_cells HBX9.out.2.2.2.1
          obtain ⟨b0, b1⟩ := two_cells HBX9.out.2.2.2.2
          by_cases hf : x.fee ≤ y.fee
          · by_cases hs : y.size ≤ x.size
            · have hyx := HLM.out hf hs
              rw [hyx] at CYX
              obtain ⟨x0, x1⟩ := two_cells HBX9.out.1
              obtain ⟨y0, y1⟩ := two_cells HBX9.out.2.1
              obtain ⟨z0, z1⟩ := two_cells HBX9.out.2.2.1
              go_wp2_with fail
              refine (CYX.out _).mono ?_
              rintro e w9 ⟨rfl, q, os, rfl⟩
              have hbw := below_grow (Below.refl W9.heap.size W9) q os
              generalize Sort.grow (W9.drewN q) os = W10 at *
              have HBX10 := hide (HBX9.out.on hbw)
              have HB10 := hide (below_on HB9.out hbw)
              clear hbw x0 x1 y0 y1 z0 z1 HBX9 HB9
              clear a0 a1 b0 b1
              go_wp2
              go_ret
              exact ⟨rfl, HB10.out⟩
            · have hs1 : decide (y.size ≤ x.size) = false := decide_eq_false hs
              have hs2 : x.size < y.size := by omega
              go_wp2
              go_ret
              exact ⟨rfl, HB9.out⟩
          · have hf1 : decide (x.fee ≤ y.fee) = false := decide_eq_false hf
            have hf2 : y.fee < x.fee := by omega
            go_wp2
            go_ret
            exact ⟨rfl, HB9.out⟩
        | false =>
          rw [h23] at CYZ
          rw [lessW_ntrans h12 h23] at CXZ
          clear h12 h23
          obtain ⟨x0, x1⟩ := two_cells HBX4.out.1
          obtain ⟨y0, y1⟩ := two_cells HBX4.out.2.1
          obtain ⟨z0, z1⟩ := two_cells HBX4.out.2.2.1
          go_wp2_with fail
          refine (CXX.out _).mono ?_
          rintro e w9 ⟨rfl, q, os, rfl⟩
          have hbw := below_grow (Below.refl W4.heap.size W4) q os
          generalize Sort.grow (W4.drewN q) os = W5 at *
          have HBX5 := hide (HBX4.out.on hbw)
          have HB5 := hide (below_on HB4.out hbw)
          clear hbw x0 x1 y0 y1 z0 z1 HBX4 HB4
          obtain ⟨x0, x1⟩ := two_cells HBX5.out.1
          obtain ⟨y0, y1⟩ := two_cells HBX5.out.2.1
          obtain ⟨z0, z1⟩ := two_cells HBX5.out.2.2.1
          go_wp2_with fail
          refine (CXY.out _).mono ?_
          rintro e w9 ⟨rfl, q, os, rfl⟩
          have hbw := below_grow (Below.refl W5.heap.size W5) q os
          generalize Sort.grow (W5.drewN q) os = W6 at *
          have HBX6 := hide (HBX5.out.on hbw)
          have HB6 := hide (below_on HB5.out hbw)
          clear hbw x0 x1 y0 y1 z0 z1 HBX5 HB5
          obtain ⟨x0, x1⟩ := two_cells HBX6.out.1
          obtain ⟨y0, y1⟩ := two_cells HBX6.out.2.1
          obtain ⟨z0, z1⟩ := two_cells HBX6.out.2.2.1
          go_wp2_with fail
          refine (CXY.out _).mono ?_
          rintro e w9 ⟨rfl, q, os, rfl⟩
          have hbw := below_grow (Below.refl W6.heap.size W6) q os
          generalize Sort.grow (W6.drewN q) os = W7 at *
          have HBX7 := hide (HBX6.out.on hbw)
          have HB7 := hide (below_on HB6.out hbw)
          clear hbw x0 x1 y0 y1 z0 z1 HBX6 HB6
          obtain ⟨x0, x1⟩ := two_cells HBX7.out.1
          obtain ⟨y0, y1⟩ := two_cells HBX7.out.2.1
          obtain ⟨z0, z1⟩ := two_cells HBX7.out.2.2.1
          go_wp2_with fail
          refine (CXY.out _).mono ?_
          rintro e w9 ⟨rfl, q, os, rfl⟩
          have hbw := below_grow (Below.refl W7.heap.size W7) q os
          generalize Sort.grow (W7.drewN q) os = W8 at *
          have HBX8 := hide (HBX7.out.on hbw)
          have HB8 := hide (below_on HB7.out hbw)
          clear hbw x0 x1 y0 y1 z0 z1 HBX7 HB7
          obtain ⟨x0, x1⟩ := two_cells HBX8.out.1
          obtain ⟨y0, y1⟩ := two_cells HBX8.out.2.1
          obtain ⟨z0, z1⟩ := two_cells HBX8.out.2.2.1
          go_wp2_with fail
          refine (CYZ.out _).mono ?_
          rintro e w9 ⟨rfl, q, os, rfl⟩
          have hbw := below_grow (Below.refl W8.heap.size W8) q os
          generalize Sort.grow (W8.drewN q) os = W9 at *
          have HBX9 := hide (HBX8.out.on hbw)
          have HB9 := hide (below_on HB8.out hbw)
          clear hbw x0 x1 y0 y1 z0 z1 HBX8 HB8
          obtain ⟨x0, x1⟩ := two_cells HBX9.out.1
          obtain ⟨y0, y1⟩ := two_cells HBX9.out.2.1
          obtain ⟨z0, z1⟩ := two_cells HBX9.out.2.2.1
          go_wp2_with fail
          refine (CXZ.out _).mono ?_
          rintro e w9 ⟨rfl, q, os, rfl⟩
          have hbw := below_grow (Below.refl W9.heap.size W9) q os
          generalize Sort.grow (W9.drewN q) os = W10 at *
          have HBX10 := hide (HBX9.out.on hbw)
          have HB10 := hide (below_on HB9.out hbw)
          clear hbw x0 x1 y0 y1 z0 z1 HBX9 HB9
          obtain ⟨a0, a1⟩ := two_cells HBX10.out.2.2.2.1
          obtain ⟨b0, b1⟩ := two_cells HBX10.out.2.2.2.2
          by_cases hf : x.fee ≤ y.fee
          · by_cases hs : y.size ≤ x.size
            · have hyx := HLM.out hf hs
              rw [hyx] at CYX
              obtain ⟨x0, x1⟩ := two_cells HBX10.out.1
              obtain ⟨y0, y1⟩ := two_cells HBX10.out.2.1
              obtain ⟨z0, z1⟩ := two_cells HBX10.out.2.2.1
              go_wp2_with fail
              refine (CYX.out _).mono ?_
              rintro e w9 ⟨rfl, q, os, rfl⟩
              have hbw := below_grow (Below.refl W10.heap.size W10) q os
              generalize Sort.grow (W10.drewN q) os = W11 at *
              have HBX11 := hide (HBX10.out.on hbw)
              have HB11 := hide (below_on HB10.out hbw)
              clear hbw x0 x1 y0 y1 z0 z1 HBX10 HB10
              clear a0 a1 b0 b1
              go_wp2
              go_ret
              exact ⟨rfl, HB11.out⟩
            · have hs1 : decide (y.size ≤ x.size) = false := decide_eq_false hs
              have hs2 : x.size < y.size := by omega
              go_wp2
              go_ret
              exact ⟨rfl, HB10.out⟩
          · have hf1 : decide (x.fee ≤ y.fee) = false := decide_eq_false hf
            have hf2 : y.fee < x.fee := by omega
            go_wp2
            go_ret
            exact ⟨rfl, HB10.out⟩
    · go_simp
      refine hK.out _ _ ?_ (fun hHeld => ?_)
      · exact hHeld.alloc hHeld.size _
      clear hK K
      try simp only [Act.put, List.setIfInBounds_toArray, List.set_cons_zero, List.set_cons_succ]
      refine wpAnyH_ready (rs := [9]) (by kernel_rfl) (by simp) (AllReadyH.cons (o := { dst := some 8, op := Op.alloc 29, type := 0, pos := "law.go:219", after := #[], guard := none }) rfl (fun K hK => ?_) AllReadyH.nil)
      go_simp
      refine hK.out _ _ ?_ (fun hHeld => ?_)
      · exact hHeld.alloc hHeld.size _
      clear hK K
      try simp only [Act.put, List.setIfInBounds_toArray, List.set_cons_zero, List.set_cons_succ]
      refine wpAnyH_ready (rs := [12]) (by kernel_rfl) (by simp) (AllReadyH.cons (o := { dst := none, op := Op.store 29 (Operand.tmp 8) (Operand.tmp 20), type := 0, pos := "law.go:219", after := #[{ on := 9, ground := Ground.data }, { on := 2, ground := Ground.data }, { on := 0, ground := Ground.phase }, { on := 1, ground := Ground.phase }, { on := 2, ground := Ground.phase }, { on := 3, ground := Ground.textOnly Departure.lateStores }, { on := 4, ground := Ground.textOnly Departure.lateStores }, { on := 5, ground := Ground.textOnly Departure.lateStores }, { on := 6, ground := Ground.textOnly Departure.lateStores }, { on := 7, ground := Ground.textOnly Departure.lateStores }, { on := 8, ground := Ground.textOnly Departure.lateStores }, { on := 9, ground := Ground.phase }, { on := 10, ground := Ground.phase }, { on := 11, ground := Ground.phase }], guard := none }) rfl (fun K hK => ?_) AllReadyH.nil)
      obtain ⟨t0, t1, t2⟩ := three_there W 29
      generalize (((W.alloc (.cells #[.int .u64 0, .int .i64 0] 29)).alloc (.cells #[.int .u64 0, .int .i64 0] 29)).alloc (.cells #[.int .u64 0, .int .i64 0] 29)).drew = V at *
      refine step_store_row rfl 29 (.tmp 8) (.tmp 20) rfl (W.heap.size + 1 + 1) 0 (wtC x) rfl rfl t2 info_wt (wtC_one x) ?_
      refine hK.out _ _ ?_ (fun hHeld => ?_)
      · exact below_sets (by omega) _ _ _ hHeld
      clear hK K
      try simp only [Act.put]
      refine wpAnyH_ready (rs := [13]) (by kernel_rfl) (by simp) (AllReadyH.cons (o := { dst := none, op := Op.store 29 (Operand.tmp 9) (Operand.tmp 23), type := 0, pos := "law.go:219", after := #[{ on := 10, ground := Ground.data }, { on := 5, ground := Ground.data }, { on := 12, ground := Ground.chain }, { on := 0, ground := Ground.phase }, { on := 1, ground := Ground.phase }, { on := 2, ground := Ground.phase }, { on := 3, ground := Ground.phase }, { on := 4, ground := Ground.phase }, { on := 5, ground := Ground.phase }, { on := 6, ground := Ground.textOnly Departure.lateStores }, { on := 7, ground := Ground.textOnly Departure.lateStores }, { on := 8, ground := Ground.textOnly Departure.lateStores }, { on := 9, ground := Ground.phase }, { on := 10, ground := Ground.phase }, { on := 11, ground := Ground.phase }, { on := 12, ground := Ground.phase }], guard := none }) rfl (fun K hK => ?_) AllReadyH.nil)
      refine step_store_row rfl 29 (.tmp 9) (.tmp 23) rfl (W.heap.size) 0 (wtC y) rfl rfl (there_apart t0 (by omega) _ _) info_wt (wtC_one y) ?_
      refine hK.out _ _ ?_ (fun hHeld => ?_)
      · exact below_sets (by omega) _ _ _ hHeld
      clear hK K
      try simp only [Act.put]
      refine wpAnyH_ready (rs := [14]) (by kernel_rfl) (by simp) (AllReadyH.cons (o := { dst := none, op := Op.store 29 (Operand.tmp 10) (Operand.tmp 26), type := 0, pos := "law.go:219", after := #[{ on := 11, ground := Ground.data }, { on := 8, ground := Ground.data }, { on := 13, ground := Ground.chain }, { on := 0, ground := Ground.phase }, { on := 1, ground := Ground.phase }, { on := 2, ground := Ground.phase }, { on := 3, ground := Ground.phase }, { on := 4, ground := Ground.phase }, { on := 5, ground := Ground.phase }, { on := 6, ground := Ground.phase }, { on := 7, ground := Ground.phase }, { on := 8, ground := Ground.phase }, { on := 9, ground := Ground.phase }, { on := 10, ground := Ground.phase }, { on := 11, ground := Ground.phase }, { on := 12, ground := Ground.phase }, { on := 13, ground := Ground.phase }], guard := none }) rfl (fun K hK => ?_) AllReadyH.nil)
      refine step_store_row rfl 29 (.tmp 10) (.tmp 26) rfl (W.heap.size + 1) 0 (wtC z) rfl rfl (there_apart (there_apart t1 (by omega) _ _) (by omega) _ _) info_wt (wtC_one z) ?_
      refine hK.out _ _ ?_ (fun hHeld => ?_)
      · exact below_sets (by omega) _ _ _ hHeld
      clear hK K
      try simp only [Act.put]
      refine wpAnyH_done (by kernel_rfl) ?_ _
      have HBX := hide (show Boxes (((V.setCells (W.heap.size + 1 + 1) 0 (wtC x)).setCells (W.heap.size) 0 (wtC y)).setCells (W.heap.size + 1) 0 (wtC z)) (W.heap.size + 1 + 1) (W.heap.size) (W.heap.size + 1) ga (ga + 1) x y z from ⟨range_apart (range_apart (World.rangeAt_setCells_same V (W.heap.size + 1 + 1) 0 (wtC x) t2) (by omega) 0 (wtC y)) (by omega) 0 (wtC z), range_apart (World.rangeAt_setCells_same (V.setCells (W.heap.size + 1 + 1) 0 (wtC x)) (W.heap.size) 0 (wtC y) (there_apart t0 (by omega) _ _)) (by omega) 0 (wtC z), World.rangeAt_setCells_same ((V.setCells (W.heap.size + 1 + 1) 0 (wtC x)).setCells (W.heap.size) 0 (wtC y)) (W.heap.size + 1) 0 (wtC z) (there_apart (there_apart t1 (by omega) _ _) (by omega) _ _), range_on HXA3.out.1 hHeld, range_on HXA3.out.2 hHeld⟩)
      have HB4 := hide (below_on HB3.out hHeld)
      clear hHeld t0 t1 t2 HM HXA3 HB3
      generalize (((V.setCells (W.heap.size + 1 + 1) 0 (wtC x)).setCells (W.heap.size) 0 (wtC y)).setCells (W.heap.size + 1) 0 (wtC z)) = W4 at *
      generalize W.heap.size + 1 + 1 = g2 at *
      generalize W.heap.size + 1 = g1 at *
      generalize W.heap.size = g0 at *
      have HBX4 := HBX
      clear HBX
      cases h12 : lessW x y with
      | true =>
        rw [h12] at CXY
        have h21 := lessW_one h12
        cases h23 : lessW y z with
        | true =>
          rw [h23] at CYZ
          rw [lessW_trans h12 h23] at CXZ
          have CYX0 := CYX
          rw [h21] at CYX0
          clear h12 h21 h23
          obtain ⟨x0, x1⟩ := two_cells HBX4.out.1
          obtain ⟨y0, y1⟩ := two_cells HBX4.out.2.1
          obtain ⟨z0, z1⟩ := two_cells HBX4.out.2.2.1
          go_wp2_with fail
          refine (CXX.out _).mono ?_
          rintro e w9 ⟨rfl, q, os, rfl⟩
          have hbw := below_grow (Below.refl W4.heap.size W4) q os
          generalize Sort.grow (W4.drewN q) os = W5 at *
          have HBX5 := hide (HBX4.out.on hbw)
          have HB5 := hide (below_on HB4.out hbw)
          clear hbw x0 x1 y0 y1 z0 z1 HBX4 HB4
          obtain ⟨x0, x1⟩ := two_cells HBX5.out.1
          obtain ⟨y0, y1⟩ := two_cells HBX5.out.2.1
          obtain ⟨z0, z1⟩ := two_cells HBX5.out.2.2.1
          go_wp2_with fail
          refine (CXY.out _).mono ?_
          rintro e w9 ⟨rfl, q, os, rfl⟩
          have hbw := below_grow (Below.refl W5.heap.size W5) q os
          generalize Sort.grow (W5.drewN q) os = W6 at *
          have HBX6 := hide (HBX5.out.on hbw)
          have HB6 := hide (below_on HB5.out hbw)
          clear hbw x0 x1 y0 y1 z0 z1 HBX5 HB5
          obtain ⟨x0, x1⟩ := two_cells HBX6.out.1
          obtain ⟨y0, y1⟩ := two_cells HBX6.out.2.1
          obtain ⟨z0, z1⟩ := two_cells HBX6.out.2.2.1
          go_wp2_with fail
          refine (CYX0.out _).mono ?_
          rintro e w9 ⟨rfl, q, os, rfl⟩
          have hbw := below_grow (Below.refl W6.heap.size W6) q os
          generalize Sort.grow (W6.drewN q) os = W7 at *
          have HBX7 := hide (HBX6.out.on hbw)
          have HB7 := hide (below_on HB6.out hbw)
          clear hbw x0 x1 y0 y1 z0 z1 HBX6 HB6
          obtain ⟨x0, x1⟩ := two_cells HBX7.out.1
          obtain ⟨y0, y1⟩ := two_cells HBX7.out.2.1
          obtain ⟨z0, z1⟩ := two_cells HBX7.out.2.2.1
          go_wp2_with fail
          refine (CXY.out _).mono ?_
          rintro e w9 ⟨rfl, q, os, rfl⟩
          have hbw := below_grow (Below.refl W7.heap.size W7) q os
          generalize Sort.grow (W7.drewN q) os = W8 at *
          have HBX8 := hide (HBX7.out.on hbw)
          have HB8 := hide (below_on HB7.out hbw)
          clear hbw x0 x1 y0 y1 z0 z1 HBX7 HB7
          obtain ⟨x0, x1⟩ := two_cells HBX8.out.1
          obtain ⟨y0, y1⟩ := two_cells HBX8.out.2.1
          obtain ⟨z0, z1⟩ := two_cells HBX8.out.2.2.1
          go_wp2_with fail
          refine (CYZ.out _).mono ?_
          rintro e w9 ⟨rfl, q, os, rfl⟩
          have hbw := below_grow (Below.refl W8.heap.size W8) q os
          generalize Sort.grow (W8.drewN q) os = W9 at *
          have HBX9 := hide (HBX8.out.on hbw)
          have HB9 := hide (below_on HB8.out hbw)
          clear hbw x0 x1 y0 y1 z0 z1 HBX8 HB8
          obtain ⟨x0, x1⟩ := two_cells HBX9.out.1
          obtain ⟨y0, y1⟩ := two_cells HBX9.out.2.1
          obtain ⟨z0, z1⟩ := two_cells HBX9.out.2.2.1
          go_wp2_with fail
          refine (CXZ.out _).mono ?_
          rintro e w9 ⟨rfl, q, os, rfl⟩
          have hbw := below_grow (Below.refl W9.heap.size W9) q os
          generalize Sort.grow (W9.drewN q) os = W10 at *
          have HBX10 := hide (HBX9.out.on hbw)
          have HB10 := hide (below_on HB9.out hbw)
          clear hbw x0 x1 y0 y1 z0 z1 HBX9 HB9
          obtain ⟨x0, x1⟩ := two_cells HBX10.out.1
          obtain ⟨y0, y1⟩ := two_cells HBX10.out.2.1
          obtain ⟨z0, z1⟩ := two_cells HBX10.out.2.2.1
          go_wp2_with fail
          refine (CXY.out _).mono ?_
          rintro e w9 ⟨rfl, q, os, rfl⟩
          have hbw := below_grow (Below.refl W10.heap.size W10) q os
          generalize Sort.grow (W10.drewN q) os = W11 at *
          have HBX11 := hide (HBX10.out.on hbw)
          have HB11 := hide (below_on HB10.out hbw)
          clear hbw x0 x1 y0 y1 z0 z1 HBX10 HB10
          obtain ⟨a0, a1⟩ := two_cells HBX11.out.2.2.2.1
          obtain ⟨b0, b1⟩ := two_cells HBX11.out.2.2.2.2
          by_cases hf : x.fee ≤ y.fee
          · by_cases hs : y.size ≤ x.size
            · have hyx := HLM.out hf hs
              rw [hyx] at CYX
              obtain ⟨x0, x1⟩ := two_cells HBX11.out.1
              obtain ⟨y0, y1⟩ := two_cells HBX11.out.2.1
              obtain ⟨z0, z1⟩ := two_cells HBX11.out.2.2.1
              go_wp2_with fail
              refine (CYX.out _).mono ?_
              rintro e w9 ⟨rfl, q, os, rfl⟩
              have hbw := below_grow (Below.refl W11.heap.size W11) q os
              generalize Sort.grow (W11.drewN q) os = W12 at *
              have HBX12 := hide (HBX11.out.on hbw)
              have HB12 := hide (below_on HB11.out hbw)
              clear hbw x0 x1 y0 y1 z0 z1 HBX11 HB11
              clear a0 a1 b0 b1
              go_wp2
              go_ret
              exact ⟨rfl, HB12.out⟩
            · have hs1 : decide (y.size ≤ x.size) = false := decide_eq_false hs
              have hs2 : x.size < y.size := by omega
              go_wp2
              go_ret
              exact ⟨rfl, HB11.out⟩
          · have hf1 : decide (x.fee ≤ y.fee) = false := decide_eq_false hf
            have hf2 : y.fee < x.fee := by omega
            go_wp2
            go_ret
            exact ⟨rfl, HB11.out⟩
        | false =>
          rw [h23] at CYZ
          have CYX0 := CYX
          rw [h21] at CYX0
          clear h12 h21 h23
          obtain ⟨x0, x1⟩ := two_cells HBX4.out.1
          obtain ⟨y0, y1⟩ := two_cells HBX4.out.2.1
          obtain ⟨z0, z1⟩ := two_cells HBX4.out.2.2.1
          go_wp2_with fail
          refine (CXX.out _).mono ?_
          rintro e w9 ⟨rfl, q, os, rfl⟩
          have hbw := below_grow (Below.refl W4.heap.size W4) q os
          generalize Sort.grow (W4.drewN q) os = W5 at *
          have HBX5 := hide (HBX4.out.on hbw)
          have HB5 := hide (below_on HB4.out hbw)
          clear hbw x0 x1 y0 y1 z0 z1 HBX4 HB4
          obtain ⟨x0, x1⟩ := two_cells HBX5.out.1
          obtain ⟨y0, y1⟩ := two_cells HBX5.out.2.1
          obtain ⟨z0, z1⟩ := two_cells HBX5.out.2.2.1
          go_wp2_with fail
          refine (CXY.out _).mono ?_
          rintro e w9 ⟨rfl, q, os, rfl⟩
          have hbw := below_grow (Below.refl W5.heap.size W5) q os
          generalize Sort.grow (W5.drewN q) os = W6 at *
          have HBX6 := hide (HBX5.out.on hbw)
          have HB6 := hide (below_on HB5.out hbw)
          clear hbw x0 x1 y0 y1 z0 z1 HBX5 HB5
          obtain ⟨x0, x1⟩ := two_cells HBX6.out.1
          obtain ⟨y0, y1⟩ := two_cells HBX6.out.2.1
          obtain ⟨z0, z1⟩ := two_cells HBX6.out.2.2.1
          go_wp2_with fail
          refine (CYX0.out _).mono ?_
          rintro e w9 ⟨rfl, q, os, rfl⟩
          have hbw := below_grow (Below.refl W6.heap.size W6) q os
          generalize Sort.grow (W6.drewN q) os = W7 at *
          have HBX7 := hide (HBX6.out.on hbw)
          have HB7 := hide (below_on HB6.out hbw)
          clear hbw x0 x1 y0 y1 z0 z1 HBX6 HB6
          obtain ⟨x0, x1⟩ := two_cells HBX7.out.1
          obtain ⟨y0, y1⟩ := two_cells HBX7.out.2.1
          obtain ⟨z0, z1⟩ := two_cells HBX7.out.2.2.1
          go_wp2_with fail
          refine (CXY.out _).mono ?_
          rintro e w9 ⟨rfl, q, os, rfl⟩
          have hbw := below_grow (Below.refl W7.heap.size W7) q os
          generalize Sort.grow (W7.drewN q) os = W8 at *
          have HBX8 := hide (HBX7.out.on hbw)
          have HB8 := hide (below_on HB7.out hbw)
          clear hbw x0 x1 y0 y1 z0 z1 HBX7 HB7
          obtain ⟨x0, x1⟩ := two_cells HBX8.out.1
          obtain ⟨y0, y1⟩ := two_cells HBX8.out.2.1
          obtain ⟨z0, z1⟩ := two_cells HBX8.out.2.2.1
          go_wp2_with fail
          refine (CYZ.out _).mono ?_
          rintro e w9 ⟨rfl, q, os, rfl⟩
          have hbw := below_grow (Below.refl W8.heap.size W8) q os
          generalize Sort.grow (W8.drewN q) os = W9 at *
          have HBX9 := hide (HBX8.out.on hbw)
          have HB9 := hide (below_on HB8.out hbw)
          clear hbw x0 x1 y0 y1 z0 z1 HBX8 HB8
          obtain ⟨x0, x1⟩ := two_cells HBX9.out.1
          obtain ⟨y0, y1⟩ := two_cells HBX9.out.2.1
          obtain ⟨z0, z1⟩ := two_cells HBX9.out.2.2.1
          go_wp2_with fail
          refine (CXY.out _).mono ?_
          rintro e w9 ⟨rfl, q, os, rfl⟩
          have hbw := below_grow (Below.refl W9.heap.size W9) q os
          generalize Sort.grow (W9.drewN q) os = W10 at *
          have HBX10 := hide (HBX9.out.on hbw)
          have HB10 := hide (below_on HB9.out hbw)
          clear hbw x0 x1 y0 y1 z0 z1 HBX9 HB9
          obtain ⟨a0, a1⟩ := two_cells HBX10.out.2.2.2.1
          obtain ⟨b0, b1⟩ := two_cells HBX10.out.2.2.2.2
          by_cases hf : x.fee ≤ y.fee
          · by_cases hs : y.size ≤ x.size
            · have hyx := HLM.out hf hs
              rw [hyx] at CYX
              obtain ⟨x0, x1⟩ := two_cells HBX10.out.1
              obtain ⟨y0, y1⟩ := two_cells HBX10.out.2.1
              obtain ⟨z0, z1⟩ := two_cells HBX10.out.2.2.1
              go_wp2_with fail
              refine (CYX.out _).mono ?_
              rintro e w9 ⟨rfl, q, os, rfl⟩
              have hbw := below_grow (Below.refl W10.heap.size W10) q os
              generalize Sort.grow (W10.drewN q) os = W11 at *
              have HBX11 := hide (HBX10.out.on hbw)
              have HB11 := hide (below_on HB10.out hbw)
              clear hbw x0 x1 y0 y1 z0 z1 HBX10 HB10
              clear a0 a1 b0 b1
              go_wp2
              go_ret
              exact ⟨rfl, HB11.out⟩
            · have hs1 : decide (y.size ≤ x.size) = false := decide_eq_false hs
              have hs2 : x.size < y.size := by omega
              go_wp2
              go_ret
              exact ⟨rfl, HB10.out⟩
          · have hf1 : decide (x.fee ≤ y.fee) = false := decide_eq_false hf
            have hf2 : y.fee < x.fee := by omega
            go_wp2
            go_ret
            exact ⟨rfl, HB10.out⟩
      | false =>
        rw [h12] at CXY
        cases h23 : lessW y z with
        | true =>
          rw [h23] at CYZ
          clear h12 h23
          obtain ⟨x0, x1⟩ := two_cells HBX4.out.1
          obtain ⟨y0, y1⟩ := two_cells HBX4.out.2.1
          obtain ⟨z0, z1⟩ := two_cells HBX4.out.2.2.1
          go_wp2_with fail
          refine (CXX.out _).mono ?_
          rintro e w9 ⟨rfl, q, os, rfl⟩
          have hbw := below_grow (Below.refl W4.heap.size W4) q os
          generalize Sort.grow (W4.drewN q) os = W5 at *
          have HBX5 := hide (HBX4.out.on hbw)
          have HB5 := hide (below_on HB4.out hbw)
          clear hbw x0 x1 y0 y1 z0 z1 HBX4 HB4
          obtain ⟨x0, x1⟩ := two_cells HBX5.out.1
          obtain ⟨y0, y1⟩ := two_cells HBX5.out.2.1
          obtain ⟨z0, z1⟩ := two_cells HBX5.out.2.2.1
          go_wp2_with fail
          refine (CXY.out _).mono ?_
          rintro e w9 ⟨rfl, q, os, rfl⟩
          have hbw := below_grow (Below.refl W5.heap.size W5) q os
          generalize Sort.grow (W5.drewN q) os = W6 at *
          have HBX6 := hide (HBX5.out.on hbw)
          have HB6 := hide (below_on HB5.out hbw)
          clear hbw x0 x1 y0 y1 z0 z1 HBX5 HB5
          obtain ⟨x0, x1⟩ := two_cells HBX6.out.1
          obtain ⟨y0, y1⟩ := two_cells HBX6.out.2.1
          obtain ⟨z0, z1⟩ := two_cells HBX6.out.2.2.1
          go_wp2_with fail
          refine (CXY.out _).mono ?_
          rintro e w9 ⟨rfl, q, os, rfl⟩
          have hbw := below_grow (Below.refl W6.heap.size W6) q os
          generalize Sort.grow (W6.drewN q) os = W7 at *
          have HBX7 := hide (HBX6.out.on hbw)
          have HB7 := hide (below_on HB6.out hbw)
          clear hbw x0 x1 y0 y1 z0 z1 HBX6 HB6
          obtain ⟨x0, x1⟩ := two_cells HBX7.out.1
          obtain ⟨y0, y1⟩ := two_cells HBX7.out.2.1
          obtain ⟨z0, z1⟩ := two_cells HBX7.out.2.2.1
          go_wp2_with fail
          refine (CXY.out _).mono ?_
          rintro e w9 ⟨rfl, q, os, rfl⟩
          have hbw := below_grow (Below.refl W7.heap.size W7) q os
          generalize Sort.grow (W7.drewN q) os = W8 at *
          have HBX8 := hide (HBX7.out.on hbw)
          have HB8 := hide (below_on HB7.out hbw)
          clear hbw x0 x1 y0 y1 z0 z1 HBX7 HB7
          obtain ⟨x0, x1⟩ := two_cells HBX8.out.1
          obtain ⟨y0, y1⟩ := two_cells HBX8.out.2.1
          obtain ⟨z0, z1⟩ := two_cells HBX8.out.2.2.1
          go_wp2_with fail
          refine (CYZ.out _).mono ?_
          rintro e w9 ⟨rfl, q, os, rfl⟩
          have hbw := below_grow (Below.refl W8.heap.size W8) q os
          generalize Sort.grow (W8.drewN q) os = W9 at *
          have HBX9 := hide (HBX8.out.on hbw)
          have HB9 := hide (below_on HB8.out hbw)
          clear hbw x0 x1 y0 y1 z0 z1 HBX8 HB8
          obtain ⟨a0, a1⟩ := two_cells HBX9.out.2.2.2.1
          obtain ⟨b0, b1⟩ := two_cells HBX9.out.2.2.2.2
          by_cases hf : x.fee ≤ y.fee
          · by_cases hs : y.size ≤ x.size
            · have hyx := HLM.out hf hs
              rw [hyx] at CYX
              obtain ⟨x0, x1⟩ := two_cells HBX9.out.1
              obtain ⟨y0, y1⟩ := two_cells HBX9.out.2.1
              obtain ⟨z0, z1⟩ := two_cells HBX9.out.2.2.1
              go_wp2_with fail
              refine (CYX.out _).mono ?_
              rintro e w9 ⟨rfl, q, os, rfl⟩
              have hbw := below_grow (Below.refl W9.heap.size W9) q os
              generalize Sort.grow (W9.drewN q) os = W10 at *
              have HBX10 := hide (HBX9.out.on hbw)
              have HB10 := hide (below_on HB9.out hbw)
              clear hbw x0 x1 y0 y1 z0 z1 HBX9 HB9
              clear a0 a1 b0 b1
              go_wp2
              go_ret
              exact ⟨rfl, HB10.out⟩
            · have hs1 : decide (y.size ≤ x.size) = false := decide_eq_false hs
              have hs2 : x.size < y.size := by omega
              go_wp2
              go_ret
              exact ⟨rfl, HB9.out⟩
          · have hf1 : decide (x.fee ≤ y.fee) = false := decide_eq_false hf
            have hf2 : y.fee < x.fee := by omega
            go_wp2
            go_ret
            exact ⟨rfl, HB9.out⟩
        | false =>
          rw [h23] at CYZ
          rw [lessW_ntrans h12 h23] at CXZ
          clear h12 h23
          obtain ⟨x0, x1⟩ := two_cells HBX4.out.1
          obtain ⟨y0, y1⟩ := two_cells HBX4.out.2.1
          obtain ⟨z0, z1⟩ := two_cells HBX4.out.2.2.1
          go_wp2_with fail
          refine (CXX.out _).mono ?_
          rintro e w9 ⟨rfl, q, os, rfl⟩
          have hbw := below_grow (Below.refl W4.heap.size W4) q os
          generalize Sort.grow (W4.drewN q) os = W5 at *
          have HBX5 := hide (HBX4.out.on hbw)
          have HB5 := hide (below_on HB4.out hbw)
          clear hbw x0 x1 y0 y1 z0 z1 HBX4 HB4
          obtain ⟨x0, x1⟩ := two_cells HBX5.out.1
          obtain ⟨y0, y1⟩ := two_cells HBX5.out.2.1
          obtain ⟨z0, z1⟩ := two_cells HBX5.out.2.2.1
          go_wp2_with fail
          refine (CXY.out _).mono ?_
          rintro e w9 ⟨rfl, q, os, rfl⟩
          have hbw := below_grow (Below.refl W5.heap.size W5) q os
          generalize Sort.grow (W5.drewN q) os = W6 at *
          have HBX6 := hide (HBX5.out.on hbw)
          have HB6 := hide (below_on HB5.out hbw)
          clear hbw x0 x1 y0 y1 z0 z1 HBX5 HB5
          obtain ⟨x0, x1⟩ := two_cells HBX6.out.1
          obtain ⟨y0, y1⟩ := two_cells HBX6.out.2.1
          obtain ⟨z0, z1⟩ := two_cells HBX6.out.2.2.1
          go_wp2_with fail
          refine (CXY.out _).mono ?_
          rintro e w9 ⟨rfl, q, os, rfl⟩
          have hbw := below_grow (Below.refl W6.heap.size W6) q os
          generalize Sort.grow (W6.drewN q) os = W7 at *
          have HBX7 := hide (HBX6.out.on hbw)
          have HB7 := hide (below_on HB6.out hbw)
          clear hbw x0 x1 y0 y1 z0 z1 HBX6 HB6
          obtain ⟨x0, x1⟩ := two_cells HBX7.out.1
          obtain ⟨y0, y1⟩ := two_cells HBX7.out.2.1
          obtain ⟨z0, z1⟩ := two_cells HBX7.out.2.2.1
          go_wp2_with fail
          refine (CXY.out _).mono ?_
          rintro e w9 ⟨rfl, q, os, rfl⟩
          have hbw := below_grow (Below.refl W7.heap.size W7) q os
          generalize Sort.grow (W7.drewN q) os = W8 at *
          have HBX8 := hide (HBX7.out.on hbw)
          have HB8 := hide (below_on HB7.out hbw)
          clear hbw x0 x1 y0 y1 z0 z1 HBX7 HB7
          obtain ⟨x0, x1⟩ := two_cells HBX8.out.1
          obtain ⟨y0, y1⟩ := two_cells HBX8.out.2.1
          obtain ⟨z0, z1⟩ := two_cells HBX8.out.2.2.1
          go_wp2_with fail
          refine (CYZ.out _).mono ?_
          rintro e w9 ⟨rfl, q, os, rfl⟩
          have hbw := below_grow (Below.refl W8.heap.size W8) q os
          generalize Sort.grow (W8.drewN q) os = W9 at *
          have HBX9 := hide (HBX8.out.on hbw)
          have HB9 := hide (below_on HB8.out hbw)
          clear hbw x0 x1 y0 y1 z0 z1 HBX8 HB8
          obtain ⟨x0, x1⟩ := two_cells HBX9.out.1
          obtain ⟨y0, y1⟩ := two_cells HBX9.out.2.1
          obtain ⟨z0, z1⟩ := two_cells HBX9.out.2.2.1
          go_wp2_with fail
          refine (CXZ.out _).mono ?_
          rintro e w9 ⟨rfl, q, os, rfl⟩
          have hbw := below_grow (Below.refl W9.heap.size W9) q os
          generalize Sort.grow (W9.drewN q) os = W10 at *
          have HBX10 := hide (HBX9.out.on hbw)
          have HB10 := hide (below_on HB9.out hbw)
          clear hbw x0 x1 y0 y1 z0 z1 HBX9 HB9
          obtain ⟨a0, a1⟩ := two_cells HBX10.out.2.2.2.1
          obtain ⟨b0, b1⟩ := two_cells HBX10.out.2.2.2.2
          by_cases hf : x.fee ≤ y.fee
          · by_cases hs : y.size ≤ x.size
            · have hyx := HLM.out hf hs
              rw [hyx] at CYX
              obtain ⟨x0, x1⟩ := two_cells HBX10.out.1
              obtain ⟨y0, y1⟩ := two_cells HBX10.out.2.1
              obtain ⟨z0, z1⟩ := two_cells HBX10.out.2.2.1
              go_wp2_with fail
              refine (CYX.out _).mono ?_
              rintro e w9 ⟨rfl, q, os, rfl⟩
              have hbw := below_grow (Below.refl W10.heap.size W10) q os
              generalize Sort.grow (W10.drewN q) os = W11 at *
              have HBX11 := hide (HBX10.out.on hbw)
              have HB11 := hide (below_on HB10.out hbw)
              clear hbw x0 x1 y0 y1 z0 z1 HBX10 HB10
              clear a0 a1 b0 b1
              go_wp2
              go_ret
              exact ⟨rfl, HB11.out⟩
            · have hs1 : decide (y.size ≤ x.size) = false := decide_eq_false hs
              have hs2 : x.size < y.size := by omega
              go_wp2
              go_ret
              exact ⟨rfl, HB10.out⟩
          · have hf1 : decide (x.fee ≤ y.fee) = false := decide_eq_false hf
            have hf2 : y.fee < x.fee := by omega
            go_wp2
            go_ret
            exact ⟨rfl, HB10.out⟩
  · go_simp
    refine hK.out _ _ ?_ (fun hHeld => ?_)
    · exact hHeld.alloc hHeld.size _
    clear hK K
    try simp only [Act.put, List.setIfInBounds_toArray, List.set_cons_zero, List.set_cons_succ]
    refine wpAnyH_ready (rs := [9, 10]) (by kernel_rfl) (by simp) (AllReadyH.cons (o := { dst := some 8, op := Op.alloc 29, type := 0, pos := "law.go:219", after := #[], guard := none }) rfl (fun K hK => ?_) (AllReadyH.cons (o := { dst := some 9, op := Op.alloc 29, type := 0, pos := "law.go:219", after := #[], guard := none }) rfl (fun K hK => ?_) AllReadyH.nil))
    · go_simp
      refine hK.out _ _ ?_ (fun hHeld => ?_)
      · exact hHeld.alloc hHeld.size _
      clear hK K
      try simp only [Act.put, List.setIfInBounds_toArray, List.set_cons_zero, List.set_cons_succ]
      refine wpAnyH_ready (rs := [10]) (by kernel_rfl) (by simp) (AllReadyH.cons (o := { dst := some 9, op := Op.alloc 29, type := 0, pos := "law.go:219", after := #[], guard := none }) rfl (fun K hK => ?_) AllReadyH.nil)
      go_simp
      refine hK.out _ _ ?_ (fun hHeld => ?_)
      · exact hHeld.alloc hHeld.size _
      clear hK K
      try simp only [Act.put, List.setIfInBounds_toArray, List.set_cons_zero, List.set_cons_succ]
      refine wpAnyH_ready (rs := [12]) (by kernel_rfl) (by simp) (AllReadyH.cons (o := { dst := none, op := Op.store 29 (Operand.tmp 8) (Operand.tmp 20), type := 0, pos := "law.go:219", after := #[{ on := 9, ground := Ground.data }, { on := 2, ground := Ground.data }, { on := 0, ground := Ground.phase }, { on := 1, ground := Ground.phase }, { on := 2, ground := Ground.phase }, { on := 3, ground := Ground.textOnly Departure.lateStores }, { on := 4, ground := Ground.textOnly Departure.lateStores }, { on := 5, ground := Ground.textOnly Departure.lateStores }, { on := 6, ground := Ground.textOnly Departure.lateStores }, { on := 7, ground := Ground.textOnly Departure.lateStores }, { on := 8, ground := Ground.textOnly Departure.lateStores }, { on := 9, ground := Ground.phase }, { on := 10, ground := Ground.phase }, { on := 11, ground := Ground.phase }], guard := none }) rfl (fun K hK => ?_) AllReadyH.nil)
      obtain ⟨t0, t1, t2⟩ := three_there W 29
      generalize (((W.alloc (.cells #[.int .u64 0, .int .i64 0] 29)).alloc (.cells #[.int .u64 0, .int .i64 0] 29)).alloc (.cells #[.int .u64 0, .int .i64 0] 29)).drew = V at *
      refine step_store_row rfl 29 (.tmp 8) (.tmp 20) rfl (W.heap.size + 1) 0 (wtC x) rfl rfl t1 info_wt (wtC_one x) ?_
      refine hK.out _ _ ?_ (fun hHeld => ?_)
      · exact below_sets (by omega) _ _ _ hHeld
      clear hK K
      try simp only [Act.put]
      refine wpAnyH_ready (rs := [13]) (by kernel_rfl) (by simp) (AllReadyH.cons (o := { dst := none, op := Op.store 29 (Operand.tmp 9) (Operand.tmp 23), type := 0, pos := "law.go:219", after := #[{ on := 10, ground := Ground.data }, { on := 5, ground := Ground.data }, { on := 12, ground := Ground.chain }, { on := 0, ground := Ground.phase }, { on := 1, ground := Ground.phase }, { on := 2, ground := Ground.phase }, { on := 3, ground := Ground.phase }, { on := 4, ground := Ground.phase }, { on := 5, ground := Ground.phase }, { on := 6, ground := Ground.textOnly Departure.lateStores }, { on := 7, ground := Ground.textOnly Departure.lateStores }, { on := 8, ground := Ground.textOnly Departure.lateStores }, { on := 9, ground := Ground.phase }, { on := 10, ground := Ground.phase }, { on := 11, ground := Ground.phase }, { on := 12, ground := Ground.phase }], guard := none }) rfl (fun K hK => ?_) AllReadyH.nil)
      refine step_store_row rfl 29 (.tmp 9) (.tmp 23) rfl (W.heap.size + 1 + 1) 0 (wtC y) rfl rfl (there_apart t2 (by omega) _ _) info_wt (wtC_one y) ?_
      refine hK.out _ _ ?_ (fun hHeld => ?_)
      · exact below_sets (by omega) _ _ _ hHeld
      clear hK K
      try simp only [Act.put]
      refine wpAnyH_ready (rs := [14]) (by kernel_rfl) (by simp) (AllReadyH.cons (o := { dst := none, op := Op.store 29 (Operand.tmp 10) (Operand.tmp 26), type := 0, pos := "law.go:219", after := #[{ on := 11, ground := Ground.data }, { on := 8, ground := Ground.data }, { on := 13, ground := Ground.chain }, { on := 0, ground := Ground.phase }, { on := 1, ground := Ground.phase }, { on := 2, ground := Ground.phase }, { on := 3, ground := Ground.phase }, { on := 4, ground := Ground.phase }, { on := 5, ground := Ground.phase }, { on := 6, ground := Ground.phase }, { on := 7, ground := Ground.phase }, { on := 8, ground := Ground.phase }, { on := 9, ground := Ground.phase }, { on := 10, ground := Ground.phase }, { on := 11, ground := Ground.phase }, { on := 12, ground := Ground.phase }, { on := 13, ground := Ground.phase }], guard := none }) rfl (fun K hK => ?_) AllReadyH.nil)
      refine step_store_row rfl 29 (.tmp 10) (.tmp 26) rfl (W.heap.size) 0 (wtC z) rfl rfl (there_apart (there_apart t0 (by omega) _ _) (by omega) _ _) info_wt (wtC_one z) ?_
      refine hK.out _ _ ?_ (fun hHeld => ?_)
      · exact below_sets (by omega) _ _ _ hHeld
      clear hK K
      try simp only [Act.put]
      refine wpAnyH_done (by kernel_rfl) ?_ _
      have HBX := hide (show Boxes (((V.setCells (W.heap.size + 1) 0 (wtC x)).setCells (W.heap.size + 1 + 1) 0 (wtC y)).setCells (W.heap.size) 0 (wtC z)) (W.heap.size + 1) (W.heap.size + 1 + 1) (W.heap.size) ga (ga + 1) x y z from ⟨range_apart (range_apart (World.rangeAt_setCells_same V (W.heap.size + 1) 0 (wtC x) t1) (by omega) 0 (wtC y)) (by omega) 0 (wtC z), range_apart (World.rangeAt_setCells_same (V.setCells (W.heap.size + 1) 0 (wtC x)) (W.heap.size + 1 + 1) 0 (wtC y) (there_apart t2 (by omega) _ _)) (by omega) 0 (wtC z), World.rangeAt_setCells_same ((V.setCells (W.heap.size + 1) 0 (wtC x)).setCells (W.heap.size + 1 + 1) 0 (wtC y)) (W.heap.size) 0 (wtC z) (there_apart (there_apart t0 (by omega) _ _) (by omega) _ _), range_on HXA3.out.1 hHeld, range_on HXA3.out.2 hHeld⟩)
      have HB4 := hide (below_on HB3.out hHeld)
      clear hHeld t0 t1 t2 HM HXA3 HB3
      generalize (((V.setCells (W.heap.size + 1) 0 (wtC x)).setCells (W.heap.size + 1 + 1) 0 (wtC y)).setCells (W.heap.size) 0 (wtC z)) = W4 at *
      generalize W.heap.size + 1 + 1 = g2 at *
      generalize W.heap.size + 1 = g1 at *
      generalize W.heap.size = g0 at *
      have HBX4 := HBX
      clear HBX
      cases h12 : lessW x y with
      | true =>
        rw [h12] at CXY
        have h21 := lessW_one h12
        cases h23 : lessW y z with
        | true =>
          rw [h23] at CYZ
          rw [lessW_trans h12 h23] at CXZ
          have CYX0 := CYX
          rw [h21] at CYX0
          clear h12 h21 h23
          obtain ⟨x0, x1⟩ := two_cells HBX4.out.1
          obtain ⟨y0, y1⟩ := two_cells HBX4.out.2.1
          obtain ⟨z0, z1⟩ := two_cells HBX4.out.2.2.1
          go_wp2_with fail
          refine (CXX.out _).mono ?_
          rintro e w9 ⟨rfl, q, os, rfl⟩
          have hbw := below_grow (Below.refl W4.heap.size W4) q os
          generalize Sort.grow (W4.drewN q) os = W5 at *
          have HBX5 := hide (HBX4.out.on hbw)
          have HB5 := hide (below_on HB4.out hbw)
          clear hbw x0 x1 y0 y1 z0 z1 HBX4 HB4
          obtain ⟨x0, x1⟩ := two_cells HBX5.out.1
          obtain ⟨y0, y1⟩ := two_cells HBX5.out.2.1
          obtain ⟨z0, z1⟩ := two_cells HBX5.out.2.2.1
          go_wp2_with fail
          refine (CXY.out _).mono ?_
          rintro e w9 ⟨rfl, q, os, rfl⟩
          have hbw := below_grow (Below.refl W5.heap.size W5) q os
          generalize Sort.grow (W5.drewN q) os = W6 at *
          have HBX6 := hide (HBX5.out.on hbw)
          have HB6 := hide (below_on HB5.out hbw)
          clear hbw x0 x1 y0 y1 z0 z1 HBX5 HB5
          obtain ⟨x0, x1⟩ := two_cells HBX6.out.1
          obtain ⟨y0, y1⟩ := two_cells HBX6.out.2.1
          obtain ⟨z0, z1⟩ := two_cells HBX6.out.2.2.1
          go_wp2_with fail
          refine (CYX0.out _).mono ?_
          rintro e w9 ⟨rfl, q, os, rfl⟩
          have hbw := below_grow (Below.refl W6.heap.size W6) q os
          generalize Sort.grow (W6.drewN q) os = W7 at *
          have HBX7 := hide (HBX6.out.on hbw)
          have HB7 := hide (below_on HB6.out hbw)
          clear hbw x0 x1 y0 y1 z0 z1 HBX6 HB6
          obtain ⟨x0, x1⟩ := two_cells HBX7.out.1
          obtain ⟨y0, y1⟩ := two_cells HBX7.out.2.1
          obtain ⟨z0, z1⟩ := two_cells HBX7.out.2.2.1
          go_wp2_with fail
          refine (CXY.out _).mono ?_
          rintro e w9 ⟨rfl, q, os, rfl⟩
          have hbw := below_grow (Below.refl W7.heap.size W7) q os
          generalize Sort.grow (W7.drewN q) os = W8 at *
          have HBX8 := hide (HBX7.out.on hbw)
          have HB8 := hide (below_on HB7.out hbw)
          clear hbw x0 x1 y0 y1 z0 z1 HBX7 HB7
          obtain ⟨x0, x1⟩ := two_cells HBX8.out.1
          obtain ⟨y0, y1⟩ := two_cells HBX8.out.2.1
          obtain ⟨z0, z1⟩ := two_cells HBX8.out.2.2.1
          go_wp2_with fail
          refine (CYZ.out _).mono ?_
          rintro e w9 ⟨rfl, q, os, rfl⟩
          have hbw := below_grow (Below.refl W8.heap.size W8) q os
          generalize Sort.grow (W8.drewN q) os = W9 at *
          have HBX9 := hide (HBX8.out.on hbw)
          have HB9 := hide (below_on HB8.out hbw)
          clear hbw x0 x1 y0 y1 z0 z1 HBX8 HB8
          obtain ⟨x0, x1⟩ := two_cells HBX9.out.1
          obtain ⟨y0, y1⟩ := two_cells HBX9.out.2.1
          obtain ⟨z0, z1⟩ := two_cells HBX9.out.2.2.1
          go_wp2_with fail
          refine (CXZ.out _).mono ?_
          rintro e w9 ⟨rfl, q, os, rfl⟩
          have hbw := below_grow (Below.refl W9.heap.size W9) q os
          generalize Sort.grow (W9.drewN q) os = W10 at *
          have HBX10 := hide (HBX9.out.on hbw)
          have HB10 := hide (below_on HB9.out hbw)
          clear hbw x0 x1 y0 y1 z0 z1 HBX9 HB9
          obtain ⟨x0, x1⟩ := two_cells HBX10.out.1
          obtain ⟨y0, y1⟩ := two_cells HBX10.out.2.1
          obtain ⟨z0, z1⟩ := two_cells HBX10.out.2.2.1
          go_wp2_with fail
          refine (CXY.out _).mono ?_
          rintro e w9 ⟨rfl, q, os, rfl⟩
          have hbw := below_grow (Below.refl W10.heap.size W10) q os
          generalize Sort.grow (W10.drewN q) os = W11 at *
          have HBX11 := hide (HBX10.out.on hbw)
          have HB11 := hide (below_on HB10.out hbw)
          clear hbw x0 x1 y0 y1 z0 z1 HBX10 HB10
          obtain ⟨a0, a1⟩ := two_cells HBX11.out.2.2.2.1
          obtain ⟨b0, b1⟩ := two_cells HBX11.out.2.2.2.2
          by_cases hf : x.fee ≤ y.fee
          · by_cases hs : y.size ≤ x.size
            · have hyx := HLM.out hf hs
              rw [hyx] at CYX
              obtain ⟨x0, x1⟩ := two_cells HBX11.out.1
              obtain ⟨y0, y1⟩ := two_cells HBX11.out.2.1
              obtain ⟨z0, z1⟩ := two_cells HBX11.out.2.2.1
              go_wp2_with fail
              refine (CYX.out _).mono ?_
              rintro e w9 ⟨rfl, q, os, rfl⟩
              have hbw := below_grow (Below.refl W11.heap.size W11) q os
              generalize Sort.grow (W11.drewN q) os = W12 at *
              have HBX12 := hide (HBX11.out.on hbw)
              have HB12 := hide (below_on HB11.out hbw)
              clear hbw x0 x1 y0 y1 z0 z1 HBX11 HB11
              clear a0 a1 b0 b1
              go_wp2
              go_ret
              exact ⟨rfl, HB12.out⟩
            · have hs1 : decide (y.size ≤ x.size) = false := decide_eq_false hs
              have hs2 : x.size < y.size := by omega
              go_wp2
              go_ret
              exact ⟨rfl, HB11.out⟩
          · have hf1 : decide (x.fee ≤ y.fee) = false := decide_eq_false hf
            have hf2 : y.fee < x.fee := by omega
            go_wp2
            go_ret
            exact ⟨rfl, HB11.out⟩
        | false =>
          rw [h23] at CYZ
          have CYX0 := CYX
          rw [h21] at CYX0
          clear h12 h21 h23
          obtain ⟨x0, x1⟩ := two_cells HBX4.out.1
          obtain ⟨y0, y1⟩ := two_cells HBX4.out.2.1
          obtain ⟨z0, z1⟩ := two_cells HBX4.out.2.2.1
          go_wp2_with fail
          refine (CXX.out _).mono ?_
          rintro e w9 ⟨rfl, q, os, rfl⟩
          have hbw := below_grow (Below.refl W4.heap.size W4) q os
          generalize Sort.grow (W4.drewN q) os = W5 at *
          have HBX5 := hide (HBX4.out.on hbw)
          have HB5 := hide (below_on HB4.out hbw)
          clear hbw x0 x1 y0 y1 z0 z1 HBX4 HB4
          obtain ⟨x0, x1⟩ := two_cells HBX5.out.1
          obtain ⟨y0, y1⟩ := two_cells HBX5.out.2.1
          obtain ⟨z0, z1⟩ := two_cells HBX5.out.2.2.1
          go_wp2_with fail
          refine (CXY.out _).mono ?_
          rintro e w9 ⟨rfl, q, os, rfl⟩
          have hbw := below_grow (Below.refl W5.heap.size W5) q os
          generalize Sort.grow (W5.drewN q) os = W6 at *
          have HBX6 := hide (HBX5.out.on hbw)
          have HB6 := hide (below_on HB5.out hbw)
          clear hbw x0 x1 y0 y1 z0 z1 HBX5 HB5
          obtain ⟨x0, x1⟩ := two_cells HBX6.out.1
          obtain ⟨y0, y1⟩ := two_cells HBX6.out.2.1
          obtain ⟨z0, z1⟩ := two_cells HBX6.out.2.2.1
          go_wp2_with fail
          refine (CYX0.out _).mono ?_
          rintro e w9 ⟨rfl, q, os, rfl⟩
          have hbw := below_grow (Below.refl W6.heap.size W6) q os
          generalize Sort.grow (W6.drewN q) os = W7 at *
          have HBX7 := hide (HBX6.out.on hbw)
          have HB7 := hide (below_on HB6.out hbw)
          clear hbw x0 x1 y0 y1 z0 z1 HBX6 HB6
          obtain ⟨x0, x1⟩ := two_cells HBX7.out.1
          obtain ⟨y0, y1⟩ := two_cells HBX7.out.2.1
          obtain ⟨z0, z1⟩ := two_cells HBX7.out.2.2.1
          go_wp2_with fail
          refine (CXY.out _).mono ?_
          rintro e w9 ⟨rfl, q, os, rfl⟩
          have hbw := below_grow (Below.refl W7.heap.size W7) q os
          generalize Sort.grow (W7.drewN q) os = W8 at *
          have HBX8 := hide (HBX7.out.on hbw)
          have HB8 := hide (below_on HB7.out hbw)
          clear hbw x0 x1 y0 y1 z0 z1 HBX7 HB7
          obtain ⟨x0, x1⟩ := two_cells HBX8.out.1
          obtain ⟨y0, y1⟩ := two_cells HBX8.out.2.1
          obtain ⟨z0, z1⟩ := two_cells HBX8.out.2.2.1
          go_wp2_with fail
          refine (CYZ.out _).mono ?_
          rintro e w9 ⟨rfl, q, os, rfl⟩
          have hbw := below_grow (Below.refl W8.heap.size W8) q os
          generalize Sort.grow (W8.drewN q) os = W9 at *
          have HBX9 := hide (HBX8.out.on hbw)
          have HB9 := hide (below_on HB8.out hbw)
          clear hbw x0 x1 y0 y1 z0 z1 HBX8 HB8
          obtain ⟨x0, x1⟩ := two_cells HBX9.out.1
          obtain ⟨y0, y1⟩ := two_cells HBX9.out.2.1
          obtain ⟨z0, z1⟩ := two_cells HBX9.out.2.2.1
          go_wp2_with fail
          refine (CXY.out _).mono ?_
          rintro e w9 ⟨rfl, q, os, rfl⟩
          have hbw := below_grow (Below.refl W9.heap.size W9) q os
          generalize Sort.grow (W9.drewN q) os = W10 at *
          have HBX10 := hide (HBX9.out.on hbw)
          have HB10 := hide (below_on HB9.out hbw)
          clear hbw x0 x1 y0 y1 z0 z1 HBX9 HB9
          obtain ⟨a0, a1⟩ := two_cells HBX10.out.2.2.2.1
          obtain ⟨b0, b1⟩ := two_cells HBX10.out.2.2.2.2
          by_cases hf : x.fee ≤ y.fee
          · by_cases hs : y.size ≤ x.size
            · have hyx := HLM.out hf hs
              rw [hyx] at CYX
              obtain ⟨x0, x1⟩ := two_cells HBX10.out.1
              obtain ⟨y0, y1⟩ := two_cells HBX10.out.2.1
              obtain ⟨z0, z1⟩ := two_cells HBX10.out.2.2.1
              go_wp2_with fail
              refine (CYX.out _).mono ?_
              rintro e w9 ⟨rfl, q, os, rfl⟩
              have hbw := below_grow (Below.refl W10.heap.size W10) q os
              generalize Sort.grow (W10.drewN q) os = W11 at *
              have HBX11 := hide (HBX10.out.on hbw)
              have HB11 := hide (below_on HB10.out hbw)
              clear hbw x0 x1 y0 y1 z0 z1 HBX10 HB10
              clear a0 a1 b0 b1
              go_wp2
              go_ret
              exact ⟨rfl, HB11.out⟩
            · have hs1 : decide (y.size ≤ x.size) = false := decide_eq_false hs
              have hs2 : x.size < y.size := by omega
              go_wp2
              go_ret
              exact ⟨rfl, HB10.out⟩
          · have hf1 : decide (x.fee ≤ y.fee) = false := decide_eq_false hf
            have hf2 : y.fee < x.fee := by omega
            go_wp2
            go_ret
            exact ⟨rfl, HB10.out⟩
      | false =>
        rw [h12] at CXY
        cases h23 : lessW y z with
        | true =>
          rw [h23] at CYZ
          clear h12 h23
          obtain ⟨x0, x1⟩ := two_cells HBX4.out.1
          obtain ⟨y0, y1⟩ := two_cells HBX4.out.2.1
          obtain ⟨z0, z1⟩ := two_cells HBX4.out.2.2.1
          go_wp2_with fail
          refine (CXX.out _).mono ?_
          rintro e w9 ⟨rfl, q, os, rfl⟩
          have hbw := below_grow (Below.refl W4.heap.size W4) q os
          generalize Sort.grow (W4.drewN q) os = W5 at *
          have HBX5 := hide (HBX4.out.on hbw)
          have HB5 := hide (below_on HB4.out hbw)
          clear hbw x0 x1 y0 y1 z0 z1 HBX4 HB4
          obtain ⟨x0, x1⟩ := two_cells HBX5.out.1
          obtain ⟨y0, y1⟩ := two_cells HBX5.out.2.1
          obtain ⟨z0, z1⟩ := two_cells HBX5.out.2.2.1
          go_wp2_with fail
          refine (CXY.out _).mono ?_
          rintro e w9 ⟨rfl, q, os, rfl⟩
          have hbw := below_grow (Below.refl W5.heap.size W5) q os
          generalize Sort.grow (W5.drewN q) os = W6 at *
          have HBX6 := hide (HBX5.out.on hbw)
          have HB6 := hide (below_on HB5.out hbw)
          clear hbw x0 x1 y0 y1 z0 z1 HBX5 HB5
          obtain ⟨x0, x1⟩ := two_cells HBX6.out.1
          obtain ⟨y0, y1⟩ := two_cells HBX6.out.2.1
          obtain ⟨z0, z1⟩ := two_cells HBX6.out.2.2.1
          go_wp2_with fail
          refine (CXY.out _).mono ?_
          rintro e w9 ⟨rfl, q, os, rfl⟩
          have hbw := below_grow (Below.refl W6.heap.size W6) q os
          generalize Sort.grow (W6.drewN q) os = W7 at *
          have HBX7 := hide (HBX6.out.on hbw)
          have HB7 := hide (below_on HB6.out hbw)
          clear hbw x0 x1 y0 y1 z0 z1 HBX6 HB6
          obtain ⟨x0, x1⟩ := two_cells HBX7.out.1
          obtain ⟨y0, y1⟩ := two_cells HBX7.out.2.1
          obtain ⟨z0, z1⟩ := two_cells HBX7.out.2.2.1
          go_wp2_with fail
          refine (CXY.out _).mono ?_
          rintro e w9 ⟨rfl, q, os, rfl⟩
          have hbw := below_grow (Below.refl W7.heap.size W7) q os
          generalize Sort.grow (W7.drewN q) os = W8 at *
          have HBX8 := hide (HBX7.out.on hbw)
          have HB8 := hide (below_on HB7.out hbw)
          clear hbw x0 x1 y0 y1 z0 z1 HBX7 HB7
          obtain ⟨x0, x1⟩ := two_cells HBX8.out.1
          obtain ⟨y0, y1⟩ := two_cells HBX8.out.2.1
          obtain ⟨z0, z1⟩ := two_cells HBX8.out.2.2.1
          go_wp2_with fail
          refine (CYZ.out _).mono ?_
          rintro e w9 ⟨rfl, q, os, rfl⟩
          have hbw := below_grow (Below.refl W8.heap.size W8) q os
          generalize Sort.grow (W8.drewN q) os = W9 at *
          have HBX9 := hide (HBX8.out.on hbw)
          have HB9 := hide (below_on HB8.out hbw)
          clear hbw x0 x1 y0 y1 z0 z1 HBX8 HB8
          obtain ⟨a0, a1⟩ := two_cells HBX9.out.2.2.2.1
          obtain ⟨b0, b1⟩ := two_cells HBX9.out.2.2.2.2
          by_cases hf : x.fee ≤ y.fee
          · by_cases hs : y.size ≤ x.size
            · have hyx := HLM.out hf hs
              rw [hyx] at CYX
              obtain ⟨x0, x1⟩ := two_cells HBX9.out.1
              obtain ⟨y0, y1⟩ := two_cells HBX9.out.2.1
              obtain ⟨z0, z1⟩ := two_cells HBX9.out.2.2.1
              go_wp2_with fail
              refine (CYX.out _).mono ?_
              rintro e w9 ⟨rfl, q, os, rfl⟩
              have hbw := below_grow (Below.refl W9.heap.size W9) q os
              generalize Sort.grow (W9.drewN q) os = W10 at *
              have HBX10 := hide (HBX9.out.on hbw)
              have HB10 := hide (below_on HB9.out hbw)
              clear hbw x0 x1 y0 y1 z0 z1 HBX9 HB9
              clear a0 a1 b0 b1
              go_wp2
              go_ret
              exact ⟨rfl, HB10.out⟩
            · have hs1 : decide (y.size ≤ x.size) = false := decide_eq_false hs
              have hs2 : x.size < y.size := by omega
              go_wp2
              go_ret
              exact ⟨rfl, HB9.out⟩
          · have hf1 : decide (x.fee ≤ y.fee) = false := decide_eq_false hf
            have hf2 : y.fee < x.fee := by omega
            go_wp2
            go_ret
            exact ⟨rfl, HB9.out⟩
        | false =>
          rw [h23] at CYZ
          rw [lessW_ntrans h12 h23] at CXZ
          clear h12 h23
          obtain ⟨x0, x1⟩ := two_cells HBX4.out.1
          obtain ⟨y0, y1⟩ := two_cells HBX4.out.2.1
          obtain ⟨z0, z1⟩ := two_cells HBX4.out.2.2.1
          go_wp2_with fail
          refine (CXX.out _).mono ?_
          rintro e w9 ⟨rfl, q, os, rfl⟩
          have hbw := below_grow (Below.refl W4.heap.size W4) q os
          generalize Sort.grow (W4.drewN q) os = W5 at *
          have HBX5 := hide (HBX4.out.on hbw)
          have HB5 := hide (below_on HB4.out hbw)
          clear hbw x0 x1 y0 y1 z0 z1 HBX4 HB4
          obtain ⟨x0, x1⟩ := two_cells HBX5.out.1
          obtain ⟨y0, y1⟩ := two_cells HBX5.out.2.1
          obtain ⟨z0, z1⟩ := two_cells HBX5.out.2.2.1
          go_wp2_with fail
          refine (CXY.out _).mono ?_
          rintro e w9 ⟨rfl, q, os, rfl⟩
          have hbw := below_grow (Below.refl W5.heap.size W5) q os
          generalize Sort.grow (W5.drewN q) os = W6 at *
          have HBX6 := hide (HBX5.out.on hbw)
          have HB6 := hide (below_on HB5.out hbw)
          clear hbw x0 x1 y0 y1 z0 z1 HBX5 HB5
          obtain ⟨x0, x1⟩ := two_cells HBX6.out.1
          obtain ⟨y0, y1⟩ := two_cells HBX6.out.2.1
          obtain ⟨z0, z1⟩ := two_cells HBX6.out.2.2.1
          go_wp2_with fail
          refine (CXY.out _).mono ?_
          rintro e w9 ⟨rfl, q, os, rfl⟩
          have hbw := below_grow (Below.refl W6.heap.size W6) q os
          generalize Sort.grow (W6.drewN q) os = W7 at *
          have HBX7 := hide (HBX6.out.on hbw)
          have HB7 := hide (below_on HB6.out hbw)
          clear hbw x0 x1 y0 y1 z0 z1 HBX6 HB6
          obtain ⟨x0, x1⟩ := two_cells HBX7.out.1
          obtain ⟨y0, y1⟩ := two_cells HBX7.out.2.1
          obtain ⟨z0, z1⟩ := two_cells HBX7.out.2.2.1
          go_wp2_with fail
          refine (CXY.out _).mono ?_
          rintro e w9 ⟨rfl, q, os, rfl⟩
          have hbw := below_grow (Below.refl W7.heap.size W7) q os
          generalize Sort.grow (W7.drewN q) os = W8 at *
          have HBX8 := hide (HBX7.out.on hbw)
          have HB8 := hide (below_on HB7.out hbw)
          clear hbw x0 x1 y0 y1 z0 z1 HBX7 HB7
          obtain ⟨x0, x1⟩ := two_cells HBX8.out.1
          obtain ⟨y0, y1⟩ := two_cells HBX8.out.2.1
          obtain ⟨z0, z1⟩ := two_cells HBX8.out.2.2.1
          go_wp2_with fail
          refine (CYZ.out _).mono ?_
          rintro e w9 ⟨rfl, q, os, rfl⟩
          have hbw := below_grow (Below.refl W8.heap.size W8) q os
          generalize Sort.grow (W8.drewN q) os = W9 at *
          have HBX9 := hide (HBX8.out.on hbw)
          have HB9 := hide (below_on HB8.out hbw)
          clear hbw x0 x1 y0 y1 z0 z1 HBX8 HB8
          obtain ⟨x0, x1⟩ := two_cells HBX9.out.1
          obtain ⟨y0, y1⟩ := two_cells HBX9.out.2.1
          obtain ⟨z0, z1⟩ := two_cells HBX9.out.2.2.1
          go_wp2_with fail
          refine (CXZ.out _).mono ?_
          rintro e w9 ⟨rfl, q, os, rfl⟩
          have hbw := below_grow (Below.refl W9.heap.size W9) q os
          generalize Sort.grow (W9.drewN q) os = W10 at *
          have HBX10 := hide (HBX9.out.on hbw)
          have HB10 := hide (below_on HB9.out hbw)
          clear hbw x0 x1 y0 y1 z0 z1 HBX9 HB9
          obtain ⟨a0, a1⟩ := two_cells HBX10.out.2.2.2.1
          obtain ⟨b0, b1⟩ := two_cells HBX10.out.2.2.2.2
          by_cases hf : x.fee ≤ y.fee
          · by_cases hs : y.size ≤ x.size
            · have hyx := HLM.out hf hs
              rw [hyx] at CYX
              obtain ⟨x0, x1⟩ := two_cells HBX10.out.1
              obtain ⟨y0, y1⟩ := two_cells HBX10.out.2.1
              obtain ⟨z0, z1⟩ := two_cells HBX10.out.2.2.1
              go_wp2_with fail
              refine (CYX.out _).mono ?_
              rintro e w9 ⟨rfl, q, os, rfl⟩
              have hbw := below_grow (Below.refl W10.heap.size W10) q os
              generalize Sort.grow (W10.drewN q) os = W11 at *
              have HBX11 := hide (HBX10.out.on hbw)
              have HB11 := hide (below_on HB10.out hbw)
              clear hbw x0 x1 y0 y1 z0 z1 HBX10 HB10
              clear a0 a1 b0 b1
              go_wp2
              go_ret
              exact ⟨rfl, HB11.out⟩
            · have hs1 : decide (y.size ≤ x.size) = false := decide_eq_false hs
              have hs2 : x.size < y.size := by omega
              go_wp2
              go_ret
              exact ⟨rfl, HB10.out⟩
          · have hf1 : decide (x.fee ≤ y.fee) = false := decide_eq_false hf
            have hf2 : y.fee < x.fee := by omega
            go_wp2
            go_ret
            exact ⟨rfl, HB10.out⟩
    · go_simp
      refine hK.out _ _ ?_ (fun hHeld => ?_)
      · exact hHeld.alloc hHeld.size _
      clear hK K
      try simp only [Act.put, List.setIfInBounds_toArray, List.set_cons_zero, List.set_cons_succ]
      refine wpAnyH_ready (rs := [9]) (by kernel_rfl) (by simp) (AllReadyH.cons (o := { dst := some 8, op := Op.alloc 29, type := 0, pos := "law.go:219", after := #[], guard := none }) rfl (fun K hK => ?_) AllReadyH.nil)
      go_simp
      refine hK.out _ _ ?_ (fun hHeld => ?_)
      · exact hHeld.alloc hHeld.size _
      clear hK K
      try simp only [Act.put, List.setIfInBounds_toArray, List.set_cons_zero, List.set_cons_succ]
      refine wpAnyH_ready (rs := [12]) (by kernel_rfl) (by simp) (AllReadyH.cons (o := { dst := none, op := Op.store 29 (Operand.tmp 8) (Operand.tmp 20), type := 0, pos := "law.go:219", after := #[{ on := 9, ground := Ground.data }, { on := 2, ground := Ground.data }, { on := 0, ground := Ground.phase }, { on := 1, ground := Ground.phase }, { on := 2, ground := Ground.phase }, { on := 3, ground := Ground.textOnly Departure.lateStores }, { on := 4, ground := Ground.textOnly Departure.lateStores }, { on := 5, ground := Ground.textOnly Departure.lateStores }, { on := 6, ground := Ground.textOnly Departure.lateStores }, { on := 7, ground := Ground.textOnly Departure.lateStores }, { on := 8, ground := Ground.textOnly Departure.lateStores }, { on := 9, ground := Ground.phase }, { on := 10, ground := Ground.phase }, { on := 11, ground := Ground.phase }], guard := none }) rfl (fun K hK => ?_) AllReadyH.nil)
      obtain ⟨t0, t1, t2⟩ := three_there W 29
      generalize (((W.alloc (.cells #[.int .u64 0, .int .i64 0] 29)).alloc (.cells #[.int .u64 0, .int .i64 0] 29)).alloc (.cells #[.int .u64 0, .int .i64 0] 29)).drew = V at *
      refine step_store_row rfl 29 (.tmp 8) (.tmp 20) rfl (W.heap.size + 1 + 1) 0 (wtC x) rfl rfl t2 info_wt (wtC_one x) ?_
      refine hK.out _ _ ?_ (fun hHeld => ?_)
      · exact below_sets (by omega) _ _ _ hHeld
      clear hK K
      try simp only [Act.put]
      refine wpAnyH_ready (rs := [13]) (by kernel_rfl) (by simp) (AllReadyH.cons (o := { dst := none, op := Op.store 29 (Operand.tmp 9) (Operand.tmp 23), type := 0, pos := "law.go:219", after := #[{ on := 10, ground := Ground.data }, { on := 5, ground := Ground.data }, { on := 12, ground := Ground.chain }, { on := 0, ground := Ground.phase }, { on := 1, ground := Ground.phase }, { on := 2, ground := Ground.phase }, { on := 3, ground := Ground.phase }, { on := 4, ground := Ground.phase }, { on := 5, ground := Ground.phase }, { on := 6, ground := Ground.textOnly Departure.lateStores }, { on := 7, ground := Ground.textOnly Departure.lateStores }, { on := 8, ground := Ground.textOnly Departure.lateStores }, { on := 9, ground := Ground.phase }, { on := 10, ground := Ground.phase }, { on := 11, ground := Ground.phase }, { on := 12, ground := Ground.phase }], guard := none }) rfl (fun K hK => ?_) AllReadyH.nil)
      refine step_store_row rfl 29 (.tmp 9) (.tmp 23) rfl (W.heap.size + 1) 0 (wtC y) rfl rfl (there_apart t1 (by omega) _ _) info_wt (wtC_one y) ?_
      refine hK.out _ _ ?_ (fun hHeld => ?_)
      · exact below_sets (by omega) _ _ _ hHeld
      clear hK K
      try simp only [Act.put]
      refine wpAnyH_ready (rs := [14]) (by kernel_rfl) (by simp) (AllReadyH.cons (o := { dst := none, op := Op.store 29 (Operand.tmp 10) (Operand.tmp 26), type := 0, pos := "law.go:219", after := #[{ on := 11, ground := Ground.data }, { on := 8, ground := Ground.data }, { on := 13, ground := Ground.chain }, { on := 0, ground := Ground.phase }, { on := 1, ground := Ground.phase }, { on := 2, ground := Ground.phase }, { on := 3, ground := Ground.phase }, { on := 4, ground := Ground.phase }, { on := 5, ground := Ground.phase }, { on := 6, ground := Ground.phase }, { on := 7, ground := Ground.phase }, { on := 8, ground := Ground.phase }, { on := 9, ground := Ground.phase }, { on := 10, ground := Ground.phase }, { on := 11, ground := Ground.phase }, { on := 12, ground := Ground.phase }, { on := 13, ground := Ground.phase }], guard := none }) rfl (fun K hK => ?_) AllReadyH.nil)
      refine step_store_row rfl 29 (.tmp 10) (.tmp 26) rfl (W.heap.size) 0 (wtC z) rfl rfl (there_apart (there_apart t0 (by omega) _ _) (by omega) _ _) info_wt (wtC_one z) ?_
      refine hK.out _ _ ?_ (fun hHeld => ?_)
      · exact below_sets (by omega) _ _ _ hHeld
      clear hK K
      try simp only [Act.put]
      refine wpAnyH_done (by kernel_rfl) ?_ _
      have HBX := hide (show Boxes (((V.setCells (W.heap.size + 1 + 1) 0 (wtC x)).setCells (W.heap.size + 1) 0 (wtC y)).setCells (W.heap.size) 0 (wtC z)) (W.heap.size + 1 + 1) (W.heap.size + 1) (W.heap.size) ga (ga + 1) x y z from ⟨range_apart (range_apart (World.rangeAt_setCells_same V (W.heap.size + 1 + 1) 0 (wtC x) t2) (by omega) 0 (wtC y)) (by omega) 0 (wtC z), range_apart (World.rangeAt_setCells_same (V.setCells (W.heap.size + 1 + 1) 0 (wtC x)) (W.heap.size + 1) 0 (wtC y) (there_apart t1 (by omega) _ _)) (by omega) 0 (wtC z), World.rangeAt_setCells_same ((V.setCells (W.heap.size + 1 + 1) 0 (wtC x)).setCells (W.heap.size + 1) 0 (wtC y)) (W.heap.size) 0 (wtC z) (there_apart (there_apart t0 (by omega) _ _) (by omega) _ _), range_on HXA3.out.1 hHeld, range_on HXA3.out.2 hHeld⟩)
      have HB4 := hide (below_on HB3.out hHeld)
      clear hHeld t0 t1 t2 HM HXA3 HB3
      generalize (((V.setCells (W.heap.size + 1 + 1) 0 (wtC x)).setCells (W.heap.size + 1) 0 (wtC y)).setCells (W.heap.size) 0 (wtC z)) = W4 at *
      generalize W.heap.size + 1 + 1 = g2 at *
      generalize W.heap.size + 1 = g1 at *
      generalize W.heap.size = g0 at *
      have HBX4 := HBX
      clear HBX
      cases h12 : lessW x y with
      | true =>
        rw [h12] at CXY
        have h21 := lessW_one h12
        cases h23 : lessW y z with
        | true =>
          rw [h23] at CYZ
          rw [lessW_trans h12 h23] at CXZ
          have CYX0 := CYX
          rw [h21] at CYX0
          clear h12 h21 h23
          obtain ⟨x0, x1⟩ := two_cells HBX4.out.1
          obtain ⟨y0, y1⟩ := two_cells HBX4.out.2.1
          obtain ⟨z0, z1⟩ := two_cells HBX4.out.2.2.1
          go_wp2_with fail
          refine (CXX.out _).mono ?_
          rintro e w9 ⟨rfl, q, os, rfl⟩
          have hbw := below_grow (Below.refl W4.heap.size W4) q os
          generalize Sort.grow (W4.drewN q) os = W5 at *
          have HBX5 := hide (HBX4.out.on hbw)
          have HB5 := hide (below_on HB4.out hbw)
          clear hbw x0 x1 y0 y1 z0 z1 HBX4 HB4
          obtain ⟨x0, x1⟩ := two_cells HBX5.out.1
          obtain ⟨y0, y1⟩ := two_cells HBX5.out.2.1
          obtain ⟨z0, z1⟩ := two_cells HBX5.out.2.2.1
          go_wp2_with fail
          refine (CXY.out _).mono ?_
          rintro e w9 ⟨rfl, q, os, rfl⟩
          have hbw := below_grow (Below.refl W5.heap.size W5) q os
          generalize Sort.grow (W5.drewN q) os = W6 at *
          have HBX6 := hide (HBX5.out.on hbw)
          have HB6 := hide (below_on HB5.out hbw)
          clear hbw x0 x1 y0 y1 z0 z1 HBX5 HB5
          obtain ⟨x0, x1⟩ := two_cells HBX6.out.1
          obtain ⟨y0, y1⟩ := two_cells HBX6.out.2.1
          obtain ⟨z0, z1⟩ := two_cells HBX6.out.2.2.1
          go_wp2_with fail
          refine (CYX0.out _).mono ?_
          rintro e w9 ⟨rfl, q, os, rfl⟩
          have hbw := below_grow (Below.refl W6.heap.size W6) q os
          generalize Sort.grow (W6.drewN q) os = W7 at *
          have HBX7 := hide (HBX6.out.on hbw)
          have HB7 := hide (below_on HB6.out hbw)
          clear hbw x0 x1 y0 y1 z0 z1 HBX6 HB6
          obtain ⟨x0, x1⟩ := two_cells HBX7.out.1
          obtain ⟨y0, y1⟩ := two_cells HBX7.out.2.1
          obtain ⟨z0, z1⟩ := two_cells HBX7.out.2.2.1
          go_wp2_with fail
          refine (CXY.out _).mono ?_
          rintro e w9 ⟨rfl, q, os, rfl⟩
          have hbw := below_grow (Below.refl W7.heap.size W7) q os
          generalize Sort.grow (W7.drewN q) os = W8 at *
          have HBX8 := hide (HBX7.out.on hbw)
          have HB8 := hide (below_on HB7.out hbw)
          clear hbw x0 x1 y0 y1 z0 z1 HBX7 HB7
          obtain ⟨x0, x1⟩ := two_cells HBX8.out.1
          obtain ⟨y0, y1⟩ := two_cells HBX8.out.2.1
          obtain ⟨z0, z1⟩ := two_cells HBX8.out.2.2.1
          go_wp2_with fail
          refine (CYZ.out _).mono ?_
          rintro e w9 ⟨rfl, q, os, rfl⟩
          have hbw := below_grow (Below.refl W8.heap.size W8) q os
          generalize Sort.grow (W8.drewN q) os = W9 at *
          have HBX9 := hide (HBX8.out.on hbw)
          have HB9 := hide (below_on HB8.out hbw)
          clear hbw x0 x1 y0 y1 z0 z1 HBX8 HB8
          obtain ⟨x0, x1⟩ := two_cells HBX9.out.1
          obtain ⟨y0, y1⟩ := two_cells HBX9.out.2.1
          obtain ⟨z0, z1⟩ := two_cells HBX9.out.2.2.1
          go_wp2_with fail
          refine (CXZ.out _).mono ?_
          rintro e w9 ⟨rfl, q, os, rfl⟩
          have hbw := below_grow (Below.refl W9.heap.size W9) q os
          generalize Sort.grow (W9.drewN q) os = W10 at *
          have HBX10 := hide (HBX9.out.on hbw)
          have HB10 := hide (below_on HB9.out hbw)
          clear hbw x0 x1 y0 y1 z0 z1 HBX9 HB9
          obtain ⟨x0, x1⟩ := two_cells HBX10.out.1
          obtain ⟨y0, y1⟩ := two_cells HBX10.out.2.1
          obtain ⟨z0, z1⟩ := two_cells HBX10.out.2.2.1
          go_wp2_with fail
          refine (CXY.out _).mono ?_
          rintro e w9 ⟨rfl, q, os, rfl⟩
          have hbw := below_grow (Below.refl W10.heap.size W10) q os
          generalize Sort.grow (W10.drewN q) os = W11 at *
          have HBX11 := hide (HBX10.out.on hbw)
          have HB11 := hide (below_on HB10.out hbw)
          clear hbw x0 x1 y0 y1 z0 z1 HBX10 HB10
          obtain ⟨a0, a1⟩ := two_cells HBX11.out.2.2.2.1
          obtain ⟨b0, b1⟩ := two_cells HBX11.out.2.2.2.2
          by_cases hf : x.fee ≤ y.fee
          · by_cases hs : y.size ≤ x.size
            · have hyx := HLM.out hf hs
              rw [hyx] at CYX
              obtain ⟨x0, x1⟩ := two_cells HBX11.out.1
              obtain ⟨y0, y1⟩ := two_cells HBX11.out.2.1
              obtain ⟨z0, z1⟩ := two_cells HBX11.out.2.2.1
              go_wp2_with fail
              refine (CYX.out _).mono ?_
              rintro e w9 ⟨rfl, q, os, rfl⟩
              have hbw := below_grow (Below.refl W11.heap.size W11) q os
              generalize Sort.grow (W11.drewN q) os = W12 at *
              have HBX12 := hide (HBX11.out.on hbw)
              have HB12 := hide (below_on HB11.out hbw)
              clear hbw x0 x1 y0 y1 z0 z1 HBX11 HB11
              clear a0 a1 b0 b1
              go_wp2
              go_ret
              exact ⟨rfl, HB12.out⟩
            · have hs1 : decide (y.size ≤ x.size) = false := decide_eq_false hs
              have hs2 : x.size < y.size := by omega
              go_wp2
              go_ret
              exact ⟨rfl, HB11.out⟩
          · have hf1 : decide (x.fee ≤ y.fee) = false := decide_eq_false hf
            have hf2 : y.fee < x.fee := by omega
            go_wp2
            go_ret
            exact ⟨rfl, HB11.out⟩
        | false =>
          rw [h23] at CYZ
          have CYX0 := CYX
          rw [h21] at CYX0
          clear h12 h21 h23
          obtain ⟨x0, x1⟩ := two_cells HBX4.out.1
          obtain ⟨y0, y1⟩ := two_cells HBX4.out.2.1
          obtain ⟨z0, z1⟩ := two_cells HBX4.out.2.2.1
          go_wp2_with fail
          refine (CXX.out _).mono ?_
          rintro e w9 ⟨rfl, q, os, rfl⟩
          have hbw := below_grow (Below.refl W4.heap.size W4) q os
          generalize Sort.grow (W4.drewN q) os = W5 at *
          have HBX5 := hide (HBX4.out.on hbw)
          have HB5 := hide (below_on HB4.out hbw)
          clear hbw x0 x1 y0 y1 z0 z1 HBX4 HB4
          obtain ⟨x0, x1⟩ := two_cells HBX5.out.1
          obtain ⟨y0, y1⟩ := two_cells HBX5.out.2.1
          obtain ⟨z0, z1⟩ := two_cells HBX5.out.2.2.1
          go_wp2_with fail
          refine (CXY.out _).mono ?_
          rintro e w9 ⟨rfl, q, os, rfl⟩
          have hbw := below_grow (Below.refl W5.heap.size W5) q os
          generalize Sort.grow (W5.drewN q) os = W6 at *
          have HBX6 := hide (HBX5.out.on hbw)
          have HB6 := hide (below_on HB5.out hbw)
          clear hbw x0 x1 y0 y1 z0 z1 HBX5 HB5
          obtain ⟨x0, x1⟩ := two_cells HBX6.out.1
          obtain ⟨y0, y1⟩ := two_cells HBX6.out.2.1
          obtain ⟨z0, z1⟩ := two_cells HBX6.out.2.2.1
          go_wp2_with fail
          refine (CYX0.out _).mono ?_
          rintro e w9 ⟨rfl, q, os, rfl⟩
          have hbw := below_grow (Below.refl W6.heap.size W6) q os
          generalize Sort.grow (W6.drewN q) os = W7 at *
          have HBX7 := hide (HBX6.out.on hbw)
          have HB7 := hide (below_on HB6.out hbw)
          clear hbw x0 x1 y0 y1 z0 z1 HBX6 HB6
          obtain ⟨x0, x1⟩ := two_cells HBX7.out.1
          obtain ⟨y0, y1⟩ := two_cells HBX7.out.2.1
          obtain ⟨z0, z1⟩ := two_cells HBX7.out.2.2.1
          go_wp2_with fail
          refine (CXY.out _).mono ?_
          rintro e w9 ⟨rfl, q, os, rfl⟩
          have hbw := below_grow (Below.refl W7.heap.size W7) q os
          generalize Sort.grow (W7.drewN q) os = W8 at *
          have HBX8 := hide (HBX7.out.on hbw)
          have HB8 := hide (below_on HB7.out hbw)
          clear hbw x0 x1 y0 y1 z0 z1 HBX7 HB7
          obtain ⟨x0, x1⟩ := two_cells HBX8.out.1
          obtain ⟨y0, y1⟩ := two_cells HBX8.out.2.1
          obtain ⟨z0, z1⟩ := two_cells HBX8.out.2.2.1
          go_wp2_with fail
          refine (CYZ.out _).mono ?_
          rintro e w9 ⟨rfl, q, os, rfl⟩
          have hbw := below_grow (Below.refl W8.heap.size W8) q os
          generalize Sort.grow (W8.drewN q) os = W9 at *
          have HBX9 := hide (HBX8.out.on hbw)
          have HB9 := hide (below_on HB8.out hbw)
          clear hbw x0 x1 y0 y1 z0 z1 HBX8 HB8
          obtain ⟨x0, x1⟩ := two_cells HBX9.out.1
          obtain ⟨y0, y1⟩ := two_cells HBX9.out.2.1
          obtain ⟨z0, z1⟩ := two_cells HBX9.out.2.2.1
          go_wp2_with fail
          refine (CXY.out _).mono ?_
          rintro e w9 ⟨rfl, q, os, rfl⟩
          have hbw := below_grow (Below.refl W9.heap.size W9) q os
          generalize Sort.grow (W9.drewN q) os = W10 at *
          have HBX10 := hide (HBX9.out.on hbw)
          have HB10 := hide (below_on HB9.out hbw)
          clear hbw x0 x1 y0 y1 z0 z1 HBX9 HB9
          obtain ⟨a0, a1⟩ := two_cells HBX10.out.2.2.2.1
          obtain ⟨b0, b1⟩ := two_cells HBX10.out.2.2.2.2
          by_cases hf : x.fee ≤ y.fee
          · by_cases hs : y.size ≤ x.size
            · have hyx := HLM.out hf hs
              rw [hyx] at CYX
              obtain ⟨x0, x1⟩ := two_cells HBX10.out.1
              obtain ⟨y0, y1⟩ := two_cells HBX10.out.2.1
              obtain ⟨z0, z1⟩ := two_cells HBX10.out.2.2.1
              go_wp2_with fail
              refine (CYX.out _).mono ?_
              rintro e w9 ⟨rfl, q, os, rfl⟩
              have hbw := below_grow (Below.refl W10.heap.size W10) q os
              generalize Sort.grow (W10.drewN q) os = W11 at *
              have HBX11 := hide (HBX10.out.on hbw)
              have HB11 := hide (below_on HB10.out hbw)
              clear hbw x0 x1 y0 y1 z0 z1 HBX10 HB10
              clear a0 a1 b0 b1
              go_wp2
              go_ret
              exact ⟨rfl, HB11.out⟩
            · have hs1 : decide (y.size ≤ x.size) = false := decide_eq_false hs
              have hs2 : x.size < y.size := by omega
              go_wp2
              go_ret
              exact ⟨rfl, HB10.out⟩
          · have hf1 : decide (x.fee ≤ y.fee) = false := decide_eq_false hf
            have hf2 : y.fee < x.fee := by omega
            go_wp2
            go_ret
            exact ⟨rfl, HB10.out⟩
      | false =>
        rw [h12] at CXY
        cases h23 : lessW y z with
        | true =>
          rw [h23] at CYZ
          clear h12 h23
          obtain ⟨x0, x1⟩ := two_cells HBX4.out.1
          obtain ⟨y0, y1⟩ := two_cells HBX4.out.2.1
          obtain ⟨z0, z1⟩ := two_cells HBX4.out.2.2.1
          go_wp2_with fail
          refine (CXX.out _).mono ?_
          rintro e w9 ⟨rfl, q, os, rfl⟩
          have hbw := below_grow (Below.refl W4.heap.size W4) q os
          generalize Sort.grow (W4.drewN q) os = W5 at *
          have HBX5 := hide (HBX4.out.on hbw)
          have HB5 := hide (below_on HB4.out hbw)
          clear hbw x0 x1 y0 y1 z0 z1 HBX4 HB4
          obtain ⟨x0, x1⟩ := two_cells HBX5.out.1
          obtain ⟨y0, y1⟩ := two_cells HBX5.out.2.1
          obtain ⟨z0, z1⟩ := two_cells HBX5.out.2.2.1
          go_wp2_with fail
          refine (CXY.out _).mono ?_
          rintro e w9 ⟨rfl, q, os, rfl⟩
          have hbw := below_grow (Below.refl W5.heap.size W5) q os
          generalize Sort.grow (W5.drewN q) os = W6 at *
          have HBX6 := hide (HBX5.out.on hbw)
          have HB6 := hide (below_on HB5.out hbw)
          clear hbw x0 x1 y0 y1 z0 z1 HBX5 HB5
          obtain ⟨x0, x1⟩ := two_cells HBX6.out.1
          obtain ⟨y0, y1⟩ := two_cells HBX6.out.2.1
          obtain ⟨z0, z1⟩ := two_cells HBX6.out.2.2.1
          go_wp2_with fail
          refine (CXY.out _).mono ?_
          rintro e w9 ⟨rfl, q, os, rfl⟩
          have hbw := below_grow (Below.refl W6.heap.size W6) q os
          generalize Sort.grow (W6.drewN q) os = W7 at *
          have HBX7 := hide (HBX6.out.on hbw)
          have HB7 := hide (below_on HB6.out hbw)
          clear hbw x0 x1 y0 y1 z0 z1 HBX6 HB6
          obtain ⟨x0, x1⟩ := two_cells HBX7.out.1
          obtain ⟨y0, y1⟩ := two_cells HBX7.out.2.1
          obtain ⟨z0, z1⟩ := two_cells HBX7.out.2.2.1
          go_wp2_with fail
          refine (CXY.out _).mono ?_
          rintro e w9 ⟨rfl, q, os, rfl⟩
          have hbw := below_grow (Below.refl W7.heap.size W7) q os
          generalize Sort.grow (W7.drewN q) os = W8 at *
          have HBX8 := hide (HBX7.out.on hbw)
          have HB8 := hide (below_on HB7.out hbw)
          clear hbw x0 x1 y0 y1 z0 z1 HBX7 HB7
          obtain ⟨x0, x1⟩ := two_cells HBX8.out.1
          obtain ⟨y0, y1⟩ := two_cells HBX8.out.2.1
          obtain ⟨z0, z1⟩ := two_cells HBX8.out.2.2.1
          go_wp2_with fail
          refine (CYZ.out _).mono ?_
          rintro e w9 ⟨rfl, q, os, rfl⟩
          have hbw := below_grow (Below.refl W8.heap.size W8) q os
          generalize Sort.grow (W8.drewN q) os = W9 at *
          have HBX9 := hide (HBX8.out.on hbw)
          have HB9 := hide (below_on HB8.out hbw)
          clear hbw x0 x1 y0 y1 z0 z1 HBX8 HB8
          obtain ⟨a0, a1⟩ := two_cells HBX9.out.2.2.2.1
          obtain ⟨b0, b1⟩ := two_cells HBX9.out.2.2.2.2
          by_cases hf : x.fee ≤ y.fee
          · by_cases hs : y.size ≤ x.size
            · have hyx := HLM.out hf hs
              rw [hyx] at CYX
              obtain ⟨x0, x1⟩ := two_cells HBX9.out.1
              obtain ⟨y0, y1⟩ := two_cells HBX9.out.2.1
              obtain ⟨z0, z1⟩ := two_cells HBX9.out.2.2.1
              go_wp2_with fail
              refine (CYX.out _).mono ?_
              rintro e w9 ⟨rfl, q, os, rfl⟩
              have hbw := below_grow (Below.refl W9.heap.size W9) q os
              generalize Sort.grow (W9.drewN q) os = W10 at *
              have HBX10 := hide (HBX9.out.on hbw)
              have HB10 := hide (below_on HB9.out hbw)
              clear hbw x0 x1 y0 y1 z0 z1 HBX9 HB9
              clear a0 a1 b0 b1
              go_wp2
              go_ret
              exact ⟨rfl, HB10.out⟩
            · have hs1 : decide (y.size ≤ x.size) = false := decide_eq_false hs
              have hs2 : x.size < y.size := by omega
              go_wp2
              go_ret
              exact ⟨rfl, HB9.out⟩
          · have hf1 : decide (x.fee ≤ y.fee) = false := decide_eq_false hf
            have hf2 : y.fee < x.fee := by omega
            go_wp2
            go_ret
            exact ⟨rfl, HB9.out⟩
        | false =>
          rw [h23] at CYZ
          rw [lessW_ntrans h12 h23] at CXZ
          clear h12 h23
          obtain ⟨x0, x1⟩ := two_cells HBX4.out.1
          obtain ⟨y0, y1⟩ := two_cells HBX4.out.2.1
          obtain ⟨z0, z1⟩ := two_cells HBX4.out.2.2.1
          go_wp2_with fail
          refine (CXX.out _).mono ?_
          rintro e w9 ⟨rfl, q, os, rfl⟩
          have hbw := below_grow (Below.refl W4.heap.size W4) q os
          generalize Sort.grow (W4.drewN q) os = W5 at *
          have HBX5 := hide (HBX4.out.on hbw)
          have HB5 := hide (below_on HB4.out hbw)
          clear hbw x0 x1 y0 y1 z0 z1 HBX4 HB4
          obtain ⟨x0, x1⟩ := two_cells HBX5.out.1
          obtain ⟨y0, y1⟩ := two_cells HBX5.out.2.1
          obtain ⟨z0, z1⟩ := two_cells HBX5.out.2.2.1
          go_wp2_with fail
          refine (CXY.out _).mono ?_
          rintro e w9 ⟨rfl, q, os, rfl⟩
          have hbw := below_grow (Below.refl W5.heap.size W5) q os
          generalize Sort.grow (W5.drewN q) os = W6 at *
          have HBX6 := hide (HBX5.out.on hbw)
          have HB6 := hide (below_on HB5.out hbw)
          clear hbw x0 x1 y0 y1 z0 z1 HBX5 HB5
          obtain ⟨x0, x1⟩ := two_cells HBX6.out.1
          obtain ⟨y0, y1⟩ := two_cells HBX6.out.2.1
          obtain ⟨z0, z1⟩ := two_cells HBX6.out.2.2.1
          go_wp2_with fail
          refine (CXY.out _).mono ?_
          rintro e w9 ⟨rfl, q, os, rfl⟩
          have hbw := below_grow (Below.refl W6.heap.size W6) q os
          generalize Sort.grow (W6.drewN q) os = W7 at *
          have HBX7 := hide (HBX6.out.on hbw)
          have HB7 := hide (below_on HB6.out hbw)
          clear hbw x0 x1 y0 y1 z0 z1 HBX6 HB6
          obtain ⟨x0, x1⟩ := two_cells HBX7.out.1
          obtain ⟨y0, y1⟩ := two_cells HBX7.out.2.1
          obtain ⟨z0, z1⟩ := two_cells HBX7.out.2.2.1
          go_wp2_with fail
          refine (CXY.out _).mono ?_
          rintro e w9 ⟨rfl, q, os, rfl⟩
          have hbw := below_grow (Below.refl W7.heap.size W7) q os
          generalize Sort.grow (W7.drewN q) os = W8 at *
          have HBX8 := hide (HBX7.out.on hbw)
          have HB8 := hide (below_on HB7.out hbw)
          clear hbw x0 x1 y0 y1 z0 z1 HBX7 HB7
          obtain ⟨x0, x1⟩ := two_cells HBX8.out.1
          obtain ⟨y0, y1⟩ := two_cells HBX8.out.2.1
          obtain ⟨z0, z1⟩ := two_cells HBX8.out.2.2.1
          go_wp2_with fail
          refine (CYZ.out _).mono ?_
          rintro e w9 ⟨rfl, q, os, rfl⟩
          have hbw := below_grow (Below.refl W8.heap.size W8) q os
          generalize Sort.grow (W8.drewN q) os = W9 at *
          have HBX9 := hide (HBX8.out.on hbw)
          have HB9 := hide (below_on HB8.out hbw)
          clear hbw x0 x1 y0 y1 z0 z1 HBX8 HB8
          obtain ⟨x0, x1⟩ := two_cells HBX9.out.1
          obtain ⟨y0, y1⟩ := two_cells HBX9.out.2.1
          obtain ⟨z0, z1⟩ := two_cells HBX9.out.2.2.1
          go_wp2_with fail
          refine (CXZ.out _).mono ?_
          rintro e w9 ⟨rfl, q, os, rfl⟩
          have hbw := below_grow (Below.refl W9.heap.size W9) q os
          generalize Sort.grow (W9.drewN q) os = W10 at *
          have HBX10 := hide (HBX9.out.on hbw)
          have HB10 := hide (below_on HB9.out hbw)
          clear hbw x0 x1 y0 y1 z0 z1 HBX9 HB9
          obtain ⟨a0, a1⟩ := two_cells HBX10.out.2.2.2.1
          obtain ⟨b0, b1⟩ := two_cells HBX10.out.2.2.2.2
          by_cases hf : x.fee ≤ y.fee
          · by_cases hs : y.size ≤ x.size
            · have hyx := HLM.out hf hs
              rw [hyx] at CYX
              obtain ⟨x0, x1⟩ := two_cells HBX10.out.1
              obtain ⟨y0, y1⟩ := two_cells HBX10.out.2.1
              obtain ⟨z0, z1⟩ := two_cells HBX10.out.2.2.1
              go_wp2_with fail
              refine (CYX.out _).mono ?_
              rintro e w9 ⟨rfl, q, os, rfl⟩
              have hbw := below_grow (Below.refl W10.heap.size W10) q os
              generalize Sort.grow (W10.drewN q) os = W11 at *
              have HBX11 := hide (HBX10.out.on hbw)
              have HB11 := hide (below_on HB10.out hbw)
              clear hbw x0 x1 y0 y1 z0 z1 HBX10 HB10
              clear a0 a1 b0 b1
              go_wp2
              go_ret
              exact ⟨rfl, HB11.out⟩
            · have hs1 : decide (y.size ≤ x.size) = false := decide_eq_false hs
              have hs2 : x.size < y.size := by omega
              go_wp2
              go_ret
              exact ⟨rfl, HB10.out⟩
          · have hf1 : decide (x.fee ≤ y.fee) = false := decide_eq_false hf
            have hf2 : y.fee < x.fee := by omega
            go_wp2
            go_ret
            exact ⟨rfl, HB10.out⟩

set_option maxRecDepth 100000 in
theorem feeLess_lifted (os : Os) (started : os.Started) (H : Type) (enc : TypeId × Value → H) :
    ReturnsInHanded {} Tryd.checked os 3 .any (fun w args => (Rows.feeLessSpec.pre enc Tryd.prog Tryd.f3 [] false w args ∧ laidMetH Tryd.prog laid1 w) ∧ sizedMet enc Tryd.prog Tryd.f3 (OpenSpec.ofChange Rows.feeLessSpec) false w args)
      (Rows.feeLessSpec.post enc Tryd.prog Tryd.f3 false true false false) := by
  refine returnsInHanded_of_change_and (C := Tryd.checked) (X := fun w _ => laidMetH Tryd.prog laid1 w) (fun _ _ _ hh h => h.of_heap hh) own started (by kernel_rfl) Tryd.func3
    (ChangeSpec.witness_shaped (enc := enc) (C := Tryd.checked) (os := os) (X := fun w _ => laidMetH Tryd.prog laid1 w) false (World.doorLaid Tryd.prog 14 os) #[.agg #[.int .u64 0, .int .i64 0], .agg #[.int .u64 0, .int .i64 0], .agg #[.int .u64 0, .int .i64 0]] 8 rfl (World.shaped_of_RefB (by kernel_rfl) (by kernel_rfl)) (by kernel_rfl) (by kernel_rfl) (by kernel_rfl) (door_met os _)) ?_
  intro W base args ds gs before hval0 hW _ _ hL _
  have hval : ∀ (j : Nat) t v, Tryd.f3.params[j]? = some t → args[j]? = some v → Value.okWide Tryd.prog W .any base t v := hval0
  have hW' := hW
  obtain ⟨p, q, hA0, hV, rfl, hfz, hnd⟩ := hW
  have hA : DataW.TrodAll enc Tryd.prog W 0 (fun _ => true) true Tryd.f3.params.toList args.toList ds p := hA0
  rw [Tryd.params3] at hA hval
  obtain ⟨v0, vs0, d0, ds0, p0, q0, hargs, rfl, rfl, h0, r0⟩ := trodAll_cons hA
  obtain ⟨v1, vs1, d1, ds1, p1, q1, rfl, rfl, rfl, h1, r1⟩ := trodAll_cons r0
  obtain ⟨v2, vs2, d2, ds2, p2, q2, rfl, rfl, rfl, h2, r2⟩ := trodAll_cons r1
  obtain ⟨rfl, rfl, rfl⟩ := trodAll_nil r2
  obtain rfl : args = #[v0, v1, v2] := by cases args; simp_all
  obtain ⟨rfl, rfl⟩ := trodVars_none hV
  have k0 := h0
  have lt0 : ∀ x ∈ p0, x.block < W.heap.size := by obtain ⟨m, hm⟩ := k0; exact DataW.trod_lt m _ _ _ hm
  obtain ⟨l0, rfl, w0⟩ := wt_arg (hval 0 24 v0 rfl rfl) h0
  have k1 := h1
  have lt1 : ∀ x ∈ p1, x.block < W.heap.size := by obtain ⟨m, hm⟩ := k1; exact DataW.trod_lt m _ _ _ hm
  obtain ⟨l1, rfl, w1⟩ := wt_arg (hval 1 24 v1 rfl rfl) h1
  have k2 := h2
  have lt2 : ∀ x ∈ p2, x.block < W.heap.size := by obtain ⟨m, hm⟩ := k2; exact DataW.trod_lt m _ _ _ hm
  obtain ⟨l2, rfl, w2⟩ := wt_arg (hval 2 24 v2 rfl rfl) h2
  clear hA0 hval0
  refine (feeLess_walk (w := W) (ks_of_laid hL) l0 w0 l1 w1 l2 w2).mono fun e W' ⟨he, bel⟩ => ?_
  subst he
  exact ⟨_, rfl, _, _, _, [], _, [], hW', trodAll_mk1 (shut_bool Tryd.underlying4 _), (trodAll_cons_mk (Below.trod laidOut (by kernel_rfl) (of_decide_eq_true (by kernel_rfl)) k0 bel lt0) (trodAll_cons_mk (Below.trod laidOut (by kernel_rfl) (of_decide_eq_true (by kernel_rfl)) k1 bel lt1) (trodAll_cons_mk (Below.trod laidOut (by kernel_rfl) (of_decide_eq_true (by kernel_rfl)) k2 bel lt2) trodAll_mk0))), rfl, bel.frame _, fun h => by cases h⟩

theorem feeLess_holds : Rows.FeeLessSaid :=
  OpenClaim.holds_of_wide 3 Tryd.f3 rfl rfl rfl rfl rfl rfl rfl ⟨rfl, rfl, rfl, rfl, rfl⟩ rfl rfl rfl rfl rfl (by kernel_rfl) Tryd.func3 (by kernel_rfl)
    (of_decide_eq_true (by kernel_rfl)) (by unfold Func.isWrapper; first | (rw [if_pos (by decide +kernel)]; kernel_rfl) | (rw [if_neg (by decide +kernel)]; exact ⟨rfl, rfl⟩))
    (fun os started H enc _ => feeLess_lifted os started H enc)
#print axioms feeLess_holds
theorem feeLess_card : Rows.FeeLessCardSaid :=
  Claim7.holds_tied_plain_at .later [] [.data] true (true, "eddde559ab52757c4675ab0e4b17f8dddaf60b994cbb0901cdbb52561b7b926c") false
    feeLess_holds (fun _ h => by cases h) (by kernel_rfl) (fun _ h => by cases h) feeLess_row_tie rfl ⟨rfl, rfl⟩ (by kernel_rfl) rfl
    (fun f fn hf hfn => by
      obtain rfl : f = 3 := Option.some.inj ((show Tryd.prog.funcNamed "pappus/pappuslaw10.FeeLess" = some 3 by kernel_rfl).symm.trans hf) |>.symm
      obtain rfl : fn = Tryd.f3 := (Option.some.inj (Tryd.func3.symm.trans hfn)).symm
      exact ⟨by kernel_rfl, fun j t ht => by
        rw [Tryd.params3] at ht
        have hm : t ∈ [24, 24, 24] := by simpa using Array.mem_of_getElem? ht
        have hall : ([24, 24, 24].all fun u => !Tryd.prog.wantsStandIn u) = true := by kernel_rfl
        exact (show Tryd.prog.wantsStandIn t = false by simpa using List.all_eq_true.1 hall t hm)⟩)
    (by kernel_rfl)
#print axioms feeLess_card
end Go.Proofs.YtbeegcpmpgdbnabDoor
