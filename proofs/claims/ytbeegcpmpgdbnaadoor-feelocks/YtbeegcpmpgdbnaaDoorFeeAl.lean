/-
  What pappuslaw10.alive answers at this program: true.
-/
import Derived.Test.YtbeegcpmpgdbnaaDoorFeeAlP
import Derived.Test.YtbeegcpmpgdbnaaDoorFeeB
import Derived.Test.YtbeegcpmpgdbnaaDoorStepB
import Derived.Test.YtbeegcpmpgdbnaaDoorFolds
namespace Go.Proofs.YtbeegcpmpgdbnaaDoor
open Go.RowKit

theorem alive10_row (w : World) : RowAt (w.alloc (.cells #[.int .u64 5, .int .i64 10, .int .u64 6, .int .i64 10, .int .u64 1, .int .i64 2] 53)) 2 (.slice (some ⟨w.heap.size, 0, none⟩) 3 3) (liveW.map wtC) := by
  have hr := range_new w [.int .u64 5, .int .i64 10, .int .u64 6, .int .i64 10, .int .u64 1, .int .i64 2] 53
  refine ⟨_, 3, rfl, by decide, by omega, by simp, fun _ => ⟨_, 0, rfl, fun i d hi j u hu => ?_⟩⟩
  have hi3 : i < 3 := (List.getElem?_eq_some_iff.1 hi).1
  have hj2 : j < 2 := by
    have h1 := (List.getElem?_eq_some_iff.1 hu).1
    have h2 : d ∈ liveW.map wtC := List.mem_of_getElem? hi
    obtain ⟨x, _, rfl⟩ := List.mem_map.1 h2
    exact h1
  rcases (show i = 0 ∨ i = 1 ∨ i = 2 by omega) with rfl | rfl | rfl <;> simp only [liveW, List.map_cons, List.map_nil, List.getElem?_cons_zero, List.getElem?_cons_succ, Option.some.injEq] at hi <;> subst hi <;> rcases (show j = 0 ∨ j = 1 by omega) with rfl | rfl <;> simp only [wtC, List.getElem?_cons_zero, List.getElem?_cons_succ, Option.some.injEq] at hu <;> subst hu
  · exact hr 0 _ rfl
  · exact hr 1 _ rfl
  · exact hr 2 _ rfl
  · exact hr 3 _ rfl
  · exact hr 4 _ rfl
  · exact hr 5 _ rfl
set_option maxRecDepth 100000 in
set_option maxHeartbeats 4000000 in
theorem alive10_any (w : World) (hks : Ks w) : Calls Tryd.prog 9 #[] w fun e w' => e = .returned (.bool true) ∧ Below w.heap.size w w' := by
  have hnm : (Tryd.f13.name == "runtime.NumGoroutine") = false := by kernel_rfl
  have hbd : Tryd.f13.body.isNone = false := by kernel_rfl
  have hnm2 : (Tryd.f11.name == "runtime.NumGoroutine") = false := by kernel_rfl
  have hbd2 : Tryd.f11.body.isNone = false := by kernel_rfl
  have CL := hide (fun w v (h : Bytes w v [5]) (k : Ks w) => lock_any w v [5] h k (by decide))
  have CO := hide (fun w iv ov pv (h : TxAt w iv ov liveT) (ho : OutsAt w pv liveP) (k : Ks w) => of_any liveT iv ov pv liveP w h ho liveT_ok (fun x hx => ⟨(liveP_ok x hx).2, (liveP_ok x hx).1, by
    obtain rfl := List.mem_singleton.1 hx
    exact digest_all _⟩) k true false true ⟨fun _ => live_pay, fun _ => rfl⟩ ⟨fun _ => live_dup, fun _ => rfl⟩ ⟨fun _ => live_opens, fun _ => rfl⟩)
  rw [live_ofV.1, live_ofV.2] at CO
  have COR := hide (fun w v (h : RowAt w 2 v (liveW.map wtC)) => order10_any liveW liveW_ok (by decide) v w h)
  have CF := hide (fun w => floor_any 250 (by decide) (by decide) w)
  rw [live_floor] at CF
  have CS := hide (fun w => less_any ⟨1, 10⟩ ⟨2, 19⟩ ⟨⟨by decide, by decide⟩, by decide, by decide⟩ ⟨⟨by decide, by decide⟩, by decide, by decide⟩ w)
  rw [live_less] at CS
  have CW := hide (fun w v (h : RowAt w 2 v (liveW.map wtC)) => worst_any liveW liveW_ok (by decide) v w h)
  rw [show liveW.length = 3 from rfl, liveW_worst] at CW
  have HK := hide hks
  have HDL := hide (digest_length [5])
  have OB := out_built ⟨10, digest [5]⟩ HDL.out
  have HOL : Hid ((outC ⟨10, digest [5]⟩).length = 33) := hide (outC_length HDL.out)
  have HPR : Hid (∀ w : World, OutsAt (w.alloc (.cells (outC ⟨10, digest [5]⟩).toArray 60)) (.slice (some ⟨w.heap.size, 0, none⟩) 1 1) liveP) := hide (fun w => row_one w 33 _ _)
  have HV5 : Hid (liveT.ver = 0) := hide rfl
  rw [HV5.out] at CO
  have LA := hide liveT_at
  clear hks
  generalize digest [5] = D at *
  generalize liveT = T at *
  generalize liveP = PR at *
  generalize outC ⟨10, D⟩ = OC at *
  change List.foldl (fun (cs : Array Value) (x : Value × Nat) => cs.setIfInBounds (1 + x.2) x.1) #[.int .u64 10, .int .u8 0, .int .u8 0, .int .u8 0, .int .u8 0, .int .u8 0, .int .u8 0, .int .u8 0, .int .u8 0, .int .u8 0, .int .u8 0, .int .u8 0, .int .u8 0, .int .u8 0, .int .u8 0, .int .u8 0, .int .u8 0, .int .u8 0, .int .u8 0, .int .u8 0, .int .u8 0, .int .u8 0, .int .u8 0, .int .u8 0, .int .u8 0, .int .u8 0, .int .u8 0, .int .u8 0, .int .u8 0, .int .u8 0, .int .u8 0, .int .u8 0, .int .u8 0] (vals .u8 D).zipIdx = OC.toArray at OB
  have hvl : (vals .u8 D).length = 32 := by rw [vals_length]; exact HDL.out
  go_enter Tryd.func9, Tryd.ntmps9
  go_upto_region 2 with fail
  have LT := LA.out w
  have hr := range_new (((w.alloc (.cells #[.int .u8 5] 5)).alloc (.cells #[.int .u8 0, .int .u8 0, .int .u8 0, .int .u8 0, .int .u8 0, .int .u8 0, .int .u8 0, .int .u8 0, .int .u8 0, .int .u8 0, .int .u8 0, .int .u8 0, .int .u8 0, .int .u8 0, .int .u8 0, .int .u8 0, .int .u8 0, .int .u8 0, .int .u8 0, .int .u8 0, .int .u8 0, .int .u8 0, .int .u8 0, .int .u8 0, .int .u8 0, .int .u8 0, .int .u8 0, .int .u8 0, .int .u8 0, .int .u8 0, .int .u8 0, .int .u8 0, .int .u32 0, .slice (some ⟨w.heap.size, 0, none⟩) 1 1] 39)).alloc (.cells #[.int .u64 7, .int .u8 0, .int .u8 0, .int .u8 0, .int .u8 0, .int .u8 0, .int .u8 0, .int .u8 0, .int .u8 0, .int .u8 0, .int .u8 0, .int .u8 0, .int .u8 0, .int .u8 0, .int .u8 0, .int .u8 0, .int .u8 0, .int .u8 0, .int .u8 0, .int .u8 0, .int .u8 0, .int .u8 0, .int .u8 0, .int .u8 0, .int .u8 0, .int .u8 0, .int .u8 0, .int .u8 0, .int .u8 0, .int .u8 0, .int .u8 0, .int .u8 0, .int .u8 0] 60)) [.int .u32 0, .slice (some ⟨w.heap.size + 1, 0, none⟩) 1 1, .slice (some ⟨w.heap.size + 2, 0, none⟩) 1 1] 26
  rw [alloc_size, alloc_size, alloc_size, show w.heap.size + 1 + 1 + 1 = w.heap.size + 3 from rfl] at hr
  have n0 := hr 0 _ rfl
  have n1 := hr 1 _ rfl
  have n2 := hr 2 _ rfl
  have hb : ∀ (w : World) o, Below w.heap.size w (w.alloc o) := fun w o => (Below.refl _ _).alloc (Nat.le_refl _) _
  have HB3 := hide (below_on (below_on (below_on (hb w (.cells #[.int .u8 5] 5)) (hb _ (.cells #[.int .u8 0, .int .u8 0, .int .u8 0, .int .u8 0, .int .u8 0, .int .u8 0, .int .u8 0, .int .u8 0, .int .u8 0, .int .u8 0, .int .u8 0, .int .u8 0, .int .u8 0, .int .u8 0, .int .u8 0, .int .u8 0, .int .u8 0, .int .u8 0, .int .u8 0, .int .u8 0, .int .u8 0, .int .u8 0, .int .u8 0, .int .u8 0, .int .u8 0, .int .u8 0, .int .u8 0, .int .u8 0, .int .u8 0, .int .u8 0, .int .u8 0, .int .u8 0, .int .u32 0, .slice (some ⟨w.heap.size, 0, none⟩) 1 1] 39))) (hb _ (.cells #[.int .u64 7, .int .u8 0, .int .u8 0, .int .u8 0, .int .u8 0, .int .u8 0, .int .u8 0, .int .u8 0, .int .u8 0, .int .u8 0, .int .u8 0, .int .u8 0, .int .u8 0, .int .u8 0, .int .u8 0, .int .u8 0, .int .u8 0, .int .u8 0, .int .u8 0, .int .u8 0, .int .u8 0, .int .u8 0, .int .u8 0, .int .u8 0, .int .u8 0, .int .u8 0, .int .u8 0, .int .u8 0, .int .u8 0, .int .u8 0, .int .u8 0, .int .u8 0, .int .u8 0] 60))) (hb _ (.cells #[.int .u32 0, .slice (some ⟨w.heap.size + 1, 0, none⟩) 1 1, .slice (some ⟨w.heap.size + 2, 0, none⟩) 1 1] 26)))
  simp only [Nat.zero_add, Nat.add_zero] at n0 n1 n2
  try rw [show w.heap.size + 1 + 1 = w.heap.size + 2 from rfl]
  try rw [show w.heap.size + 2 + 1 = w.heap.size + 3 from rfl]
  clear hr hb LA
  generalize (((w.alloc (.cells #[.int .u8 5] 5)).alloc (.cells #[.int .u8 0, .int .u8 0, .int .u8 0, .int .u8 0, .int .u8 0, .int .u8 0, .int .u8 0, .int .u8 0, .int .u8 0, .int .u8 0, .int .u8 0, .int .u8 0, .int .u8 0, .int .u8 0, .int .u8 0, .int .u8 0, .int .u8 0, .int .u8 0, .int .u8 0, .int .u8 0, .int .u8 0, .int .u8 0, .int .u8 0, .int .u8 0, .int .u8 0, .int .u8 0, .int .u8 0, .int .u8 0, .int .u8 0, .int .u8 0, .int .u8 0, .int .u8 0, .int .u32 0, .slice (some ⟨w.heap.size, 0, none⟩) 1 1] 39)).alloc (.cells #[.int .u64 7, .int .u8 0, .int .u8 0, .int .u8 0, .int .u8 0, .int .u8 0, .int .u8 0, .int .u8 0, .int .u8 0, .int .u8 0, .int .u8 0, .int .u8 0, .int .u8 0, .int .u8 0, .int .u8 0, .int .u8 0, .int .u8 0, .int .u8 0, .int .u8 0, .int .u8 0, .int .u8 0, .int .u8 0, .int .u8 0, .int .u8 0, .int .u8 0, .int .u8 0, .int .u8 0, .int .u8 0, .int .u8 0, .int .u8 0, .int .u8 0, .int .u8 0, .int .u8 0] 60)).alloc (.cells #[.int .u32 0, .slice (some ⟨w.heap.size + 1, 0, none⟩) 1 1, .slice (some ⟨w.heap.size + 2, 0, none⟩) 1 1] 26) = W at *
  generalize hiv : Value.slice (some ⟨w.heap.size + 1, 0, none⟩) 1 1 = iv at *
  generalize hov : Value.slice (some ⟨w.heap.size + 2, 0, none⟩) 1 1 = ov at *
  generalize hg : w.heap.size = g at *
  have HG := hide hg
  have HLT := hide LT
  clear hiv hov hg LT
  try simp only [Act.put]
  refine wp_region_held_drew (S := fun wx => Below W.heap.size W wx) (by kernel_rfl) (Below.refl _ _).drew (fun hHeld => ?_)
  refine wpAnyH_take (i := 0) (oi := { dst := some 13, op := Op.load 26 (Operand.tmp 1), type := 26, pos := "law.go:17", after := #[], guard := none }) (v := .agg #[.int .u32 0, iv, ov]) rfl (by kernel_rfl) (by kernel_rfl) (by kernel_rfl) (fun _ _ _ h => h) (Or.inl ⟨by rfl, fun wx h => by have c0 := (h.cell (World.block_lt_of_cell? _ _ n0)).trans n0; have c1 := (h.cell (World.block_lt_of_cell? _ _ n1)).trans n1; have c2 := (h.cell (World.block_lt_of_cell? _ _ n2)).trans n2; go_simp⟩) (by assumption) ?_
  simp only [Act.put, List.setIfInBounds_toArray, List.set_cons_zero, List.set_cons_succ]
  refine wpAnyH_ready (rs := [1]) (by kernel_rfl) (by simp) (AllReadyH.cons (o := { dst := some 14, op := Op.buildSlice 37 1 #[(0, Operand.const (Value.int IntKind.u8 5))], type := 37, pos := "law.go:17", after := #[], guard := none }) rfl (fun K hK => ?_) AllReadyH.nil)
  go_simp
  refine hK.out _ _ ?_ (fun hHeld => ?_)
  · exact hHeld.alloc hHeld.size _
  clear hK K
  try simp only [Act.put, List.setIfInBounds_toArray, List.set_cons_zero, List.set_cons_succ]
  refine wpAnyH_ready (rs := [2]) (by kernel_rfl) (by simp) (AllReadyH.cons (o := { dst := some 15, op := Op.call { callee := Callee.value (Operand.func 13), args := #[Operand.tmp 14], argTypes := #[37] }, type := 34, pos := "law.go:17", after := #[{ on := 1, ground := Ground.data }], guard := none }) rfl (fun K hK => ?_) AllReadyH.nil)
  have hkb := Bytes.one W.drew 5
  refine step_go (vs := #[.slice (some ⟨W.drew.heap.size, 0, none⟩) 1 1]) rfl 13 _ Tryd.func13 hnm hbd _ _ rfl (by simp [Act.eval]) ?_
  refine (CL.out _ _ hkb ((HK.out.on (by rw [HG.out]; exact HB3.out)).on hHeld)).mono ?_
  rintro e w3 ⟨rfl, hb3⟩
  refine ⟨_, rfl, ?_⟩
  refine hK.out _ _ ?_ (fun hHeld => ?_)
  · exact below_on hHeld hb3
  clear hK K
  try simp only [Act.put, List.setIfInBounds_toArray, List.set_cons_zero, List.set_cons_succ]
  refine wpAnyH_take (i := 3) (oi := { dst := some 16, op := Op.build 60 #[(0, Operand.const (Value.int IntKind.u64 10)), (1, Operand.tmp 15)], type := 60, pos := "law.go:17", after := #[{ on := 2, ground := Ground.data }], guard := none }) (v := .agg OC.toArray) rfl (by kernel_rfl) (by kernel_rfl) (by kernel_rfl) (fun _ _ _ h => h) (Or.inl ⟨by rfl, fun w _ => by go_simp⟩) (by assumption) ?_
  simp only [Act.put, List.setIfInBounds_toArray, List.set_cons_zero, List.set_cons_succ]
  refine wpAnyH_ready (rs := [4]) (by kernel_rfl) (by simp) (AllReadyH.cons (o := { dst := some 17, op := Op.buildSlice 24 1 #[(0, Operand.tmp 16)], type := 24, pos := "law.go:17", after := #[{ on := 3, ground := Ground.data }], guard := none }) rfl (fun K hK => ?_) AllReadyH.nil)
  refine sb_one (by rfl) 24 60 (.tmp 16) rfl _ 33 40 Tryd.underlying24 infoOut (by omega) (by omega) OC HOL.out rfl ?_
  refine hK.out _ _ ?_ (fun hHeld => ?_)
  · exact hHeld.alloc hHeld.size _
  clear hK K
  try simp only [Act.put, List.setIfInBounds_toArray, List.set_cons_zero, List.set_cons_succ]
  refine wpAnyH_ready (rs := [5]) (by kernel_rfl) (by simp) (AllReadyH.cons (o := { dst := some 18, op := Op.call { callee := Callee.value (Operand.func 11), args := #[Operand.tmp 13, Operand.tmp 17], argTypes := #[26, 24] }, type := 31, pos := "law.go:17", after := #[{ on := 0, ground := Ground.data }, { on := 4, ground := Ground.data }, { on := 2, ground := Ground.chain }], guard := none }) rfl (fun K hK => ?_) AllReadyH.nil)
  have hp5 := HPR.out w3
  refine step_go (vs := #[.agg #[.int .u32 0, iv, ov], .slice (some ⟨w3.heap.size, 0, none⟩) 1 1]) rfl 11 _ Tryd.func11 hnm2 hbd2 _ _ rfl (by simp [Act.eval]) ?_
  refine (CO.out _ iv ov _ (HLT.out.on hHeld) hp5 ((HK.out.on (by rw [HG.out]; exact HB3.out)).on hHeld)).mono ?_
  rintro e w5 ⟨rfl, hb5⟩
  refine ⟨_, rfl, ?_⟩
  refine hK.out _ _ ?_ (fun hHeld => ?_)
  · exact below_on hHeld hb5
  clear hK K
  try simp only [Act.put, List.setIfInBounds_toArray, List.set_cons_zero, List.set_cons_succ]
  refine wpAnyH_take (i := 6) (oi := { dst := some 12, op := Op.move (Operand.tmp 18), type := 31, pos := "law.go:17", after := #[{ on := 5, ground := Ground.data }], guard := none }) (v := .tuple #[.int .u64 3, .int .i64 0]) rfl (by kernel_rfl) (by kernel_rfl) (by kernel_rfl) (fun _ _ _ h => h) (Or.inl ⟨by rfl, fun w _ => by go_simp⟩) (by assumption) ?_
  simp only [Act.put, List.setIfInBounds_toArray, List.set_cons_zero, List.set_cons_succ]
  refine wpAnyH_take (i := 7) (oi := { dst := some 19, op := Op.extract (Operand.tmp 12) 0, type := 29, pos := "law.go:17", after := #[{ on := 6, ground := Ground.data }], guard := none }) (v := .int .u64 3) rfl (by kernel_rfl) (by kernel_rfl) (by kernel_rfl) (fun _ _ _ h => h) (Or.inl ⟨by rfl, fun w _ => by go_simp⟩) (by assumption) ?_
  simp only [Act.put, List.setIfInBounds_toArray, List.set_cons_zero, List.set_cons_succ]
  refine wpAnyH_take (i := 8) (oi := { dst := some 20, op := Op.extract (Operand.tmp 12) 1, type := 30, pos := "law.go:17", after := #[{ on := 6, ground := Ground.data }, { on := 9, ground := Ground.gcOnly Departure.lateStores }], guard := none }) (v := .int .i64 0) rfl (by kernel_rfl) (by kernel_rfl) (by kernel_rfl) (fun _ _ _ h => h) (Or.inl ⟨by rfl, fun w _ => by go_simp⟩) (by assumption) ?_
  simp only [Act.put, List.setIfInBounds_toArray, List.set_cons_zero, List.set_cons_succ]
  refine wpAnyH_take (i := 9) (oi := { dst := some 2, op := Op.assign (Operand.tmp 19), type := 29, pos := "law.go:17", after := #[{ on := 7, ground := Ground.data }, { on := 5, ground := Ground.chain }, { on := 0, ground := Ground.phase }, { on := 1, ground := Ground.phase }, { on := 2, ground := Ground.phase }, { on := 3, ground := Ground.phase }, { on := 4, ground := Ground.phase }, { on := 5, ground := Ground.phase }, { on := 6, ground := Ground.phase }, { on := 7, ground := Ground.phase }, { on := 8, ground := Ground.textOnly Departure.lateStores }], guard := none }) (v := .int .u64 3) rfl (by kernel_rfl) (by kernel_rfl) (by kernel_rfl) (fun _ _ _ h => h) (Or.inl ⟨by rfl, fun w _ => by go_simp⟩) (by assumption) ?_
  simp only [Act.put, List.setIfInBounds_toArray, List.set_cons_zero, List.set_cons_succ]
  refine wpAnyH_take (i := 10) (oi := { dst := some 3, op := Op.assign (Operand.tmp 20), type := 30, pos := "law.go:17", after := #[{ on := 8, ground := Ground.data }, { on := 9, ground := Ground.chain }, { on := 0, ground := Ground.phase }, { on := 1, ground := Ground.phase }, { on := 2, ground := Ground.phase }, { on := 3, ground := Ground.phase }, { on := 4, ground := Ground.phase }, { on := 5, ground := Ground.phase }, { on := 6, ground := Ground.phase }, { on := 7, ground := Ground.phase }, { on := 8, ground := Ground.phase }, { on := 9, ground := Ground.phase }], guard := none }) (v := .int .i64 0) rfl (by kernel_rfl) (by kernel_rfl) (by kernel_rfl) (fun _ _ _ h => h) (Or.inl ⟨by rfl, fun w _ => by go_simp⟩) (by assumption) ?_
  simp only [Act.put, List.setIfInBounds_toArray, List.set_cons_zero, List.set_cons_succ]
  refine wpAnyH_done (by kernel_rfl) ?_ _
  have HB5 := hide (below_on (show Below w.heap.size w W by rw [HG.out]; exact HB3.out) hHeld)
  clear hHeld n0 n1 n2 OB hvl HB3 HLT HPR CL CO HOL hp5 hb5 hb3 hkb
  generalize hx : w5 = x5 at *
  clear hx
  go_upto_region 4 with fail
  have hrw := alive10_row x5
  have HB6 := hide (below_on HB5.out (below_new x5 (.cells #[.int .u64 5, .int .i64 10, .int .u64 6, .int .i64 10, .int .u64 1, .int .i64 2] 53)))
  have HR6 := hide hrw
  clear hrw HB5
  generalize x5.alloc (.cells #[.int .u64 5, .int .i64 10, .int .u64 6, .int .i64 10, .int .u64 1, .int .i64 2] 53) = W6 at *
  generalize x5.heap.size = g6 at *
  go_wp2_with fail
  refine (COR.out _ _ HR6.out).mono ?_
  rintro e w7 ⟨v7, P, rfl, hP, hb7, hrow⟩
  obtain rfl := ordd_unique hP liveW_order
  have HB7 := hide (below_on HB6.out hb7)
  have HR7 := hide (HR6.out.on hb7)
  have hr7 := hrow.row
  obtain ⟨a7, cap7, hv7, hc7, hd7⟩ := hr7.form
  have hv7 : v7 = .slice a7 3 cap7 := hv7
  subst hv7
  obtain ⟨b7, o7, rfl, k0⟩ := hr7.get (k := 0) (c := [.int .i64 1]) rfl
  obtain ⟨b7', o7', e1, k1⟩ := hr7.get (k := 1) (c := [.int .i64 0]) rfl
  cases e1
  obtain ⟨b7', o7', e2, k2⟩ := hr7.get (k := 2) (c := [.int .i64 2]) rfl
  cases e2
  have m0 := k0 0 _ rfl
  have m1 := k1 0 _ rfl
  have m2 := k2 0 _ rfl
  simp only [Nat.zero_mul, Nat.one_mul, Nat.add_zero] at m0 m1 m2
  have HM := hide (And.intro m0 (And.intro m1 m2))
  clear m0 m1 m2 k0 k1 k2 hr7 hc7 hd7 hrow hP hb7 HB6 HR6 COR
  go_wp2_with fail
  refine (CF.out _).mono ?_
  rintro e w8 ⟨rfl, hb8⟩
  have HB8 := hide (below_on HB7.out hb8)
  have HR8 := hide (HR7.out.on hb8)
  have HM8 := hide (And.intro ((hb8.cell (World.block_lt_of_cell? _ _ HM.out.1)).trans HM.out.1) (And.intro ((hb8.cell (World.block_lt_of_cell? _ _ HM.out.2.1)).trans HM.out.2.1) ((hb8.cell (World.block_lt_of_cell? _ _ HM.out.2.2)).trans HM.out.2.2)))
  clear hb8 HB7 HR7 HM CF
  go_wp2_with fail
  refine (CS.out _).mono ?_
  rintro e w9 ⟨rfl, q, os, rfl⟩
  have hb9 := below_grow (Below.refl w8.heap.size w8) q os
  generalize Sort.grow (w8.drewN q) os = w9 at *
  have HB9 := hide (below_on HB8.out hb9)
  have HR9 := hide (HR8.out.on hb9)
  have m0 := (hb9.cell (World.block_lt_of_cell? _ _ HM8.out.1)).trans HM8.out.1
  have m1 := (hb9.cell (World.block_lt_of_cell? _ _ HM8.out.2.1)).trans HM8.out.2.1
  have m2 := (hb9.cell (World.block_lt_of_cell? _ _ HM8.out.2.2)).trans HM8.out.2.2
  clear hb9 HB8 HR8 HM8 CS
  go_wp2_with fail
  refine (CW.out _ _ HR9.out).mono ?_
  rintro e w10 ⟨rfl, hb10⟩
  have HB10 := hide (below_on HB9.out hb10)
  clear hb10 HB9 HR9 CW m0 m1 m2
  go_wp2
  go_ret
  exact ⟨rfl, HB10.out⟩

end Go.Proofs.YtbeegcpmpgdbnaaDoor
