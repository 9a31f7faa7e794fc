/-
  ShaBlocks: whatever block is taken into whatever state, the program's answer is the document's: the call returns true, and the arguments read as before.
-/
import Derived.Test.YtiialpnackjakaaDoorShaLaw
import Derived.Test.YtiialpnackjakaaDoorShaAlive
import Derived.Test.YtiialpnackjakaaDoorRefBlk
import Derived.Test.YtiialpnackjakaaDoorCame
namespace Go.Proofs.YtiialpnackjakaaDoor
open Go.ChangeShapes Go.WideShapes Go.ChangeAt Go.RowKit

theorem eql_eight (xs : List Int) (hx : xs.length = 8) (w : World) : (Op.equalIn 10000 33 (.agg (vals .u32 xs).toArray) (.agg (vals .u32 xs).toArray)).run Tryd.prog w = .ok true w :=
  eql_self w 33 31 8 .u32 Tryd.underlying33 Tryd.underlying31 (fun _ => by kernel_rfl) xs hx

set_option maxRecDepth 100000 in
set_option maxHeartbeats 1000000 in
theorem shaBlocks_walk {w : World} (hk : Ks w) (s : List Int) (hs : s.length = 8) (b : List Int) (hb : b.length = 64) (_ : ∀ z ∈ b, Byte z) :
    Calls Tryd.prog 4 #[.agg (vals .u32 s).toArray, .agg (vals .u8 b).toArray] w fun e w' => e = .returned (.bool true) ∧ Below w.heap.size w w' := by
  have HK := hide hk
  have HLM := hide (block_length s b hs)
  have Y1 := hide (fun wx (k : Ks wx) => block_any s b wx hs hb k)
  have Y2 := hide (fun wx => rblock_any s b wx hs hb)
  generalize blockI s b = M at *
  have HBW := hide (below_alloc (below_alloc (Below.refl w.heap.size w) (.cells (vals .u32 s).toArray 33)) (.cells (vals .u8 b).toArray 34))
  have HS0 := hide ((Arr.new w .u32 s 33).alloc (.cells (vals .u8 b).toArray 34))
  have HB0 : Hid (Arr ((w.alloc (.cells (vals .u32 s).toArray 33)).alloc (.cells (vals .u8 b).toArray 34)) (w.heap.size + 1) 0 .u8 b) := hide (by
    have := Arr.new (w.alloc (.cells (vals .u32 s).toArray 33)) .u8 b 34
    rwa [alloc_size] at this)
  have hu33 := Tryd.underlying33
  have hu34 := Tryd.underlying34
  have hi33 : (Tryd.prog.info? 33).map (·.size) = some (vals .u32 s).length := by rw [vals_length, hs]; exact info_s
  have hi34 : (Tryd.prog.info? 34).map (·.size) = some (vals .u8 b).length := by rw [vals_length, hb]; exact info_b
  have EQ := fun wx => eql_eight M HLM.out wx
  clear hk
  go_enter Tryd.func4, Tryd.ntmps4
  go_upto_region 1 with fail
  generalize (w.alloc (.cells (vals .u32 s).toArray 33)).alloc (.cells (vals .u8 b).toArray 34) = W at *
  have HKW := hide (HK.out.on HBW.out)
  have HGW : Hid (w.heap.size ≤ W.heap.size) := hide HBW.out.size
  generalize hg : w.heap.size = g at *
  have HGE := hide hg
  clear hg
  have A : Hid (Calls Tryd.prog 5 #[] W.drew fun e w' => e = .returned (.bool true) ∧ Below W.heap.size W w') := hide ((alive_any W.drew (HKW.out.on (Below.refl _ _).drew)).mono (by
    rintro e w' ⟨rfl, hbe⟩
    exact ⟨rfl, below_on (Below.refl _ _).drew hbe⟩))
  have X1 := hide (fun wx (hx : Below W.heap.size W wx) => show Calls Tryd.prog 14 #[.agg (vals .u32 s).toArray, .agg (vals .u8 b).toArray] wx (fun e w' => e = .returned (.agg (vals .u32 M).toArray) ∧ Below W.heap.size W w') from (Y1.out wx (HKW.out.on hx)).mono (by
    rintro e w' ⟨rfl, hbe⟩
    exact ⟨rfl, below_on hx hbe⟩))
  have X2 := hide (fun wx (hx : Below W.heap.size W wx) => show Calls Tryd.prog 15 #[.agg (vals .u32 s).toArray, .agg (vals .u8 b).toArray] wx (fun e w' => e = .returned (.agg (vals .u32 M).toArray) ∧ Below W.heap.size W w') from (Y2.out wx).mono (by
    rintro e w' ⟨rfl, hbe⟩
    exact ⟨rfl, below_on hx hbe⟩))
  have HC : Hid (∀ wx, Below W.heap.size W wx → wx.rangeAt g 0 (vals .u32 s) ∧ wx.rangeAt (g + 1) 0 (vals .u8 b)) := hide (fun wx hx => ⟨(HS0.out.on hx).1, (HB0.out.on hx).1⟩)
  clear Y1 Y2 HS0 HB0 HK hs hb
  refine wp_region_noPanic ?_
  refine wp_region_held_drew (S := fun wx => wx.rangeAt g 0 (vals .u32 s) ∧ wx.rangeAt (g + 1) 0 (vals .u8 b)) (by kernel_rfl) (HC.out _ (Below.drew (Below.refl _ _))) (fun hHeld => ?_)
  refine wpAnyH_ready (rs := [0]) (by kernel_rfl) (by simp) (AllReadyH.cons (o := { dst := some 5, op := Op.call { callee := Callee.value (Operand.func 5), args := #[], argTypes := #[] }, type := 4, pos := "law.go:45", after := #[], guard := none }) rfl (fun K hK => ?_) AllReadyH.nil)
  go_simp
  refine A.out.mono ?_
  rintro e wa ⟨rfl, hb5⟩
  refine hK.out _ _ (HC.out _ hb5) (fun hHeld => ?_)
  clear hK K
  refine wpAnyH_take (i := 1) (oi := { dst := some 6, op := Op.move (Operand.tmp 5), type := 4, pos := "law.go:45", after := #[{ on := 0, ground := Ground.data }, { on := 0, ground := Ground.chain }], guard := none }) (v := .bool true) rfl (by kernel_rfl) (by kernel_rfl) (by kernel_rfl) (fun _ _ _ h => h) (Or.inl ⟨by rfl, fun w _ => by go_simp⟩) (by assumption) ?_
  simp only [Act.put, List.setIfInBounds_toArray, List.set_cons_zero, List.set_cons_succ]
  refine wpAnyH_take (i := 2) (oi := { dst := some 7, op := Op.load 33 (Operand.tmp 2), type := 33, pos := "law.go:45", after := #[{ on := 1, ground := Ground.guard }], guard := some (1, true) }) (v := .agg (vals .u32 s).toArray) rfl (by kernel_rfl) (by kernel_rfl) (by kernel_rfl) (fun _ _ _ h => h) (yieldsIf_load_mid (by rfl) 33 (.tmp 2) rfl g 0 rfl (vals .u32 s) _ (fun w h => h.1) hu33 rfl hi33) (by assumption) ?_
  simp only [Act.put, List.setIfInBounds_toArray, List.set_cons_zero, List.set_cons_succ]
  refine wpAnyH_take (i := 3) (oi := { dst := some 8, op := Op.load 34 (Operand.tmp 3), type := 34, pos := "law.go:45", after := #[{ on := 1, ground := Ground.guard }], guard := some (1, true) }) (v := .agg (vals .u8 b).toArray) rfl (by kernel_rfl) (by kernel_rfl) (by kernel_rfl) (fun _ _ _ h => h) (yieldsIf_load_mid (by rfl) 34 (.tmp 3) rfl (g + 1) 0 rfl (vals .u8 b) _ (fun w h => h.2) hu34 rfl hi34) (by assumption) ?_
  simp only [Act.put, List.setIfInBounds_toArray, List.set_cons_zero, List.set_cons_succ]
  refine wpAnyH_take (i := 5) (oi := { dst := some 10, op := Op.load 33 (Operand.tmp 2), type := 33, pos := "law.go:45", after := #[{ on := 1, ground := Ground.guard }], guard := some (1, true) }) (v := .agg (vals .u32 s).toArray) rfl (by kernel_rfl) (by kernel_rfl) (by kernel_rfl) (fun _ _ _ h => h) (yieldsIf_load_mid (by rfl) 33 (.tmp 2) rfl g 0 rfl (vals .u32 s) _ (fun w h => h.1) hu33 rfl hi33) (by assumption) ?_
  simp only [Act.put, List.setIfInBounds_toArray, List.set_cons_zero, List.set_cons_succ]
  refine wpAnyH_take (i := 6) (oi := { dst := some 11, op := Op.load 34 (Operand.tmp 3), type := 34, pos := "law.go:45", after := #[{ on := 1, ground := Ground.guard }], guard := some (1, true) }) (v := .agg (vals .u8 b).toArray) rfl (by kernel_rfl) (by kernel_rfl) (by kernel_rfl) (fun _ _ _ h => h) (yieldsIf_load_mid (by rfl) 34 (.tmp 3) rfl (g + 1) 0 rfl (vals .u8 b) _ (fun w h => h.2) hu34 rfl hi34) (by assumption) ?_
  simp only [Act.put, List.setIfInBounds_toArray, List.set_cons_zero, List.set_cons_succ]
  refine wpAnyH_ready (rs := [4]) (by kernel_rfl) (by simp) (AllReadyH.cons (o := { dst := some 9, op := Op.call { callee := Callee.value (Operand.func 14), args := #[Operand.tmp 7, Operand.tmp 8], argTypes := #[33, 34] }, type := 33, pos := "law.go:45", after := #[{ on := 2, ground := Ground.data }, { on := 3, ground := Ground.data }, { on := 1, ground := Ground.chain }, { on := 1, ground := Ground.guard }], guard := some (1, true) }) rfl (fun K hK => ?_) AllReadyH.nil)
  go_simp
  refine (X1.out _ hb5).mono ?_
  rintro e wb ⟨rfl, hb6⟩
  refine hK.out _ _ (HC.out _ hb6) (fun hHeld => ?_)
  clear hK K
  refine wpAnyH_ready (rs := [7]) (by kernel_rfl) (by simp) (AllReadyH.cons (o := { dst := some 12, op := Op.call { callee := Callee.value (Operand.func 15), args := #[Operand.tmp 10, Operand.tmp 11], argTypes := #[33, 34] }, type := 33, pos := "law.go:45", after := #[{ on := 5, ground := Ground.data }, { on := 6, ground := Ground.data }, { on := 4, ground := Ground.chain }, { on := 1, ground := Ground.guard }], guard := some (1, true) }) rfl (fun K hK => ?_) AllReadyH.nil)
  go_simp
  refine (X2.out _ hb6).mono ?_
  rintro e wc ⟨rfl, hb7⟩
  refine hK.out _ _ (HC.out _ hb7) (fun hHeld => ?_)
  clear hK K
  refine wpAnyH_take (i := 8) (oi := { dst := some 13, op := Op.binOp BinOp.eql 33 (Operand.tmp 9) (Operand.tmp 12) 33, type := 4, pos := "law.go:45", after := #[{ on := 4, ground := Ground.data }, { on := 7, ground := Ground.data }, { on := 1, ground := Ground.guard }], guard := some (1, true) }) (v := .bool true) rfl (by kernel_rfl) (by kernel_rfl) (by kernel_rfl) (fun _ _ _ h => h) (Or.inl ⟨by rfl, fun w _ => by go_simp⟩) (by assumption) ?_
  simp only [Act.put, List.setIfInBounds_toArray, List.set_cons_zero, List.set_cons_succ]
  refine wpAnyH_take (i := 9) (oi := { dst := some 14, op := Op.pick (Operand.tmp 6) (Operand.tmp 13) (Operand.const (Value.bool false)), type := 4, pos := "law.go:45", after := #[{ on := 1, ground := Ground.data }, { on := 8, ground := Ground.data }], guard := none }) (v := .bool true) rfl (by kernel_rfl) (by kernel_rfl) (by kernel_rfl) (fun _ _ _ h => h) (Or.inl ⟨by rfl, fun w _ => by go_simp⟩) (by assumption) ?_
  simp only [Act.put, List.setIfInBounds_toArray, List.set_cons_zero, List.set_cons_succ]
  refine wpAnyH_take (i := 10) (oi := { dst := some 4, op := Op.assign (Operand.tmp 14), type := 4, pos := "law.go:45", after := #[{ on := 9, ground := Ground.data }, { on := 7, ground := Ground.chain }, { on := 0, ground := Ground.phase }, { on := 1, ground := Ground.phase }, { on := 2, ground := Ground.phase }, { on := 3, ground := Ground.phase }, { on := 4, ground := Ground.phase }, { on := 5, ground := Ground.phase }, { on := 6, ground := Ground.phase }, { on := 7, ground := Ground.phase }, { on := 8, ground := Ground.phase }, { on := 9, ground := Ground.phase }], guard := none }) (v := .bool true) rfl (by kernel_rfl) (by kernel_rfl) (by kernel_rfl) (fun _ _ _ h => h) (Or.inl ⟨by rfl, fun w _ => by go_simp⟩) (by assumption) ?_
  simp only [Act.put, List.setIfInBounds_toArray, List.set_cons_zero, List.set_cons_succ]
  refine wpAnyH_done (by kernel_rfl) ?_ _
  refine NoPanic.normal ?_
  go_wp2
  go_ret
  refine ⟨rfl, ?_⟩
  rw [HGE.out]
  exact HBW.out.trans (hb7.mono HGW.out)

set_option maxRecDepth 100000 in
theorem shaBlocks_lifted (os : Os) (started : os.Started) (H : Type) (enc : TypeId × Value → H) :
    ReturnsInHanded {} Tryd.checked os 4 .any (fun w args => (Rows.shaBlocksSpec.pre enc Tryd.prog Tryd.f4 [] false w args ∧ laidMetH Tryd.prog laid1 w) ∧ sizedMet enc Tryd.prog Tryd.f4 (OpenSpec.ofChange Rows.shaBlocksSpec) false w args)
      (Rows.shaBlocksSpec.post enc Tryd.prog Tryd.f4 false true false false) := by
  refine returnsInHanded_of_change_and (C := Tryd.checked) (X := fun w _ => laidMetH Tryd.prog laid1 w) (fun _ _ _ hh h => h.of_heap hh) own started (by kernel_rfl) Tryd.func4
    (ChangeSpec.witness_shaped (enc := enc) (C := Tryd.checked) (os := os) (X := fun w _ => laidMetH Tryd.prog laid1 w) false (World.doorLaid Tryd.prog 14 os) #[.agg #[.int .u32 0, .int .u32 0, .int .u32 0, .int .u32 0, .int .u32 0, .int .u32 0, .int .u32 0, .int .u32 0], .agg #[.int .u8 0, .int .u8 0, .int .u8 0, .int .u8 0, .int .u8 0, .int .u8 0, .int .u8 0, .int .u8 0, .int .u8 0, .int .u8 0, .int .u8 0, .int .u8 0, .int .u8 0, .int .u8 0, .int .u8 0, .int .u8 0, .int .u8 0, .int .u8 0, .int .u8 0, .int .u8 0, .int .u8 0, .int .u8 0, .int .u8 0, .int .u8 0, .int .u8 0, .int .u8 0, .int .u8 0, .int .u8 0, .int .u8 0, .int .u8 0, .int .u8 0, .int .u8 0, .int .u8 0, .int .u8 0, .int .u8 0, .int .u8 0, .int .u8 0, .int .u8 0, .int .u8 0, .int .u8 0, .int .u8 0, .int .u8 0, .int .u8 0, .int .u8 0, .int .u8 0, .int .u8 0, .int .u8 0, .int .u8 0, .int .u8 0, .int .u8 0, .int .u8 0, .int .u8 0, .int .u8 0, .int .u8 0, .int .u8 0, .int .u8 0, .int .u8 0, .int .u8 0, .int .u8 0, .int .u8 0, .int .u8 0, .int .u8 0, .int .u8 0, .int .u8 0]] 8 rfl (World.shaped_of_RefB (by kernel_rfl) (by kernel_rfl)) (by kernel_rfl) (by kernel_rfl) (by kernel_rfl) (door_met os _)) ?_
  intro W base args ds gs before hval0 hW _ _ hL _
  have hval : ∀ (j : Nat) t v, Tryd.f4.params[j]? = some t → args[j]? = some v → Value.okWide Tryd.prog W .any base t v := hval0
  have hW' := hW
  obtain ⟨p, q, hA0, hV, rfl, hfz, hnd⟩ := hW
  have hA : DataW.TrodAll enc Tryd.prog W 0 (fun _ => true) true Tryd.f4.params.toList args.toList ds p := hA0
  rw [Tryd.params4] at hA hval
  obtain ⟨v0, vs0, d0, ds0, p0, q0, hargs, rfl, rfl, h0, r0⟩ := trodAll_cons hA
  obtain ⟨v1, vs1, d1, ds1, p1, q1, rfl, rfl, rfl, h1, r1⟩ := trodAll_cons r0
  obtain ⟨rfl, rfl, rfl⟩ := trodAll_nil r1
  obtain rfl : args = #[v0, v1] := by cases args; simp_all
  obtain ⟨rfl, rfl⟩ := trodVars_none hV
  have k0 := h0
  have lt0 : ∀ x ∈ p0, x.block < W.heap.size := by obtain ⟨m, hm⟩ := k0; exact DataW.trod_lt m _ _ _ hm
  obtain ⟨l0, rfl, n0, w0⟩ := arr_came (k := .u32) (n := 8) Tryd.underlying33 Tryd.underlying31 (by kernel_rfl) (by kernel_rfl) (hval 0 33 v0 rfl rfl) h0
  have k1 := h1
  have lt1 : ∀ x ∈ p1, x.block < W.heap.size := by obtain ⟨m, hm⟩ := k1; exact DataW.trod_lt m _ _ _ hm
  obtain ⟨l1, rfl, n1, w1⟩ := arr_came (k := .u8) (n := 64) Tryd.underlying34 Tryd.underlying5 (by kernel_rfl) (by kernel_rfl) (hval 1 34 v1 rfl rfl) h1
  clear hA0 hval0
  refine (shaBlocks_walk (w := W) (ks_of_laid hL) l0 n0 l1 n1 (fun z hz => byte_of_wf (w1 z hz))).mono fun e W' ⟨he, bel⟩ => ?_
  subst he
  exact ⟨_, rfl, _, _, _, [], _, [], hW', trodAll_mk1 (shut_bool Tryd.underlying4 _), (trodAll_cons_mk (Below.trod laidOut (by kernel_rfl) (of_decide_eq_true (by kernel_rfl)) k0 bel lt0) (trodAll_cons_mk (Below.trod laidOut (by kernel_rfl) (of_decide_eq_true (by kernel_rfl)) k1 bel lt1) trodAll_mk0)), rfl, bel.frame _, fun h => by cases h⟩

theorem shaBlocks_holds : Rows.ShaBlocksSaid :=
  OpenClaim.holds_of_wide 4 Tryd.f4 rfl rfl rfl rfl rfl rfl rfl ⟨rfl, rfl, rfl, rfl, rfl⟩ rfl rfl rfl rfl rfl (by kernel_rfl) Tryd.func4 (by kernel_rfl)
    (of_decide_eq_true (by kernel_rfl)) (by unfold Func.isWrapper; first | (rw [if_pos (by decide +kernel)]; kernel_rfl) | (rw [if_neg (by decide +kernel)]; exact ⟨rfl, rfl⟩))
    (fun os started H enc _ => shaBlocks_lifted os started H enc)
#print axioms shaBlocks_holds
theorem shaBlocks_card : Rows.ShaBlocksCardSaid :=
  Claim7.holds_tied_plain_at .later [] [.data] true (true, "e2bf6f5e91ce445d977ce2167887c244d677419a0d19a28346c9810c7545a6a4") false
    shaBlocks_holds (fun _ h => by cases h) (by kernel_rfl) (fun _ h => by cases h) shaBlocks_row_tie rfl ⟨rfl, rfl⟩ (by kernel_rfl) rfl
    (fun f fn hf hfn => by
      obtain rfl : f = 4 := Option.some.inj ((show Tryd.prog.funcNamed "pappus/pappuslaw03.ShaBlocks" = some 4 by kernel_rfl).symm.trans hf) |>.symm
      obtain rfl : fn = Tryd.f4 := (Option.some.inj (Tryd.func4.symm.trans hfn)).symm
      exact ⟨by kernel_rfl, fun j t ht => by
        rw [Tryd.params4] at ht
        have hm : t ∈ [33, 34] := by simpa using Array.mem_of_getElem? ht
        have hall : ([33, 34].all fun u => !Tryd.prog.wantsStandIn u) = true := by kernel_rfl
        exact (show Tryd.prog.wantsStandIn t = false by simpa using List.all_eq_true.1 hall t hm)⟩)
    (by kernel_rfl)
#print axioms shaBlocks_card
end Go.Proofs.YtiialpnackjakaaDoor
