/-
  MacRoutes: whatever source's way, and whatever pick, are the document's: the call returns true, and the argument reads as before.
-/
import Derived.Test.YtknijlajopmjaaaDoorMacAlive
import Derived.Test.YtknijlajopmjaaaDoorRefRoute
import Derived.Test.YtknijlajopmjaaaDoorMacWay
import Derived.Test.YtknijlajopmjaaaDoorShaLaw
namespace Go.Proofs.YtknijlajopmjaaaDoor
open Go.ChangeShapes Go.WideShapes Go.ChangeAt Go.RowKit

set_option maxRecDepth 100000 in
set_option maxHeartbeats 1000000 in
theorem macRoutes_walk {w : World} (hk : Ks w) (salt : List Int) (ep s n : Int) (hl : salt.length = 32) (hbs : ∀ z ∈ salt, Byte z) (hep : Word ep) (hs : -9223372036854775808 ≤ s ∧ s ≤ 9223372036854775807) (hn : -9223372036854775808 ≤ n ∧ n ≤ 9223372036854775807) :
    Calls Tryd.prog 4 #[.agg (wayCells salt ep s n).toArray] w fun e w' => e = .returned (.bool true) ∧ Below w.heap.size w w' := by
  have hB0 := (Below.refl w.heap.size w).alloc (Nat.le_refl _) (.cells (wayCells salt ep s n).toArray 34)
  have HA0 := hide (way_box w salt ep s n 34 hl)
  have A := hide (malive_any _ (hk.on hB0))
  have HB0 := hide hB0
  have HK := hide hk
  have R0 := hide (fun wx j => route_any salt ep s n wx hl hep hs hn j)
  have R1 := hide (fun wx => rroute_any salt ep s n wx hl hep hs hn)
  have P0 := hide (fun wx => pick_any salt n wx hl hbs hn)
  have P1 := hide (fun wx => rpick_any salt n wx hl hbs hn)
  have HI : Hid ((Tryd.prog.info? 27).map (·.size) = some (vals .u8 salt).length) := hide (by rw [vals_length, hl]; exact info_h)
  clear hk hB0 hl hep hbs
  generalize wayCells salt ep s n = CS at *
  generalize routeX salt ep s n = X at *
  generalize routeE s n = XE at *
  generalize pickX salt n = Y at *
  generalize pickE n = YE at *
  go_enter Tryd.func4, Tryd.ntmps4
  go_wp2_with fail
  refine A.out.mono ?_
  rintro e w1 ⟨rfl, hbel1⟩
  have HB1 := hide (below_on HB0.out hbel1)
  have hA1 := HA0.out.on hbel1
  have HR1 := hide hA1.1
  obtain ⟨-, c1, c2, c3⟩ := id hA1
  have HA1 := hide hA1
  clear hbel1 A hA1
  go_wp2_with (refine wpList_load_mid rfl 27 (.tmp 14) rfl _ 0 rfl (vals .u8 salt) _ HR1.out Tryd.underlying27 rfl HI.out ?_)
  refine (R0.out w1 (HK.out.on HB1.out)).mono ?_
  rintro e w2 ⟨rfl, hbel2⟩
  have HB2 := hide (below_on HB1.out hbel2)
  have hA2 := HA1.out.on hbel2
  have HR2 := hide hA2.1
  obtain ⟨-, d1, d2, d3⟩ := id hA2
  have HA2 := hide hA2
  clear hbel2 hA2 c1 c2 c3
  go_wp2_with (refine wpList_load_mid rfl 27 (.tmp 26) rfl _ 0 rfl (vals .u8 salt) _ HR2.out Tryd.underlying27 rfl HI.out ?_)
  refine (R1.out w2).mono ?_
  rintro e w3 ⟨rfl, hbel3⟩
  have HB3 := hide (below_on HB2.out hbel3)
  have hA3 := HA2.out.on hbel3
  have HR3 := hide hA3.1
  obtain ⟨-, f1, f2, f3⟩ := id hA3
  have HA3 := hide hA3
  clear hbel3 hA3 d1 d2 d3
  go_wp2_with (refine wpList_load_mid rfl 27 (.tmp 38) rfl _ 0 rfl (vals .u8 salt) _ HR3.out Tryd.underlying27 rfl HI.out ?_)
  refine (P0.out w3).mono ?_
  rintro e w4 ⟨rfl, hbel4⟩
  have HB4 := hide (below_on HB3.out hbel4)
  have hA4 := HA3.out.on hbel4
  have HR4 := hide hA4.1
  obtain ⟨-, k1, k2, k3⟩ := id hA4
  clear hbel4 hA4 f1 f2 f3
  go_wp2_with (refine wpList_load_mid rfl 27 (.tmp 46) rfl _ 0 rfl (vals .u8 salt) _ HR4.out Tryd.underlying27 rfl HI.out ?_)
  refine (P1.out w4).mono ?_
  rintro e w5 ⟨rfl, hbel5⟩
  have HB5 := hide (below_on HB4.out hbel5)
  clear hbel5
  go_wp2
  go_ret
  exact ⟨rfl, HB5.out⟩

set_option maxRecDepth 100000 in
theorem macRoutes_lifted (os : Os) (started : os.Started) (H : Type) (enc : TypeId × Value → H) :
    ReturnsInHanded {} Tryd.checked os 4 .any (fun w args => (Rows.macRoutesSpec.pre enc Tryd.prog Tryd.f4 [] false w args ∧ laidMetH Tryd.prog laid1 w) ∧ sizedMet enc Tryd.prog Tryd.f4 (OpenSpec.ofChange Rows.macRoutesSpec) false w args)
      (Rows.macRoutesSpec.post enc Tryd.prog Tryd.f4 false true false false) := by
  refine returnsInHanded_of_change_and (C := Tryd.checked) (X := fun w _ => laidMetH Tryd.prog laid1 w) (fun _ _ _ hh h => h.of_heap hh) own started (by kernel_rfl) Tryd.func4
    (ChangeSpec.witness_shaped (enc := enc) (C := Tryd.checked) (os := os) (X := fun w _ => laidMetH Tryd.prog laid1 w) false (World.doorLaid Tryd.prog 14 os) #[.agg #[.int .u8 0, .int .u8 0, .int .u8 0, .int .u8 0, .int .u8 0, .int .u8 0, .int .u8 0, .int .u8 0, .int .u8 0, .int .u8 0, .int .u8 0, .int .u8 0, .int .u8 0, .int .u8 0, .int .u8 0, .int .u8 0, .int .u8 0, .int .u8 0, .int .u8 0, .int .u8 0, .int .u8 0, .int .u8 0, .int .u8 0, .int .u8 0, .int .u8 0, .int .u8 0, .int .u8 0, .int .u8 0, .int .u8 0, .int .u8 0, .int .u8 0, .int .u8 0, .int .u64 0, .int .i64 0, .int .i64 0]] 8 rfl (World.shaped_of_RefB (by kernel_rfl) (by kernel_rfl)) (by kernel_rfl) (by kernel_rfl) (by kernel_rfl) (door_met os _)) ?_
  intro W base args ds gs before hval0 hW _ _ hL _
  have hval : ∀ (j : Nat) t v, Tryd.f4.params[j]? = some t → args[j]? = some v → Value.okWide Tryd.prog W .any base t v := hval0
  have hW' := hW
  obtain ⟨p, q, hA0, hV, rfl, hfz, hnd⟩ := hW
  have hA : DataW.TrodAll enc Tryd.prog W 0 (fun _ => true) true Tryd.f4.params.toList args.toList ds p := hA0
  rw [Tryd.params4] at hA hval
  obtain ⟨v0, vs0, d0, ds0, p0, q0, hargs, rfl, rfl, h0, r0⟩ := trodAll_cons hA
  obtain ⟨rfl, rfl, rfl⟩ := trodAll_nil r0
  obtain rfl : args = #[v0] := by cases args; simp_all
  obtain ⟨rfl, rfl⟩ := trodVars_none hV
  have k0 := h0
  have lt0 : ∀ x ∈ p0, x.block < W.heap.size := by obtain ⟨m, hm⟩ := k0; exact DataW.trod_lt m _ _ _ hm
  obtain ⟨l0, x0, y0, z0, rfl, n0, w0, wx0, wy0, wz0⟩ := way_came (ta := 27) (e := 5) (tu := 32) (ti := 3) Tryd.underlying34 (by kernel_rfl) ⟨rfl, rfl⟩ ⟨rfl, rfl⟩ ⟨rfl, rfl⟩ ⟨rfl, rfl⟩ Tryd.underlying27 Tryd.underlying5 (by kernel_rfl) (by kernel_rfl) Tryd.underlying32 (by kernel_rfl) Tryd.underlying3 (by kernel_rfl) (hval 0 34 v0 rfl rfl) h0
  clear hA0 hval0
  refine (macRoutes_walk (w := W) (ks_of_laid hL) l0 x0 y0 z0 n0 (fun z hz => byte_of_wf (w0 z hz)) (word_of_wf wx0) (int_of_wf wy0) (int_of_wf wz0)).mono fun e W' ⟨he, bel⟩ => ?_
  subst he
  exact ⟨_, rfl, _, _, _, [], _, [], hW', trodAll_mk1 (shut_bool Tryd.underlying4 _), (trodAll_cons_mk (Below.trod laidOut (by kernel_rfl) (of_decide_eq_true (by kernel_rfl)) k0 bel lt0) trodAll_mk0), rfl, bel.frame _, fun h => by cases h⟩

theorem macRoutes_holds : Rows.MacRoutesSaid :=
  OpenClaim.holds_of_wide 4 Tryd.f4 rfl rfl rfl rfl rfl rfl rfl ⟨rfl, rfl, rfl, rfl, rfl⟩ rfl rfl rfl rfl rfl (by kernel_rfl) Tryd.func4 (by kernel_rfl)
    (of_decide_eq_true (by kernel_rfl)) (by unfold Func.isWrapper; first | (rw [if_pos (by decide +kernel)]; kernel_rfl) | (rw [if_neg (by decide +kernel)]; exact ⟨rfl, rfl⟩))
    (fun os started H enc _ => macRoutes_lifted os started H enc)
#print axioms macRoutes_holds
theorem macRoutes_card : Rows.MacRoutesCardSaid :=
  Claim7.holds_tied_plain_at .later [] [.data] true (true, "173da7fa971a5d4b19b9988b9cc45fa2aa5c8cacbb2b37105ebacdc430575515") false
    macRoutes_holds (fun _ h => by cases h) (by kernel_rfl) (fun _ h => by cases h) macRoutes_row_tie rfl ⟨rfl, rfl⟩ (by kernel_rfl) rfl
    (fun f fn hf hfn => by
      obtain rfl : f = 4 := Option.some.inj ((show Tryd.prog.funcNamed "pappus/pappuslaw04.MacRoutes" = some 4 by kernel_rfl).symm.trans hf) |>.symm
      obtain rfl : fn = Tryd.f4 := (Option.some.inj (Tryd.func4.symm.trans hfn)).symm
      exact ⟨by kernel_rfl, fun j t ht => by
        rw [Tryd.params4] at ht
        have hm : t ∈ [34] := by simpa using Array.mem_of_getElem? ht
        have hall : ([34].all fun u => !Tryd.prog.wantsStandIn u) = true := by kernel_rfl
        exact (show Tryd.prog.wantsStandIn t = false by simpa using List.all_eq_true.1 hall t hm)⟩)
    (by kernel_rfl)
#print axioms macRoutes_card
end Go.Proofs.YtknijlajopmjaaaDoor
