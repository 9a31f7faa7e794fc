/-
  MacWays: a source's way is one of those there are, as often as it is asked, of one way it is that one; no source, or no way, is refused: the call returns true, and the argument reads as before.
-/
import Derived.Test.YtknijlajopmjaabDoorMacAlive
import Derived.Test.YtknijlajopmjaabDoorMacRoute
import Derived.Test.YtknijlajopmjaabDoorMacWay
import Derived.Test.YtknijlajopmjaabDoorShaLaw
namespace Go.Proofs.YtknijlajopmjaabDoor
open Go.ChangeShapes Go.WideShapes Go.ChangeAt Go.RowKit

set_option maxRecDepth 100000 in
set_option maxHeartbeats 1000000 in
theorem macWays_walk {w : World} (hk : Ks w) (salt : List Int) (ep s n : Int) (hl : salt.length = 32) (_ : ∀ z ∈ salt, Byte z) (hep : Word ep) (hs : -9223372036854775808 ≤ s ∧ s ≤ 9223372036854775807) (hn : -9223372036854775808 ≤ n ∧ n ≤ 9223372036854775807) :
    Calls Tryd.prog 3 #[.agg (wayCells salt ep s n).toArray] w fun e w' => e = .returned (.bool true) ∧ Below w.heap.size w w' := by
  have hB0 := (Below.refl w.heap.size w).alloc (Nat.le_refl _) (.cells (wayCells salt ep s n).toArray 26)
  have HA0 := hide (way_box w salt ep s n 26 hl)
  have A := hide (malive_any _ (hk.on hB0))
  have HB0 := hide hB0
  have HK := hide hk
  have R0 := hide (fun wx j => route_any salt ep s n wx hl hep hs hn j)
  have R1 := hide (fun wx j => route_any salt ep s 1 wx hl hep hs (by decide) j)
  have HI : Hid ((Tryd.prog.info? 23).map (·.size) = some (vals .u8 salt).length) := hide (by rw [vals_length, hl]; exact info_h)
  clear hk hB0 hl hep
  generalize wayCells salt ep s n = CS at *
  by_cases hbad : routeB s n
  · rw [show routeX salt ep s n = 0 by rw [routeX, if_pos hbad], show routeE s n = 2 by rw [routeE, if_pos hbad]] at R0
    clear R1
    go_enter Tryd.func3, Tryd.ntmps3
    go_wp2_with fail
    refine A.out.mono ?_
    rintro e w1 ⟨rfl, hbel1⟩
    have HB1 := hide (below_on HB0.out hbel1)
    have hA1 := HA0.out.on hbel1
    have HR1 := hide hA1.1
    obtain ⟨-, c1, c2, c3⟩ := id hA1
    have HA1 := hide hA1
    clear hbel1 A hA1
    go_wp2_with (refine wpList_load_mid rfl 23 (.tmp 12) rfl _ 0 rfl (vals .u8 salt) _ HR1.out Tryd.underlying23 rfl HI.out ?_)
    refine (R0.out w1 (HK.out.on HB1.out)).mono ?_
    rintro e w2 ⟨rfl, hbel2⟩
    have HB2 := hide (below_on HB1.out hbel2)
    obtain ⟨-, d1, d2, d3⟩ := HA1.out.on hbel2
    clear hbel2 c1 c2 c3
    by_cases h1 : s < 0
    · clear hbad
      go_wp2
      go_ret
      exact ⟨rfl, HB2.out⟩
    · have h1' : 0 ≤ s := by omega
      by_cases h2 : 64 < s
      · clear hbad h1
        go_wp2
        go_ret
        exact ⟨rfl, HB2.out⟩
      · have h2' : s ≤ 64 := by omega
        have h3 : n < 1 := by
          rcases hbad with h | h | h
          · omega
          · omega
          · exact h
        clear hbad h1 h2
        go_wp2
        go_ret
        exact ⟨rfl, HB2.out⟩
  · have hbad1 : ¬ routeB s 1 := by unfold routeB at hbad ⊢; omega
    have h1' : 0 ≤ s := by unfold routeB at hbad; omega
    have h2' : s ≤ 64 := by unfold routeB at hbad; omega
    have h3' : 1 ≤ n := by unfold routeB at hbad; omega
    rw [show routeE s n = 0 by rw [routeE, if_neg hbad]] at R0
    rw [show routeX salt ep s 1 = 0 by rw [routeX, if_neg hbad1, pickX, if_neg (by decide)]; omega, show routeE s 1 = 0 by rw [routeE, if_neg hbad1]] at R1
    have q : 0 ≤ routeX salt ep s n ∧ routeX salt ep s n < n := by
      rw [routeX, if_neg hbad, pickX, if_neg (by omega)]
      exact ⟨Int.emod_nonneg _ (by omega), Int.emod_lt_of_pos _ (by omega)⟩
    obtain ⟨q0, q1⟩ := q
    clear hbad hbad1
    generalize routeX salt ep s n = X at *
    go_enter Tryd.func3, Tryd.ntmps3
    go_wp2_with fail
    refine A.out.mono ?_
    rintro e w1 ⟨rfl, hbel1⟩
    have HB1 := hide (below_on HB0.out hbel1)
    have hA1 := HA0.out.on hbel1
    have HR1 := hide hA1.1
    obtain ⟨-, c1, c2, c3⟩ := id hA1
    have HA1 := hide hA1
    clear hbel1 A hA1
    go_wp2_with (refine wpList_load_mid rfl 23 (.tmp 12) rfl _ 0 rfl (vals .u8 salt) _ HR1.out Tryd.underlying23 rfl HI.out ?_)
    refine (R0.out w1 (HK.out.on HB1.out)).mono ?_
    rintro e w2 ⟨rfl, hbel2⟩
    have HB2 := hide (below_on HB1.out hbel2)
    have hA2 := HA1.out.on hbel2
    have HR2 := hide hA2.1
    obtain ⟨-, d1, d2, d3⟩ := id hA2
    have HA2 := hide hA2
    clear hbel2 hA2 c1 c2 c3
    go_wp2_with (refine wpList_load_mid rfl 23 (.tmp 43) rfl _ 0 rfl (vals .u8 salt) _ HR2.out Tryd.underlying23 rfl HI.out ?_)
    refine (R0.out w2 (HK.out.on HB2.out)).mono ?_
    rintro e w3 ⟨rfl, hbel3⟩
    have HB3 := hide (below_on HB2.out hbel3)
    have hA3 := HA2.out.on hbel3
    have HR3 := hide hA3.1
    obtain ⟨-, f1, f2, f3⟩ := id hA3
    have HA3 := hide hA3
    clear hbel3 hA3 d1 d2 d3
    go_wp2_with (refine wpList_load_mid rfl 23 (.tmp 55) rfl _ 0 rfl (vals .u8 salt) _ HR3.out Tryd.underlying23 rfl HI.out ?_)
    refine (R1.out w3 (HK.out.on HB3.out)).mono ?_
    rintro e w4 ⟨rfl, hbel4⟩
    have HB4 := hide (below_on HB3.out hbel4)
    obtain ⟨-, k1, k2, k3⟩ := HA3.out.on hbel4
    clear hbel4 f1 f2 f3
    go_wp2
    go_ret
    exact ⟨rfl, HB4.out⟩

set_option maxRecDepth 100000 in
theorem macWays_lifted (os : Os) (started : os.Started) (H : Type) (enc : TypeId × Value → H) :
    ReturnsInHanded {} Tryd.checked os 3 .any (fun w args => (Rows.macWaysSpec.pre enc Tryd.prog Tryd.f3 [] false w args ∧ laidMetH Tryd.prog laid1 w) ∧ sizedMet enc Tryd.prog Tryd.f3 (OpenSpec.ofChange Rows.macWaysSpec) false w args)
      (Rows.macWaysSpec.post enc Tryd.prog Tryd.f3 false true false false) := by
  refine returnsInHanded_of_change_and (C := Tryd.checked) (X := fun w _ => laidMetH Tryd.prog laid1 w) (fun _ _ _ hh h => h.of_heap hh) own started (by kernel_rfl) Tryd.func3
    (ChangeSpec.witness_shaped (enc := enc) (C := Tryd.checked) (os := os) (X := fun w _ => laidMetH Tryd.prog laid1 w) false (World.doorLaid Tryd.prog 14 os) #[.agg #[.int .u8 0, .int .u8 0, .int .u8 0, .int .u8 0, .int .u8 0, .int .u8 0, .int .u8 0, .int .u8 0, .int .u8 0, .int .u8 0, .int .u8 0, .int .u8 0, .int .u8 0, .int .u8 0, .int .u8 0, .int .u8 0, .int .u8 0, .int .u8 0, .int .u8 0, .int .u8 0, .int .u8 0, .int .u8 0, .int .u8 0, .int .u8 0, .int .u8 0, .int .u8 0, .int .u8 0, .int .u8 0, .int .u8 0, .int .u8 0, .int .u8 0, .int .u8 0, .int .u64 0, .int .i64 0, .int .i64 0]] 8 rfl (World.shaped_of_RefB (by kernel_rfl) (by kernel_rfl)) (by kernel_rfl) (by kernel_rfl) (by kernel_rfl) (door_met os _)) ?_
  intro W base args ds gs before hval0 hW _ _ hL _
  have hval : ∀ (j : Nat) t v, Tryd.f3.params[j]? = some t → args[j]? = some v → Value.okWide Tryd.prog W .any base t v := hval0
  have hW' := hW
  obtain ⟨p, q, hA0, hV, rfl, hfz, hnd⟩ := hW
  have hA : DataW.TrodAll enc Tryd.prog W 0 (fun _ => true) true Tryd.f3.params.toList args.toList ds p := hA0
  rw [Tryd.params3] at hA hval
  obtain ⟨v0, vs0, d0, ds0, p0, q0, hargs, rfl, rfl, h0, r0⟩ := trodAll_cons hA
  obtain ⟨rfl, rfl, rfl⟩ := trodAll_nil r0
  obtain rfl : args = #[v0] := by cases args; simp_all
  obtain ⟨rfl, rfl⟩ := trodVars_none hV
  have k0 := h0
  have lt0 : ∀ x ∈ p0, x.block < W.heap.size := by obtain ⟨m, hm⟩ := k0; exact DataW.trod_lt m _ _ _ hm
  obtain ⟨l0, x0, y0, z0, rfl, n0, w0, wx0, wy0, wz0⟩ := way_came (ta := 23) (e := 5) (tu := 24) (ti := 3) Tryd.underlying26 (by kernel_rfl) ⟨rfl, rfl⟩ ⟨rfl, rfl⟩ ⟨rfl, rfl⟩ ⟨rfl, rfl⟩ Tryd.underlying23 Tryd.underlying5 (by kernel_rfl) (by kernel_rfl) Tryd.underlying24 (by kernel_rfl) Tryd.underlying3 (by kernel_rfl) (hval 0 26 v0 rfl rfl) h0
  clear hA0 hval0
  refine (macWays_walk (w := W) (ks_of_laid hL) l0 x0 y0 z0 n0 (fun z hz => byte_of_wf (w0 z hz)) (word_of_wf wx0) (int_of_wf wy0) (int_of_wf wz0)).mono fun e W' ⟨he, bel⟩ => ?_
  subst he
  exact ⟨_, rfl, _, _, _, [], _, [], hW', trodAll_mk1 (shut_bool Tryd.underlying4 _), (trodAll_cons_mk (Below.trod laidOut (by kernel_rfl) (of_decide_eq_true (by kernel_rfl)) k0 bel lt0) trodAll_mk0), rfl, bel.frame _, fun h => by cases h⟩

theorem macWays_holds : Rows.MacWaysSaid :=
  OpenClaim.holds_of_wide 3 Tryd.f3 rfl rfl rfl rfl rfl rfl rfl ⟨rfl, rfl, rfl, rfl, rfl⟩ rfl rfl rfl rfl rfl (by kernel_rfl) Tryd.func3 (by kernel_rfl)
    (of_decide_eq_true (by kernel_rfl)) (by unfold Func.isWrapper; first | (rw [if_pos (by decide +kernel)]; kernel_rfl) | (rw [if_neg (by decide +kernel)]; exact ⟨rfl, rfl⟩))
    (fun os started H enc _ => macWays_lifted os started H enc)
#print axioms macWays_holds
theorem macWays_card : Rows.MacWaysCardSaid :=
  Claim7.holds_tied_plain_at .later [] [.data] true (true, "a5cbd24cdeef247761071f5f19b6634ca917d1c888db6c46c4082a0dfb72091e") false
    macWays_holds (fun _ h => by cases h) (by kernel_rfl) (fun _ h => by cases h) macWays_row_tie rfl ⟨rfl, rfl⟩ (by kernel_rfl) rfl
    (fun f fn hf hfn => by
      obtain rfl : f = 3 := Option.some.inj ((show Tryd.prog.funcNamed "pappus/pappuslaw04.MacWays" = some 3 by kernel_rfl).symm.trans hf) |>.symm
      obtain rfl : fn = Tryd.f3 := (Option.some.inj (Tryd.func3.symm.trans hfn)).symm
      exact ⟨by kernel_rfl, fun j t ht => by
        rw [Tryd.params3] at ht
        have hm : t ∈ [26] := by simpa using Array.mem_of_getElem? ht
        have hall : ([26].all fun u => !Tryd.prog.wantsStandIn u) = true := by kernel_rfl
        exact (show Tryd.prog.wantsStandIn t = false by simpa using List.all_eq_true.1 hall t hm)⟩)
    (by kernel_rfl)
#print axioms macWays_card
end Go.Proofs.YtknijlajopmjaabDoor
