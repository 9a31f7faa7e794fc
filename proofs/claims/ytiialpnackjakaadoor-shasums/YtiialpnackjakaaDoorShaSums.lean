/-
  ShaSums: of whatever pieces, their sum, the sum of the sum and the check are the document's: the call returns true, and the pieces read as before.
-/
import Derived.Test.YtiialpnackjakaaDoorShaLaw
import Derived.Test.YtiialpnackjakaaDoorShaAlive
import Derived.Test.YtiialpnackjakaaDoorShaTw
import Derived.Test.YtiialpnackjakaaDoorRefTw
import Derived.Test.YtiialpnackjakaaDoorJoin
import Derived.Test.YtiialpnackjakaaDoorHeavy03
namespace Go.Proofs.YtiialpnackjakaaDoor
open Go.ChangeShapes Go.WideShapes Go.ChangeAt Go.RowKit

set_option maxRecDepth 100000 in
set_option maxHeartbeats 1000000 in
theorem shaSums_walk {w : World} (hk : Ks w) (v : Value) (L : List (List Int)) (_ : ∀ p ∈ L, ∀ z ∈ p, Byte z) (hv : Parts w v L) :
    Calls Tryd.prog 3 #[v] w fun e w' => e = .returned (.bool true) ∧ Below w.heap.size w w' := by
  have A := hide (alive_any _ hk)
  have HK := hide hk
  have HV := hide hv
  have HE := hide (fun wx (h : Parts wx v L) => heavy_any L v wx h)
  obtain ⟨a, cap, rfl, hc1, hc2⟩ := hv.form
  clear hk hv
  go_enter Tryd.func3, Tryd.ntmps3
  go_wp2_with fail
  refine A.out.mono ?_
  rintro e w1 ⟨rfl, hbel1⟩
  have HB1 := hide hbel1
  have HV1 := hide (HV.out.below hbel1)
  have X1 := hide (HE.out w1 HV1.out)
  clear hbel1 A HE
  go_wp2_with fail
  refine X1.out.mono ?_
  rintro e w2 ⟨rfl, rfl | ⟨rfl, hn1, hn2⟩⟩
  · go_wp2
    go_ret
    exact ⟨rfl, HB1.out⟩
  · have HN : Hid (L.flatten.length ≤ 4000) := hide hn2
    have HL1 := hide (digest_length L.flatten)
    have HL2 := hide (digest_length (digest L.flatten))
    have XJ := hide (rjoin_any L _ w2 HV1.out (by have := HN.out; omega))
    have XS := hide (fun wx (h : Parts wx (.slice a L.length cap) L) (k : Ks wx) => sum_flat wx _ L L.flatten rfl h k (by have := HN.out; omega))
    have XR := hide (fun wx p (h : Bytes wx p L.flatten) => rsum_any wx p L.flatten h (by have := HN.out; omega))
    have XT := hide (fun wx (h : Parts wx (.slice a L.length cap) L) (k : Ks wx) => twice_flat wx _ L L.flatten rfl h k (by have := HN.out; omega))
    have XU := hide (fun wx p (h : Bytes wx p L.flatten) => rtwice_any wx p L.flatten h (by have := HN.out; omega))
    have XC := hide (fun wx p (h : Bytes wx p L.flatten) (k : Ks wx) => check_any wx p L.flatten h k (by have := HN.out; omega))
    have XD := hide (fun wx p (h : Bytes wx p L.flatten) => rcheck_any wx p L.flatten h (by have := HN.out; omega))
    have EQ1 := fun wx => eql_hash (digest L.flatten) HL1.out wx
    have EQ2 := fun wx => eql_hash (digest (digest L.flatten)) HL2.out wx
    clear hn1 hn2
    generalize checkI (digest (digest L.flatten)) = CK at *
    generalize digest (digest L.flatten) = D2 at *
    generalize digest L.flatten = D1 at *
    generalize hfl : L.flatten = FL at *
    clear hfl
    go_wp2_with fail
    refine XJ.out.mono ?_
    rintro e w3 ⟨v3, rfl, ho3, hbel3⟩
    have HB3 := hide (below_on HB1.out hbel3)
    have HV3 := hide (HV1.out.below hbel3)
    have HO3 := hide ho3.bytes
    obtain ⟨a3, cap3, rfl, -, -⟩ := ho3.bytes.form
    have X3 := hide (XS.out w3 HV3.out (HK.out.on HB3.out))
    clear hbel3 ho3 XJ XS
    go_wp2_with fail
    refine X3.out.mono ?_
    rintro e w4 ⟨rfl, hbel4⟩
    have HB4 := hide (below_on HB3.out hbel4)
    have HV4 := hide (HV3.out.below hbel4)
    have HO4 := hide (HO3.out.below hbel4)
    have X4 := hide (XR.out w4 _ HO4.out)
    clear hbel4 X3 XR
    go_wp2_with fail
    refine X4.out.mono ?_
    rintro e w5 ⟨rfl, hbel5⟩
    have HB5 := hide (below_on HB4.out hbel5)
    have HV5 := hide (HV4.out.below hbel5)
    have HO5 := hide (HO4.out.below hbel5)
    have X5 := hide (XT.out w5 HV5.out (HK.out.on HB5.out))
    clear hbel5 X4 XT
    go_wp2_with fail
    refine X5.out.mono ?_
    rintro e w6 ⟨rfl, hbel6⟩
    have HB6 := hide (below_on HB5.out hbel6)
    have HO6 := hide (HO5.out.below hbel6)
    have X6 := hide (XU.out w6 _ HO6.out)
    clear hbel6 X5 XU
    go_wp2_with fail
    refine X6.out.mono ?_
    rintro e w7 ⟨rfl, hbel7⟩
    have HB7 := hide (below_on HB6.out hbel7)
    have HO7 := hide (HO6.out.below hbel7)
    have X7 := hide (XC.out w7 _ HO7.out (HK.out.on HB7.out))
    clear hbel7 X6 XC
    go_wp2_with fail
    refine X7.out.mono ?_
    rintro e w8 ⟨rfl, hbel8⟩
    have HB8 := hide (below_on HB7.out hbel8)
    have X8 := hide (XD.out w8 _ (HO7.out.below hbel8))
    clear hbel8 X7 XD
    go_wp2_with fail
    refine X8.out.mono ?_
    rintro e w9 ⟨rfl, hbel9⟩
    have HB9 := hide (below_on HB8.out hbel9)
    clear hbel9
    go_wp2
    go_ret
    exact ⟨rfl, HB9.out⟩

set_option maxRecDepth 100000 in
theorem shaSums_lifted (os : Os) (started : os.Started) (H : Type) (enc : TypeId × Value → H) :
    ReturnsInHanded {} Tryd.checked os 3 .any (fun w args => (Rows.shaSumsSpec.pre enc Tryd.prog Tryd.f3 [] false w args ∧ laidMetH Tryd.prog laid1 w) ∧ sizedMet enc Tryd.prog Tryd.f3 (OpenSpec.ofChange Rows.shaSumsSpec) false w args)
      (Rows.shaSumsSpec.post enc Tryd.prog Tryd.f3 false true false false) := by
  refine returnsInHanded_of_change_and (C := Tryd.checked) (X := fun w _ => laidMetH Tryd.prog laid1 w) (fun _ _ _ hh h => h.of_heap hh) own started (by kernel_rfl) Tryd.func3
    (ChangeSpec.witness_shaped (enc := enc) (C := Tryd.checked) (os := os) (X := fun w _ => laidMetH Tryd.prog laid1 w) false (World.doorLaid Tryd.prog 14 os) #[.slice none 0 0] 8 rfl (World.shaped_of_RefB (by kernel_rfl) (by kernel_rfl)) (by kernel_rfl) (by kernel_rfl) (by kernel_rfl) (door_met os _)) ?_
  intro W base args ds gs before hval0 hW _ _ hL _
  have hval : ∀ (j : Nat) t v, Tryd.f3.params[j]? = some t → args[j]? = some v → Value.okWide Tryd.prog W .any base t v := hval0
  have hW' := hW
  obtain ⟨p, q, hA0, hV, rfl, hfz, hnd⟩ := hW
  have hA : DataW.TrodAll enc Tryd.prog W 0 (fun _ => true) true Tryd.f3.params.toList args.toList ds p := hA0
  rw [Tryd.params3] at hA hval
  obtain ⟨v0, vs0, d0, ds0, p0, q0, hargs, rfl, rfl, h0, r0⟩ := trodAll_cons hA
  obtain ⟨rfl, rfl, rfl⟩ := trodAll_nil r0
  obtain rfl : args = #[v0] := by cases args; simp_all
  obtain ⟨rfl, rfl⟩ := trodVars_none hV
  obtain ⟨b0, len0, cap0, rfl⟩ := okWide_slice Tryd.underlying22 (hval 0 22 v0 rfl rfl)
  have k0 := h0
  have lt0 : ∀ x ∈ p0, x.block < W.heap.size := by obtain ⟨m, hm⟩ := k0; exact DataW.trod_lt m _ _ _ hm
  obtain ⟨l0, s0, w0⟩ : ∃ l, Parts W (.slice b0 len0 cap0) l ∧ ∀ p ∈ l, ∀ z ∈ p, Byte z := by
    obtain ⟨fuel, hf⟩ := h0
    rcases Go.Deep.open_int_rows Tryd.underlying22 Tryd.underlying25 Tryd.underlying5 (by kernel_rfl) (by kernel_rfl) hf with ⟨hcs, _⟩ | ⟨a, len, cap, A, L, C, Z, hcs, _, hl, hm, _, hrows⟩
    · simp [Value.cells] at hcs
      obtain ⟨rfl, rfl, rfl⟩ := hcs
      exact ⟨[], Parts.none _, by simp⟩
    · simp [Value.cells] at hcs
      obtain ⟨rfl, rfl, rfl⟩ := hcs
      exact parts_row hl hm hrows
  clear hA0 hval0
  refine (shaSums_walk (w := W) (ks_of_laid hL) _ l0 w0 s0).mono fun e W' ⟨he, bel⟩ => ?_
  subst he
  exact ⟨_, rfl, _, _, _, [], _, [], hW', trodAll_mk1 (shut_bool Tryd.underlying4 _), (trodAll_cons_mk (Below.trod laidOut (by kernel_rfl) (of_decide_eq_true (by kernel_rfl)) k0 bel lt0) trodAll_mk0), rfl, bel.frame _, fun h => by cases h⟩

theorem shaSums_holds : Rows.ShaSumsSaid :=
  OpenClaim.holds_of_wide 3 Tryd.f3 rfl rfl rfl rfl rfl rfl rfl ⟨rfl, rfl, rfl, rfl, rfl⟩ rfl rfl rfl rfl rfl (by kernel_rfl) Tryd.func3 (by kernel_rfl)
    (of_decide_eq_true (by kernel_rfl)) (by unfold Func.isWrapper; first | (rw [if_pos (by decide +kernel)]; kernel_rfl) | (rw [if_neg (by decide +kernel)]; exact ⟨rfl, rfl⟩))
    (fun os started H enc _ => shaSums_lifted os started H enc)
#print axioms shaSums_holds
theorem shaSums_card : Rows.ShaSumsCardSaid :=
  Claim7.holds_tied_plain_at .later [] [.data] true (true, "e2bf6f5e91ce445d977ce2167887c244d677419a0d19a28346c9810c7545a6a4") false
    shaSums_holds (fun _ h => by cases h) (by kernel_rfl) (fun _ h => by cases h) shaSums_row_tie rfl ⟨rfl, rfl⟩ (by kernel_rfl) rfl
    (fun f fn hf hfn => by
      obtain rfl : f = 3 := Option.some.inj ((show Tryd.prog.funcNamed "pappus/pappuslaw03.ShaSums" = some 3 by kernel_rfl).symm.trans hf) |>.symm
      obtain rfl : fn = Tryd.f3 := (Option.some.inj (Tryd.func3.symm.trans hfn)).symm
      exact ⟨by kernel_rfl, fun j t ht => by
        rw [Tryd.params3] at ht
        have hm : t ∈ [22] := by simpa using Array.mem_of_getElem? ht
        have hall : ([22].all fun u => !Tryd.prog.wantsStandIn u) = true := by kernel_rfl
        exact (show Tryd.prog.wantsStandIn t = false by simpa using List.all_eq_true.1 hall t hm)⟩)
    (by kernel_rfl)
#print axioms shaSums_card
end Go.Proofs.YtiialpnackjakaaDoor
