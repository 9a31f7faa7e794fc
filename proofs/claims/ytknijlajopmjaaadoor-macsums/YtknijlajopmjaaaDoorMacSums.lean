/-
  MacSums: under whatever key the sum of whatever pieces is the document's: the call returns true, and the arguments read as before.
-/
import Derived.Test.YtknijlajopmjaaaDoorMacAlive
import Derived.Test.YtknijlajopmjaaaDoorRefMac
import Derived.Test.YtknijlajopmjaaaDoorJoin
import Derived.Test.YtknijlajopmjaaaDoorHeavy04
import Derived.Test.YtknijlajopmjaaaDoorShaLaw
namespace Go.Proofs.YtknijlajopmjaaaDoor
open Go.ChangeShapes Go.WideShapes Go.ChangeAt Go.RowKit

set_option maxRecDepth 100000 in
set_option maxHeartbeats 1000000 in
theorem macSums_walk {w : World} (hk : Ks w) (kv : Value) (k : List Int) (_ : ∀ z ∈ k, Byte z) (hkv : Bytes w kv k) (v : Value) (L : List (List Int)) (_ : ∀ p ∈ L, ∀ z ∈ p, Byte z) (hv : Parts w v L) :
    Calls Tryd.prog 3 #[kv, v] w fun e w' => e = .returned (.bool true) ∧ Below w.heap.size w w' := by
  have A := hide (malive_any _ hk)
  have HK := hide hk
  have HV := hide hv
  have HU := hide hkv
  have HE := hide (fun wx (h : Parts wx v L) => heavy_any L v wx h)
  obtain ⟨ka, kcap, rfl, hkc1, hkc2⟩ := hkv.form
  obtain ⟨a, cap, rfl, hc1, hc2⟩ := hv.form
  clear hk hv hkv
  go_enter Tryd.func3, Tryd.ntmps3
  go_wp2_with fail
  refine A.out.mono ?_
  rintro e w1 ⟨rfl, hbel1⟩
  have HB1 := hide hbel1
  have HV1 := hide (HV.out.below hbel1)
  have HU1 := hide (HU.out.below hbel1)
  have X1 := hide (HE.out w1 HV1.out)
  clear hbel1 A HE
  go_wp2_with fail
  refine X1.out.mono ?_
  rintro e w2 ⟨rfl, rfl | ⟨rfl, hn1, hn2⟩⟩
  · go_wp2
    go_ret
    exact ⟨rfl, HB1.out⟩
  · by_cases hbig : 2000 < k.length
    · have hb : (2000 : Int) < (k.length : Int) := by omega
      clear hn1 hn2 hbig
      go_wp2
      go_ret
      exact ⟨rfl, HB1.out⟩
    · have hb : (k.length : Int) ≤ 2000 := by omega
      have HN : Hid (k.length ≤ 2000 ∧ L.flatten.length ≤ 2000) := hide ⟨by omega, hn2⟩
      have HML : Hid ((macI k L.flatten).length = 32) := hide (digest_length _)
      have X2 := hide (mac_flat w2 _ k _ L L.flatten HU1.out rfl HV1.out (HK.out.on HB1.out) (by have := HN.out; omega) (by have := HN.out; omega))
      have XJ := hide (fun wx (h : Parts wx (.slice a L.length cap) L) => rjoin_any L _ wx h (by have := HN.out; omega))
      have X3 := hide (fun wx p (h1 : Bytes wx (.slice ka k.length kcap) k) (h2 : Bytes wx p L.flatten) => rmac_any wx _ k p L.flatten h1 h2 (by have := HN.out; omega) (by have := HN.out; omega))
      have EQ := fun wx => eql_hash (macI k L.flatten) HML.out wx
      clear hn1 hn2 hbig
      generalize macI k L.flatten = MM at *
      generalize hfl : L.flatten = FL at *
      clear hfl
      go_wp2_with fail
      refine X2.out.mono ?_
      rintro e w3 ⟨rfl, hbel3⟩
      have HB3 := hide (below_on HB1.out hbel3)
      have HU3 := hide (HU1.out.below hbel3)
      have XJ3 := hide (XJ.out w3 (HV1.out.below hbel3))
      clear hbel3 X2 XJ
      go_wp2_with fail
      refine XJ3.out.mono ?_
      rintro e w4 ⟨v4, rfl, ho4, hbel4⟩
      have HB4 := hide (below_on HB3.out hbel4)
      have X5 := hide (X3.out w4 v4 (HU3.out.below hbel4) ho4.bytes)
      obtain ⟨a4, cap4, rfl, -, -⟩ := ho4.bytes.form
      clear hbel4 ho4 XJ3 X3
      go_wp2_with fail
      refine X5.out.mono ?_
      rintro e w5 ⟨rfl, hbel5⟩
      have HB5 := hide (below_on HB4.out hbel5)
      clear hbel5
      go_wp2
      go_ret
      exact ⟨rfl, HB5.out⟩

set_option maxRecDepth 100000 in
theorem macSums_lifted (os : Os) (started : os.Started) (H : Type) (enc : TypeId × Value → H) :
    ReturnsInHanded {} Tryd.checked os 3 .any (fun w args => (Rows.macSumsSpec.pre enc Tryd.prog Tryd.f3 [] false w args ∧ laidMetH Tryd.prog laid1 w) ∧ sizedMet enc Tryd.prog Tryd.f3 (OpenSpec.ofChange Rows.macSumsSpec) false w args)
      (Rows.macSumsSpec.post enc Tryd.prog Tryd.f3 false true false false) := by
  refine returnsInHanded_of_change_and (C := Tryd.checked) (X := fun w _ => laidMetH Tryd.prog laid1 w) (fun _ _ _ hh h => h.of_heap hh) own started (by kernel_rfl) Tryd.func3
    (ChangeSpec.witness_shaped (enc := enc) (C := Tryd.checked) (os := os) (X := fun w _ => laidMetH Tryd.prog laid1 w) false (World.doorLaid Tryd.prog 14 os) #[.slice none 0 0, .slice none 0 0] 8 rfl (World.shaped_of_RefB (by kernel_rfl) (by kernel_rfl)) (by kernel_rfl) (by kernel_rfl) (by kernel_rfl) (door_met os _)) ?_
  intro W base args ds gs before hval0 hW _ _ hL _
  have hval : ∀ (j : Nat) t v, Tryd.f3.params[j]? = some t → args[j]? = some v → Value.okWide Tryd.prog W .any base t v := hval0
  have hW' := hW
  obtain ⟨p, q, hA0, hV, rfl, hfz, hnd⟩ := hW
  have hA : DataW.TrodAll enc Tryd.prog W 0 (fun _ => true) true Tryd.f3.params.toList args.toList ds p := hA0
  rw [Tryd.params3] at hA hval
  obtain ⟨v0, vs0, d0, ds0, p0, q0, hargs, rfl, rfl, h0, r0⟩ := trodAll_cons hA
  obtain ⟨v1, vs1, d1, ds1, p1, q1, rfl, rfl, rfl, h1, r1⟩ := trodAll_cons r0
  obtain ⟨rfl, rfl, rfl⟩ := trodAll_nil r1
  obtain rfl : args = #[v0, v1] := by cases args; simp_all
  obtain ⟨rfl, rfl⟩ := trodVars_none hV
  obtain ⟨b0, len0, cap0, rfl⟩ := okWide_slice Tryd.underlying22 (hval 0 22 v0 rfl rfl)
  have k0 := h0
  have lt0 : ∀ x ∈ p0, x.block < W.heap.size := by obtain ⟨m, hm⟩ := k0; exact DataW.trod_lt m _ _ _ hm
  obtain ⟨l0, s0, w0⟩ : ∃ l, Bytes W (.slice b0 len0 cap0) l ∧ ∀ z ∈ l, Byte z := by
    obtain ⟨fuel, hf⟩ := h0
    rcases open_ints Tryd.underlying22 Tryd.underlying5 (by kernel_rfl) hf with ⟨hcs, _⟩ | ⟨x, l, c, zs, hcs, _, hl, hm, hz, _, hcell, hwz⟩
    · simp [Value.cells] at hcs
      obtain ⟨rfl, rfl, rfl⟩ := hcs
      exact ⟨[], Bytes.nil _, by simp⟩
    · simp [Value.cells] at hcs
      obtain ⟨rfl, rfl, rfl⟩ := hcs
      exact bytes_row hl hm (by simpa using hz) hcell hwz
  obtain ⟨b1, len1, cap1, rfl⟩ := okWide_slice Tryd.underlying23 (hval 1 23 v1 rfl rfl)
  have k1 := h1
  have lt1 : ∀ x ∈ p1, x.block < W.heap.size := by obtain ⟨m, hm⟩ := k1; exact DataW.trod_lt m _ _ _ hm
  obtain ⟨l1, s1, w1⟩ : ∃ l, Parts W (.slice b1 len1 cap1) l ∧ ∀ p ∈ l, ∀ z ∈ p, Byte z := by
    obtain ⟨fuel, hf⟩ := h1
    rcases Go.Deep.open_int_rows Tryd.underlying23 Tryd.underlying22 Tryd.underlying5 (by kernel_rfl) (by kernel_rfl) hf with ⟨hcs, _⟩ | ⟨a, len, cap, A, L, C, Z, hcs, _, hl, hm, _, hrows⟩
    · simp [Value.cells] at hcs
      obtain ⟨rfl, rfl, rfl⟩ := hcs
      exact ⟨[], Parts.none _, by simp⟩
    · simp [Value.cells] at hcs
      obtain ⟨rfl, rfl, rfl⟩ := hcs
      exact parts_row hl hm hrows
  clear hA0 hval0
  refine (macSums_walk (w := W) (ks_of_laid hL) _ l0 w0 s0 _ l1 w1 s1).mono fun e W' ⟨he, bel⟩ => ?_
  subst he
  exact ⟨_, rfl, _, _, _, [], _, [], hW', trodAll_mk1 (shut_bool Tryd.underlying4 _), (trodAll_cons_mk (Below.trod laidOut (by kernel_rfl) (of_decide_eq_true (by kernel_rfl)) k0 bel lt0) (trodAll_cons_mk (Below.trod laidOut (by kernel_rfl) (of_decide_eq_true (by kernel_rfl)) k1 bel lt1) trodAll_mk0)), rfl, bel.frame _, fun h => by cases h⟩

theorem macSums_holds : Rows.MacSumsSaid :=
  OpenClaim.holds_of_wide 3 Tryd.f3 rfl rfl rfl rfl rfl rfl rfl ⟨rfl, rfl, rfl, rfl, rfl⟩ rfl rfl rfl rfl rfl (by kernel_rfl) Tryd.func3 (by kernel_rfl)
    (of_decide_eq_true (by kernel_rfl)) (by unfold Func.isWrapper; first | (rw [if_pos (by decide +kernel)]; kernel_rfl) | (rw [if_neg (by decide +kernel)]; exact ⟨rfl, rfl⟩))
    (fun os started H enc _ => macSums_lifted os started H enc)
#print axioms macSums_holds
theorem macSums_card : Rows.MacSumsCardSaid :=
  Claim7.holds_tied_plain_at .later [] [.data] true (true, "173da7fa971a5d4b19b9988b9cc45fa2aa5c8cacbb2b37105ebacdc430575515") false
    macSums_holds (fun _ h => by cases h) (by kernel_rfl) (fun _ h => by cases h) macSums_row_tie rfl ⟨rfl, rfl⟩ (by kernel_rfl) rfl
    (fun f fn hf hfn => by
      obtain rfl : f = 3 := Option.some.inj ((show Tryd.prog.funcNamed "pappus/pappuslaw04.MacSums" = some 3 by kernel_rfl).symm.trans hf) |>.symm
      obtain rfl : fn = Tryd.f3 := (Option.some.inj (Tryd.func3.symm.trans hfn)).symm
      exact ⟨by kernel_rfl, fun j t ht => by
        rw [Tryd.params3] at ht
        have hm : t ∈ [22, 23] := by simpa using Array.mem_of_getElem? ht
        have hall : ([22, 23].all fun u => !Tryd.prog.wantsStandIn u) = true := by kernel_rfl
        exact (show Tryd.prog.wantsStandIn t = false by simpa using List.all_eq_true.1 hall t hm)⟩)
    (by kernel_rfl)
#print axioms macSums_card
end Go.Proofs.YtknijlajopmjaaaDoor
