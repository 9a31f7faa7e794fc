/-
  ShaTwice: of whatever bytes, Twice is the sum of the sum and Check its first four bytes: the call returns true, and the bytes read as before.
-/
import Derived.Test.YtllldlpnocnagaaDoorShaLaw
import Derived.Test.YtllldlpnocnagaaDoorShaTw
namespace Go.Proofs.YtllldlpnocnagaaDoor
open Go.ChangeShapes Go.WideShapes Go.ChangeAt Go.RowKit

set_option maxRecDepth 100000 in
set_option maxHeartbeats 1000000 in
theorem shaTwice_walk {w : World} (hk : Ks w) (v : Value) (l : List Int) (_ : ∀ z ∈ l, Byte z) (hv : Bytes w v l) :
    Calls Tryd.prog 7 #[v] w fun e w' => e = .returned (.bool true) ∧ Below w.heap.size w w' := by
  have HK := hide hk
  have HV := hide hv
  have A := hide (alive_any w hk)
  obtain ⟨a, cap, rfl, hc1, hc2⟩ := hv.form
  clear hk hv
  by_cases hbig : 4000 < l.length
  · have hb : (4000 : Int) < (l.length : Int) := by omega
    clear hbig
    go_enter Tryd.func7, Tryd.ntmps7
    go_wp2_with fail
    refine A.out.mono ?_
    rintro e w1 ⟨rfl, hbel1⟩
    have HB1 := hide hbel1
    clear hbel1
    go_wp2
    go_ret
    exact ⟨rfl, HB1.out⟩
  · have hb : (l.length : Int) ≤ 4000 := by omega
    have S1 := hide (fun wx p (h : Bytes wx p l) (k : Ks wx) => sum_one wx p l h k (by omega))
    have TW := hide (fun wx p (h : Bytes wx p l) (k : Ks wx) => twice_flat (wx.alloc (.cells #[p] 25)) (.slice (some ⟨wx.heap.size, 0, none⟩) 1 1) [l] l (by simp) (Parts.one wx p l h) (k.alloc _) (by omega))
    have S2 := hide (fun wx p (h : Bytes wx p (digest l)) (k : Ks wx) => sum_one wx p (digest l) h k (by rw [digest_length]; omega))
    have CK := hide (fun wx p (h : Bytes wx p l) (k : Ks wx) => check_any wx p l h k (by omega))
    have HL1 := hide (digest_length l)
    have HL2 := hide (digest_length (digest l))
    clear hbig
    generalize digest (digest l) = D2 at *
    generalize digest l = D1 at *
    go_enter Tryd.func7, Tryd.ntmps7
    go_wp2_with fail
    refine A.out.mono ?_
    rintro e w1 ⟨rfl, hbel1⟩
    have HB1 := hide hbel1
    have HV1 := hide (HV.out.below hbel1)
    clear hbel1 A
    go_wp2_with fail
    refine (S1.out w1 _ HV1.out (HK.out.on HB1.out)).mono ?_
    rintro e w2 ⟨rfl, hbel2⟩
    have HB2 := hide (below_on HB1.out hbel2)
    have HV2 := hide (HV1.out.below hbel2)
    have KP := hide (hash_kept w2 D1 HL1.out)
    clear hbel2
    go_wp2_with (refine wp_store_arr rfl 28 (.tmp 3) (.tmp 12) rfl _ 0 .u8 D1 rfl rfl 32 (hash_there _) info_h HL1.out ?_)
    generalize (w2.alloc (.cells #[.int .u8 0, .int .u8 0, .int .u8 0, .int .u8 0, .int .u8 0, .int .u8 0, .int .u8 0, .int .u8 0, .int .u8 0, .int .u8 0, .int .u8 0, .int .u8 0, .int .u8 0, .int .u8 0, .int .u8 0, .int .u8 0, .int .u8 0, .int .u8 0, .int .u8 0, .int .u8 0, .int .u8 0, .int .u8 0, .int .u8 0, .int .u8 0, .int .u8 0, .int .u8 0, .int .u8 0, .int .u8 0, .int .u8 0, .int .u8 0, .int .u8 0, .int .u8 0] 28)).setCells w2.heap.size 0 (vals .u8 D1) = W3 at *
    have HB3 := hide (below_on HB2.out KP.out.1)
    have HV3 := hide (HV2.out.below KP.out.1)
    have HD1 := hide KP.out.2
    clear KP
    refine (TW.out W3 _ HV3.out (HK.out.on HB3.out)).mono ?_
    rintro e w4 ⟨rfl, hbel4⟩
    have hbel4 := box1 hbel4
    have HB4 := hide (below_on HB3.out hbel4)
    have HV4 := hide (HV3.out.below hbel4)
    have HD14 := hide (HD1.out.on hbel4)
    have KP := hide (hash_kept w4 D2 HL2.out)
    clear hbel4
    go_wp2_with (refine wp_store_arr rfl 28 (.tmp 4) (.tmp 15) rfl _ 0 .u8 D2 rfl rfl 32 (hash_there _) info_h HL2.out ?_)
    generalize (w4.alloc (.cells #[.int .u8 0, .int .u8 0, .int .u8 0, .int .u8 0, .int .u8 0, .int .u8 0, .int .u8 0, .int .u8 0, .int .u8 0, .int .u8 0, .int .u8 0, .int .u8 0, .int .u8 0, .int .u8 0, .int .u8 0, .int .u8 0, .int .u8 0, .int .u8 0, .int .u8 0, .int .u8 0, .int .u8 0, .int .u8 0, .int .u8 0, .int .u8 0, .int .u8 0, .int .u8 0, .int .u8 0, .int .u8 0, .int .u8 0, .int .u8 0, .int .u8 0, .int .u8 0] 28)).setCells w4.heap.size 0 (vals .u8 D2) = W5 at *
    have HB5 := hide (below_on HB4.out KP.out.1)
    have HV5 := hide (HV4.out.below KP.out.1)
    have HD15 := hide (HD14.out.on KP.out.1)
    have HD2 := hide KP.out.2
    have HK5 := hide (HK.out.on HB5.out)
    clear KP HB1 HV1 HB2 HV2 HB3 HV3 HB4 HV4 HD1 HD14 S1 TW
    have EQ := fun wx => eql_hash D2 HL2.out wx
    have hu28 := Tryd.underlying28
    have hi28 : (Tryd.prog.info? 28).map (·.size) = some (vals .u8 D2).length := by rw [vals_length, HL2.out]; exact info_h
    have S2D := hide (fun p (h : Bytes W5 p D1) => show Calls Tryd.prog 12 #[.slice (some ⟨W5.heap.size, 0, none⟩) 1 1] (W5.alloc (.cells #[p] 25)).drew (fun e w' => e = .returned (.agg (vals .u8 D2).toArray) ∧ Below W5.heap.size W5 w') from (S2.out W5.drew p h.drew (HK5.out.on (Below.refl _ _).drew)).mono (by
      rintro e w' ⟨rfl, hb⟩
      exact ⟨rfl, below_on (Below.refl _ _).drew hb⟩))
    obtain ⟨X, hX⟩ : ∃ X, checkI D2 = X := ⟨_, rfl⟩
    rw [hX] at CK
    have hc : ∀ wx, Below W5.heap.size W5 wx → Below W5.heap.size W5 wx ∧ wx.rangeAt w4.heap.size 0 (vals .u8 D2) ∧ wx.cell? ⟨w4.heap.size, 0, none⟩ = some (.int .u8 (D2.getD 0 0)) ∧ wx.cell? ⟨w4.heap.size, 1, none⟩ = some (.int .u8 (D2.getD 1 0)) ∧ wx.cell? ⟨w4.heap.size, 2, none⟩ = some (.int .u8 (D2.getD 2 0)) ∧ wx.cell? ⟨w4.heap.size, 3, none⟩ = some (.int .u8 (D2.getD 3 0)) := fun wx hx =>
      have h := HD2.out.on hx
      have hl := HL2.out
      ⟨hx, h.1, h.cell0 0 (by omega), h.cell0 1 (by omega), h.cell0 2 (by omega), h.cell0 3 (by omega)⟩
    have hsp : bits .or .u32 (bits .or .u32 (bits .or .u32 (IntKind.u32.wrap (D2.getD 0 0)) (IntKind.u32.wrap (IntKind.u32.wrap (D2.getD 1 0) * 256))) (IntKind.u32.wrap (IntKind.u32.wrap (D2.getD 2 0) * 65536))) (IntKind.u32.wrap (IntKind.u32.wrap (D2.getD 3 0) * 16777216)) = X := by
      rw [← hX]
      simp only [wrap_u32, checkI]
    clear hX
    generalize D2.getD 0 0 = d0 at *
    generalize D2.getD 1 0 = d1 at *
    generalize D2.getD 2 0 = d2 at *
    generalize D2.getD 3 0 = d3 at *
    have HC := hide hc
    clear hc
    generalize w4.heap.size = g at *
    generalize w2.heap.size = g1 at *
    go_region_held3 (fun wx => Below W5.heap.size W5 wx ∧ wx.rangeAt g 0 (vals .u8 D2) ∧ wx.cell? ⟨g, 0, none⟩ = some (.int .u8 d0) ∧ wx.cell? ⟨g, 1, none⟩ = some (.int .u8 d1) ∧ wx.cell? ⟨g, 2, none⟩ = some (.int .u8 d2) ∧ wx.cell? ⟨g, 3, none⟩ = some (.int .u8 d3))
      (((with_reducible refine HC.out _ ?_); (repeat (with_reducible first | exact hb7 | exact hb6 | exact Below.refl _ _ | refine Below.drew ?_ | refine below_alloc ?_ _ | fail))))
      (first
        | (go_at_call 12; refine (S2D.out _ (HD15.out.bytes32 HL1.out)).mono ?_; rintro e w6 ⟨rfl, hb6⟩)
        | (go_at_call 16; refine (CK.out _ _ (HV5.out.below hb6) (HK5.out.on hb6)).mono ?_; rintro e w7 ⟨rfl, hbel7⟩; have hb7 : Below W5.heap.size W5 w7 := below_on hb6 hbel7))
    go_wp2
    go_ret
    exact ⟨rfl, below_on HB5.out hb7⟩

set_option maxRecDepth 100000 in
theorem shaTwice_lifted (os : Os) (started : os.Started) (H : Type) (enc : TypeId × Value → H) :
    ReturnsInHanded {} Tryd.checked os 7 .any (fun w args => (Rows.shaTwiceSpec.pre enc Tryd.prog Tryd.f7 [] false w args ∧ laidMetH Tryd.prog laid1 w) ∧ sizedMet enc Tryd.prog Tryd.f7 (OpenSpec.ofChange Rows.shaTwiceSpec) false w args)
      (Rows.shaTwiceSpec.post enc Tryd.prog Tryd.f7 false true false false) := by
  refine returnsInHanded_of_change_and (C := Tryd.checked) (X := fun w _ => laidMetH Tryd.prog laid1 w) (fun _ _ _ hh h => h.of_heap hh) own started (by kernel_rfl) Tryd.func7
    (ChangeSpec.witness_shaped (enc := enc) (C := Tryd.checked) (os := os) (X := fun w _ => laidMetH Tryd.prog laid1 w) false (World.doorLaid Tryd.prog 14 os) #[.slice none 0 0] 8 rfl (World.shaped_of_RefB (by kernel_rfl) (by kernel_rfl)) (by kernel_rfl) (by kernel_rfl) (by kernel_rfl) (door_met os _)) ?_
  intro W base args ds gs before hval0 hW _ _ hL _
  have hval : ∀ (j : Nat) t v, Tryd.f7.params[j]? = some t → args[j]? = some v → Value.okWide Tryd.prog W .any base t v := hval0
  have hW' := hW
  obtain ⟨p, q, hA0, hV, rfl, hfz, hnd⟩ := hW
  have hA : DataW.TrodAll enc Tryd.prog W 0 (fun _ => true) true Tryd.f7.params.toList args.toList ds p := hA0
  rw [Tryd.params7] at hA hval
  obtain ⟨v0, vs0, d0, ds0, p0, q0, hargs, rfl, rfl, h0, r0⟩ := trodAll_cons hA
  obtain ⟨rfl, rfl, rfl⟩ := trodAll_nil r0
  obtain rfl : args = #[v0] := by cases args; simp_all
  obtain ⟨rfl, rfl⟩ := trodVars_none hV
  obtain ⟨b0, len0, cap0, rfl⟩ := okWide_slice Tryd.underlying25 (hval 0 25 v0 rfl rfl)
  have k0 := h0
  have lt0 : ∀ x ∈ p0, x.block < W.heap.size := by obtain ⟨m, hm⟩ := k0; exact DataW.trod_lt m _ _ _ hm
  obtain ⟨l0, s0, w0⟩ : ∃ l, Bytes W (.slice b0 len0 cap0) l ∧ ∀ z ∈ l, Byte z := by
    obtain ⟨fuel, hf⟩ := h0
    rcases open_ints Tryd.underlying25 Tryd.underlying5 (by kernel_rfl) hf with ⟨hcs, _⟩ | ⟨x, l, c, zs, hcs, _, hl, hm, hz, _, hcell, hwz⟩
    · simp [Value.cells] at hcs
      obtain ⟨rfl, rfl, rfl⟩ := hcs
      exact ⟨[], Bytes.nil _, by simp⟩
    · simp [Value.cells] at hcs
      obtain ⟨rfl, rfl, rfl⟩ := hcs
      exact bytes_row hl hm (by simpa using hz) hcell hwz
  clear hA0 hval0
  refine (shaTwice_walk (w := W) (ks_of_laid hL) _ l0 w0 s0).mono fun e W' ⟨he, bel⟩ => ?_
  subst he
  exact ⟨_, rfl, _, _, _, [], _, [], hW', trodAll_mk1 (shut_bool Tryd.underlying4 _), (trodAll_cons_mk (Below.trod laidOut (by kernel_rfl) (of_decide_eq_true (by kernel_rfl)) k0 bel lt0) trodAll_mk0), rfl, bel.frame _, fun h => by cases h⟩

theorem shaTwice_holds : Rows.ShaTwiceSaid :=
  OpenClaim.holds_of_wide 7 Tryd.f7 rfl rfl rfl rfl rfl rfl rfl ⟨rfl, rfl, rfl, rfl, rfl⟩ rfl rfl rfl rfl rfl (by kernel_rfl) Tryd.func7 (by kernel_rfl)
    (of_decide_eq_true (by kernel_rfl)) (by unfold Func.isWrapper; first | (rw [if_pos (by decide +kernel)]; kernel_rfl) | (rw [if_neg (by decide +kernel)]; exact ⟨rfl, rfl⟩))
    (fun os started H enc _ => shaTwice_lifted os started H enc)
#print axioms shaTwice_holds
theorem shaTwice_card : Rows.ShaTwiceCardSaid :=
  Claim7.holds_tied_plain_at .later [] [.data] true (true, "34bf6f512d100cf8a2d92042fc1f1bd857a1573d03b0dbff5ca3c1d95d8d5be7") false
    shaTwice_holds (fun _ h => by cases h) (by kernel_rfl) (fun _ h => by cases h) shaTwice_row_tie rfl ⟨rfl, rfl⟩ (by kernel_rfl) rfl
    (fun f fn hf hfn => by
      obtain rfl : f = 7 := Option.some.inj ((show Tryd.prog.funcNamed "pappus/pappuslaw03.ShaTwice" = some 7 by kernel_rfl).symm.trans hf) |>.symm
      obtain rfl : fn = Tryd.f7 := (Option.some.inj (Tryd.func7.symm.trans hfn)).symm
      exact ⟨by kernel_rfl, fun j t ht => by
        rw [Tryd.params7] at ht
        have hm : t ∈ [25] := by simpa using Array.mem_of_getElem? ht
        have hall : ([25].all fun u => !Tryd.prog.wantsStandIn u) = true := by kernel_rfl
        exact (show Tryd.prog.wantsStandIn t = false by simpa using List.all_eq_true.1 hall t hm)⟩)
    (by kernel_rfl)
#print axioms shaTwice_card
end Go.Proofs.YtllldlpnocnagaaDoor
