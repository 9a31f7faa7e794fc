/-
  FrameHeads: of whatever bytes, Head says what the document says: the call returns true, and the bytes read as before.
-/
import Derived.Test.YtbhninaaeeoamaaDoorFrLaw
import Derived.Test.YtbhninaaeeoamaaDoorFrAlive
import Derived.Test.YtbhninaaeeoamaaDoorRefHead05
import Derived.Test.YtbhninaaeeoamaaDoorBoxHdr
namespace Go.Proofs.YtbhninaaeeoamaaDoor
open Go.ChangeShapes Go.WideShapes Go.ChangeAt Go.RowKit

set_option maxRecDepth 100000 in
set_option maxHeartbeats 1000000 in
theorem frameHeads_walk {w : World} (hk : Ks w) (v : Value) (l : List Int) (hb : ∀ z ∈ l, Byte z) (hv : Bytes w v l) :
    Calls Tryd.prog 5 #[v] w fun e w' => e = .returned (.bool true) ∧ Below w.heap.size w w' := by
  have HV := hide hv
  have A := hide (alive_any w hk)
  have H := hide (fun wx (h : Bytes wx v l) => head_any wx v l h hb)
  have R := hide (fun wx (h : Bytes wx v l) => rhead_any wx v l h hb)
  unfold HeadDone at H R
  simp only [hdrV] at H R
  obtain ⟨a, cap, rfl, hc1, hc2⟩ := hv.form
  clear hv hk hb
  generalize strOfNums (hdC l) = c at *
  generalize hdN l = n at *
  generalize hdS l = sm at *
  generalize hdE l = ee at *
  go_enter Tryd.func5, Tryd.ntmps5
  go_wp2_with fail
  refine A.out.mono ?_
  rintro e w1 ⟨rfl, hbel1⟩
  have HB1 := hide hbel1
  clear hbel1
  go_wp2_with fail
  refine (H.out _ (HV.out.below HB1.out)).mono ?_
  rintro e w2 ⟨rfl, hbel2⟩
  have hx := box_hdr w2 c n sm
  have HX := hide hx.2
  have HB2 := hide (below_on (below_on HB1.out hbel2) hx.1)
  clear hx hbel2
  go_upto_region 4 with fail
  generalize w2.alloc (.cells #[.string c, .int .i64 n, .int .u32 sm] 35) = W2 at *
  generalize w2.heap.size = g2 at *
  go_wp2_with fail
  refine (R.out _ (HV.out.below HB2.out)).mono ?_
  rintro e w3 ⟨rfl, hbel3⟩
  have hy := box_rhdr w3 c n sm
  have HB3 := hide (below_on (below_on HB2.out hbel3) hy.1)
  obtain ⟨c0, c1, c2⟩ := HX.out _ (below_on hbel3 hy.1)
  obtain ⟨d0, d1, d2⟩ := hy.2 _ (Below.refl _ _)
  clear hbel3 hy
  go_upto_region 5 with fail
  generalize w3.alloc (.cells #[.string c, .int .i64 n, .int .u32 sm] 38) = W3 at *
  generalize w3.heap.size = g3 at *
  go_wp2
  go_ret
  exact ⟨rfl, HB3.out⟩

set_option maxRecDepth 100000 in
theorem frameHeads_lifted (os : Os) (started : os.Started) (H : Type) (enc : TypeId × Value → H) :
    ReturnsInHanded {} Tryd.checked os 5 .any (fun w args => (Rows.frameHeadsSpec.pre enc Tryd.prog Tryd.f5 [] false w args ∧ laidMetH Tryd.prog laid3 w) ∧ sizedMet enc Tryd.prog Tryd.f5 (OpenSpec.ofChange Rows.frameHeadsSpec) false w args)
      (Rows.frameHeadsSpec.post enc Tryd.prog Tryd.f5 false true false false) := by
  refine returnsInHanded_of_change_and (C := Tryd.checked) (X := fun w _ => laidMetH Tryd.prog laid3 w) (fun _ _ _ hh h => h.of_heap hh) own started (by kernel_rfl) Tryd.func5
    (ChangeSpec.witness_shaped (enc := enc) (C := Tryd.checked) (os := os) (X := fun w _ => laidMetH Tryd.prog laid3 w) false (World.laidAll Tryd.prog os laid3) #[.slice none 0 0] 8 (World.laidAll_os _ _ _) (World.shaped_of_ZipB (by kernel_rfl) (by kernel_rfl)) (by kernel_rfl) (by kernel_rfl) (by kernel_rfl) (laid_met os _)) ?_
  intro W base args ds gs before hval0 hW _ _ hL _
  have hval : ∀ (j : Nat) t v, Tryd.f5.params[j]? = some t → args[j]? = some v → Value.okWide Tryd.prog W .any base t v := hval0
  have hW' := hW
  obtain ⟨p, q, hA0, hV, rfl, hfz, hnd⟩ := hW
  have hA : DataW.TrodAll enc Tryd.prog W 0 (fun _ => true) true Tryd.f5.params.toList args.toList ds p := hA0
  rw [Tryd.params5] at hA hval
  obtain ⟨v0, vs0, d0, ds0, p0, q0, hargs, rfl, rfl, h0, r0⟩ := trodAll_cons hA
  obtain ⟨rfl, rfl, rfl⟩ := trodAll_nil r0
  obtain rfl : args = #[v0] := by cases args; simp_all
  obtain ⟨rfl, rfl⟩ := trodVars_none hV
  obtain ⟨b0, len0, cap0, rfl⟩ := okWide_slice Tryd.underlying22 (hval 0 22 v0 rfl rfl)
  have k0 := h0
  have lt0 : ∀ x ∈ p0, x.block < W.heap.size := by obtain ⟨m, hm⟩ := k0; exact DataW.trod_lt m _ _ _ hm
  obtain ⟨l0, s0, w0⟩ : ∃ l, Bytes W (.slice b0 len0 cap0) l ∧ ∀ z ∈ l, Byte z := by
    obtain ⟨fuel, hf⟩ := h0
    rcases open_ints Tryd.underlying22 Tryd.underlying5 (by kernel_rfl) hf with ⟨hcs, _⟩ | ⟨x, l, c, zs, hcs, _, hl, hm, hz, _, hcell, hwz⟩
    · simp [Value.cells] at hcs
      obtain ⟨rfl, rfl, rfl⟩ := hcs
      exact ⟨[], Bytes.nil _, by simp⟩
    · simp [Value.cells] at hcs
      obtain ⟨rfl, rfl, rfl⟩ := hcs
      exact bytes_row hl hm (by simpa using hz) hcell hwz
  clear hA0 hval0
  refine (frameHeads_walk (w := W) (ks_of_laid hL) _ l0 w0 s0).mono fun e W' ⟨he, bel⟩ => ?_
  subst he
  exact ⟨_, rfl, _, _, _, [], _, [], hW', trodAll_mk1 (shut_bool Tryd.underlying4 _), (trodAll_cons_mk (Below.trod laidOut (by kernel_rfl) (of_decide_eq_true (by kernel_rfl)) k0 bel lt0) trodAll_mk0), rfl, bel.frame _, fun h => by cases h⟩

theorem frameHeads_holds : Rows.FrameHeadsSaid :=
  OpenClaim.holds_of_wide 5 Tryd.f5 rfl rfl rfl rfl rfl rfl rfl ⟨rfl, rfl, rfl, rfl, rfl⟩ rfl rfl rfl rfl rfl (by kernel_rfl) Tryd.func5 (by kernel_rfl)
    (of_decide_eq_true (by kernel_rfl)) (by unfold Func.isWrapper; first | (rw [if_pos (by decide +kernel)]; kernel_rfl) | (rw [if_neg (by decide +kernel)]; exact ⟨rfl, rfl⟩))
    (fun os started H enc _ => frameHeads_lifted os started H enc)
#print axioms frameHeads_holds
theorem frameHeads_card : Rows.FrameHeadsCardSaid :=
  Claim7.holds_tied_plain_at .later [] [.data, .data, .pinned] true (true, "6107f5c5cbfecb7da09f0bfa5865959cc8d3ed81655700bd4575338502a8de1b") false
    frameHeads_holds (fun _ h => by cases h) (by kernel_rfl) (fun _ h => by cases h) frameHeads_row_tie rfl ⟨rfl, rfl⟩ (by kernel_rfl) rfl
    (fun f fn hf hfn => by
      obtain rfl : f = 5 := Option.some.inj ((show Tryd.prog.funcNamed "pappus/pappuslaw05.FrameHeads" = some 5 by kernel_rfl).symm.trans hf) |>.symm
      obtain rfl : fn = Tryd.f5 := (Option.some.inj (Tryd.func5.symm.trans hfn)).symm
      exact ⟨by kernel_rfl, fun j t ht => by
        rw [Tryd.params5] at ht
        have hm : t ∈ [22] := by simpa using Array.mem_of_getElem? ht
        have hall : ([22].all fun u => !Tryd.prog.wantsStandIn u) = true := by kernel_rfl
        exact (show Tryd.prog.wantsStandIn t = false by simpa using List.all_eq_true.1 hall t hm)⟩)
    (by kernel_rfl)
#print axioms frameHeads_card
end Go.Proofs.YtbhninaaeeoamaaDoor
