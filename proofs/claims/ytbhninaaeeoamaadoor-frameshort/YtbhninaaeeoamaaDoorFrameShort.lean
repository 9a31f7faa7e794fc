/-
  FrameShort: of whatever command, body and place, a frame that is cut off there is too short: the call returns true, and the arguments read as before.
-/
import Derived.Test.YtbhninaaeeoamaaDoorFrLaw
import Derived.Test.YtbhninaaeeoamaaDoorFrAlive
import Derived.Test.YtbhninaaeeoamaaDoorFrBack
namespace Go.Proofs.YtbhninaaeeoamaaDoor
open Go.ChangeShapes Go.WideShapes Go.ChangeAt Go.RowKit

set_option maxRecDepth 100000 in
set_option maxHeartbeats 1000000 in
theorem frameShort_walk {w : World} (hk : Ks w) (s : ByteArray) (hs : s.size ≤ 9223372036854775807) (v : Value) (l : List Int) (hb : ∀ z ∈ l, Byte z) (hv : Bytes w v l) (x : Int) (hx : 0 ≤ x ∧ x < 65536) :
    Calls Tryd.prog 7 #[.string s, v, .int .u16 x] w fun e w' => e = .returned (.bool true) ∧ Below w.heap.size w w' := by
  have HK := hide hk
  have HV := hide hv
  have A := hide (alive_any w hk)
  have P := hide (fun wx (h : Bytes wx v l) (k : Ks wx) => fput_any wx s v l h k hs)
  obtain ⟨x0, x1⟩ := hx
  rcases fp_cases (strL s) l with ⟨hn, hE⟩ | ⟨hn, hl, hE⟩ | ⟨hn, hl, hE, hL⟩
  case inr.inr =>
    unfold FPutDone at P
    rw [hE, hL] at P
    have hfl := frameL_length hn l
    have HFB := hide (frameL_byte hn hb)
    have HCUT := hide (frame_cut hn hl)
    have G := hide (fun wx p k (h : Bytes wx p ((frameL (strL s) l).take k)) (j : Ks wx) => fget_any wx p _ h (fun z hz => HFB.out z (List.mem_of_mem_take hz)) j)
    obtain ⟨a, cap, rfl, hc1, hc2⟩ := hv.form
    clear hv hk hn hE hL hb
    generalize frameL (strL s) l = F at *
    have hF1 : 0 < F.length := by omega
    obtain ⟨k, hk1⟩ : ∃ k : Nat, x % (F.length : Int) = (k : Int) := ⟨(x % (F.length : Int)).toNat, (Int.toNat_of_nonneg (Int.emod_nonneg _ (by omega))).symm⟩
    have hkF : k < F.length := by have := Int.emod_lt_of_pos x (show (0 : Int) < (F.length : Int) by omega); omega
    have hmod : x.tmod (F.length : Int) = (k : Int) := by rw [Int.tmod_eq_emod_of_nonneg x0, hk1]
    have HE : Hid (geE (F.take k) = 4) := hide (HCUT.out k (by omega))
    have HN := hide (get_none (Or.inl HE.out))
    have G := hide (fun wx p h j => G.out wx p k h j)
    unfold GetDone at G
    rw [HE.out, HN.out.1, HN.out.2.1, HN.out.2.2, str_nil] at G
    have hF2 : F.length ≤ 2072 := by omega
    clear hk1 HCUT hfl
    have hkF' : (k : Int) < (F.length : Int) := by omega
    have hF0 : ((F.length : Int) == 0) = false := beq_eq_false_iff_ne.2 (by omega)
    go_enter Tryd.func7, Tryd.ntmps7
    go_wp2_with fail
    refine A.out.mono ?_
    rintro e w1 ⟨rfl, hbel1⟩
    have HB1 := hide hbel1
    clear hbel1
    go_wp2_with fail
    refine (P.out _ (HV.out.below HB1.out) (HK.out.on HB1.out)).mono ?_
    rintro e w2 ⟨v2, rfl, hm2, -, hbel2⟩
    have hm2 := hm2 trivial
    have HB2 := hide (below_on HB1.out hbel2)
    have HM := hide hm2.bytes
    obtain ⟨b2, cap2, rfl, hq1, hq2, -⟩ := hm2
    clear hbel2 HB1
    have HM2 := hide (HM.out.take k (by omega))
    go_wp2_with fail
    refine (G.out _ _ HM2.out (HK.out.on HB2.out)).mono ?_
    rintro e w3 ⟨v3, rfl, hown3, hbel3⟩
    obtain ⟨a3, cap3, rfl, -⟩ := hown3.bytes.form
    have HB3 := hide (below_on HB2.out hbel3)
    clear hown3 hbel3
    go_wp2
    go_ret
    exact ⟨rfl, HB3.out⟩
  all_goals
    unfold FPutDone at P
    rw [hE] at P
    obtain ⟨a, cap, rfl, hc1, hc2⟩ := hv.form
    clear hv hk
    go_enter Tryd.func7, Tryd.ntmps7
    go_wp2_with fail
    refine A.out.mono ?_
    rintro e w1 ⟨rfl, hbel1⟩
    have HB1 := hide hbel1
    clear hbel1
    go_wp2_with fail
    refine (P.out _ (HV.out.below HB1.out) (HK.out.on HB1.out)).mono ?_
    rintro e w2 ⟨v2, rfl, -, hnil, hbel2⟩
    obtain rfl := hnil (by decide)
    have HB2 := hide (below_on HB1.out hbel2)
    clear hbel2 hnil
    go_wp2
    go_ret
    exact ⟨rfl, HB2.out⟩

set_option maxRecDepth 100000 in
theorem frameShort_lifted (os : Os) (started : os.Started) (H : Type) (enc : TypeId × Value → H) :
    ReturnsInHanded {} Tryd.checked os 7 .any (fun w args => (Rows.frameShortSpec.pre enc Tryd.prog Tryd.f7 [] false w args ∧ laidMetH Tryd.prog laid3 w) ∧ sizedMet enc Tryd.prog Tryd.f7 (OpenSpec.ofChange Rows.frameShortSpec) false w args)
      (Rows.frameShortSpec.post enc Tryd.prog Tryd.f7 false true false false) := by
  refine returnsInHanded_of_change_and (C := Tryd.checked) (X := fun w _ => laidMetH Tryd.prog laid3 w) (fun _ _ _ hh h => h.of_heap hh) own started (by kernel_rfl) Tryd.func7
    (ChangeSpec.witness_shaped (enc := enc) (C := Tryd.checked) (os := os) (X := fun w _ => laidMetH Tryd.prog laid3 w) false (World.laidAll Tryd.prog os laid3) #[.string ⟨#[]⟩, .slice none 0 0, .int .u16 0] 8 (World.laidAll_os _ _ _) (World.shaped_of_ZipB (by kernel_rfl) (by kernel_rfl)) (by kernel_rfl) (by kernel_rfl) (by kernel_rfl) (laid_met os _)) ?_
  intro W base args ds gs before hval0 hW _ _ hL _
  have hval : ∀ (j : Nat) t v, Tryd.f7.params[j]? = some t → args[j]? = some v → Value.okWide Tryd.prog W .any base t v := hval0
  have hW' := hW
  obtain ⟨p, q, hA0, hV, rfl, hfz, hnd⟩ := hW
  have hA : DataW.TrodAll enc Tryd.prog W 0 (fun _ => true) true Tryd.f7.params.toList args.toList ds p := hA0
  rw [Tryd.params7] at hA hval
  obtain ⟨v0, vs0, d0, ds0, p0, q0, hargs, rfl, rfl, h0, r0⟩ := trodAll_cons hA
  obtain ⟨v1, vs1, d1, ds1, p1, q1, rfl, rfl, rfl, h1, r1⟩ := trodAll_cons r0
  obtain ⟨v2, vs2, d2, ds2, p2, q2, rfl, rfl, rfl, h2, r2⟩ := trodAll_cons r1
  obtain ⟨rfl, rfl, rfl⟩ := trodAll_nil r2
  obtain rfl : args = #[v0, v1, v2] := by cases args; simp_all
  obtain ⟨rfl, rfl⟩ := trodVars_none hV
  obtain ⟨a0, rfl, rfl, rfl, w0⟩ := Go.ChangeMaps.open_string Tryd.underlying9 (hval 0 9 v0 rfl rfl) h0
  obtain ⟨b1, len1, cap1, rfl⟩ := okWide_slice Tryd.underlying22 (hval 1 22 v1 rfl rfl)
  have k1 := h1
  have lt1 : ∀ x ∈ p1, x.block < W.heap.size := by obtain ⟨m, hm⟩ := k1; exact DataW.trod_lt m _ _ _ hm
  obtain ⟨l1, s1, w1⟩ : ∃ l, Bytes W (.slice b1 len1 cap1) l ∧ ∀ z ∈ l, Byte z := by
    obtain ⟨fuel, hf⟩ := h1
    rcases open_ints Tryd.underlying22 Tryd.underlying5 (by kernel_rfl) hf with ⟨hcs, _⟩ | ⟨x, l, c, zs, hcs, _, hl, hm, hz, _, hcell, hwz⟩
    · simp [Value.cells] at hcs
      obtain ⟨rfl, rfl, rfl⟩ := hcs
      exact ⟨[], Bytes.nil _, by simp⟩
    · simp [Value.cells] at hcs
      obtain ⟨rfl, rfl, rfl⟩ := hcs
      exact bytes_row hl hm (by simpa using hz) hcell hwz
  obtain ⟨a2, rfl, rfl, rfl, w2⟩ := open_int Tryd.underlying42 (hval 2 42 v2 rfl rfl) h2
  clear hA0 hval0
  refine (frameShort_walk (w := W) (ks_of_laid hL) a0 (by simpa [maxLen] using w0) _ l1 w1 s1 a2 (short_of_wf w2)).mono fun e W' ⟨he, bel⟩ => ?_
  subst he
  exact ⟨_, rfl, _, _, _, [], _, [], hW', trodAll_mk1 (shut_bool Tryd.underlying4 _), (trodAll_cons_mk (Go.ChangeMaps.shut_string Tryd.underlying9 w0) (trodAll_cons_mk (Below.trod laidOut (by kernel_rfl) (of_decide_eq_true (by kernel_rfl)) k1 bel lt1) (trodAll_cons_mk (shut_int Tryd.underlying42 w2) trodAll_mk0))), rfl, bel.frame _, fun h => by cases h⟩

theorem frameShort_holds : Rows.FrameShortSaid :=
  OpenClaim.holds_of_wide 7 Tryd.f7 rfl rfl rfl rfl rfl rfl rfl ⟨rfl, rfl, rfl, rfl, rfl⟩ rfl rfl rfl rfl rfl (by kernel_rfl) Tryd.func7 (by kernel_rfl)
    (of_decide_eq_true (by kernel_rfl)) (by unfold Func.isWrapper; first | (rw [if_pos (by decide +kernel)]; kernel_rfl) | (rw [if_neg (by decide +kernel)]; exact ⟨rfl, rfl⟩))
    (fun os started H enc _ => frameShort_lifted os started H enc)
#print axioms frameShort_holds
theorem frameShort_card : Rows.FrameShortCardSaid :=
  Claim7.holds_tied_plain_at .later [] [.data, .data, .pinned] true (true, "6107f5c5cbfecb7da09f0bfa5865959cc8d3ed81655700bd4575338502a8de1b") false
    frameShort_holds (fun _ h => by cases h) (by kernel_rfl) (fun _ h => by cases h) frameShort_row_tie rfl ⟨rfl, rfl⟩ (by kernel_rfl) rfl
    (fun f fn hf hfn => by
      obtain rfl : f = 7 := Option.some.inj ((show Tryd.prog.funcNamed "pappus/pappuslaw05.FrameShort" = some 7 by kernel_rfl).symm.trans hf) |>.symm
      obtain rfl : fn = Tryd.f7 := (Option.some.inj (Tryd.func7.symm.trans hfn)).symm
      exact ⟨by kernel_rfl, fun j t ht => by
        rw [Tryd.params7] at ht
        have hm : t ∈ [9, 22, 42] := by simpa using Array.mem_of_getElem? ht
        have hall : ([9, 22, 42].all fun u => !Tryd.prog.wantsStandIn u) = true := by kernel_rfl
        exact (show Tryd.prog.wantsStandIn t = false by simpa using List.all_eq_true.1 hall t hm)⟩)
    (by kernel_rfl)
#print axioms frameShort_card
end Go.Proofs.YtbhninaaeeoamaaDoor
