/-
  FramePuts: of whatever command and body, Put makes the document's frame, or refuses as it does, and Named says what the document says: the call returns true, and the arguments read as before.
-/
import Derived.Test.YtbhninaaeeoamaaDoorFrLaw
import Derived.Test.YtbhninaaeeoamaaDoorFrAlive
import Derived.Test.YtbhninaaeeoamaaDoorRefPut05
namespace Go.Proofs.YtbhninaaeeoamaaDoor
open Go.ChangeShapes Go.WideShapes Go.ChangeAt Go.RowKit

set_option maxRecDepth 100000 in
set_option maxHeartbeats 1000000 in
theorem framePuts_walk {w : World} (hk : Ks w) (s : ByteArray) (hs : s.size ≤ 9223372036854775807) (v : Value) (l : List Int) (_ : ∀ z ∈ l, Byte z) (hv : Bytes w v l) :
    Calls Tryd.prog 3 #[.string s, v] w fun e w' => e = .returned (.bool true) ∧ Below w.heap.size w w' := by
  have HK := hide hk
  have HV := hide hv
  have A := hide (alive_any w hk)
  have P := hide (fun wx (h : Bytes wx v l) (k : Ks wx) => (fput_any wx s v l h k hs).mono fun _ _ q => q.bytes)
  have R := hide (fun wx (h : Bytes wx v l) => rfput_any wx s v l h hs)
  have N := hide (fun wx => named_any s wx hs)
  have RN := hide (fun wx => rnamed_any s wx hs)
  have SM := hide (fun wx p q (h : Bytes wx p (fpL (strL s) l)) (j : Bytes wx q (fpL (strL s) l)) => same_any _ _ p q wx h j)
  rw [decide_eq_true rfl] at SM
  obtain ⟨a, cap, rfl, hc1, hc2⟩ := hv.form
  clear hv hk
  by_cases hbig : 5000 < l.length ∨ 1000 < s.size
  · rcases (show 5000 < l.length ∨ (¬ 5000 < l.length ∧ 1000 < s.size) by omega) with h | ⟨h, h'⟩
    · have hb : (5000 : Int) < (l.length : Int) := by omega
      clear hbig h
      go_enter Tryd.func3, Tryd.ntmps3
      go_wp2_with fail
      refine A.out.mono ?_
      rintro e w1 ⟨rfl, hbel1⟩
      have HB1 := hide hbel1
      clear hbel1
      go_wp2
      go_ret
      exact ⟨rfl, HB1.out⟩
    · have hb : ¬ (5000 : Int) < (l.length : Int) := by omega
      have hb' : (1000 : Int) < (s.size : Int) := by omega
      clear hbig h h'
      go_enter Tryd.func3, Tryd.ntmps3
      go_wp2_with fail
      refine A.out.mono ?_
      rintro e w1 ⟨rfl, hbel1⟩
      have HB1 := hide hbel1
      clear hbel1
      go_wp2
      go_ret
      exact ⟨rfl, HB1.out⟩
  · have hb : (l.length : Int) ≤ 5000 := by omega
    have hb' : (s.size : Int) ≤ 1000 := by omega
    clear hbig
    generalize fpL (strL s) l = F at *
    generalize fpE (strL s) l = E at *
    generalize namedL (strL s) = nb at *
    go_enter Tryd.func3, Tryd.ntmps3
    go_wp2_with fail
    refine A.out.mono ?_
    rintro e w1 ⟨rfl, hbel1⟩
    have HB1 := hide hbel1
    clear hbel1
    go_wp2_with fail
    refine (P.out _ (HV.out.below HB1.out) (HK.out.on HB1.out)).mono ?_
    rintro e w2 ⟨v2, rfl, hv2, hbel2⟩
    have HB2 := hide (below_on HB1.out hbel2)
    have HV2 := hide hv2
    clear hv2 hbel2
    go_wp2_with fail
    refine (R.out _ (HV.out.below HB2.out)).mono ?_
    rintro e w3 ⟨v3, rfl, hv3, hbel3⟩
    have HB3 := hide (below_on HB2.out hbel3)
    have HV3 := hide hv3
    have HV2 := hide (HV2.out.below hbel3)
    clear hv3 hbel3
    go_wp2_with fail
    refine (SM.out _ _ _ HV2.out HV3.out).mono ?_
    rintro e w4 ⟨rfl, nn, rfl⟩
    go_wp2_with fail
    refine (N.out _).mono ?_
    rintro e w5 ⟨rfl, rfl⟩
    go_wp2_with fail
    refine (RN.out _).mono ?_
    rintro e w6 ⟨rfl, rfl⟩
    go_wp2
    go_ret
    exact ⟨by cases nb <;> rfl, HB3.out.trans ⟨rfl, rfl, rfl, Nat.le_refl _, fun _ _ => rfl⟩⟩

set_option maxRecDepth 100000 in
theorem framePuts_lifted (os : Os) (started : os.Started) (H : Type) (enc : TypeId × Value → H) :
    ReturnsInHanded {} Tryd.checked os 3 .any (fun w args => (Rows.framePutsSpec.pre enc Tryd.prog Tryd.f3 [] false w args ∧ laidMetH Tryd.prog laid3 w) ∧ sizedMet enc Tryd.prog Tryd.f3 (OpenSpec.ofChange Rows.framePutsSpec) false w args)
      (Rows.framePutsSpec.post enc Tryd.prog Tryd.f3 false true false false) := by
  refine returnsInHanded_of_change_and (C := Tryd.checked) (X := fun w _ => laidMetH Tryd.prog laid3 w) (fun _ _ _ hh h => h.of_heap hh) own started (by kernel_rfl) Tryd.func3
    (ChangeSpec.witness_shaped (enc := enc) (C := Tryd.checked) (os := os) (X := fun w _ => laidMetH Tryd.prog laid3 w) false (World.laidAll Tryd.prog os laid3) #[.string ⟨#[]⟩, .slice none 0 0] 8 (World.laidAll_os _ _ _) (World.shaped_of_ZipB (by kernel_rfl) (by kernel_rfl)) (by kernel_rfl) (by kernel_rfl) (by kernel_rfl) (laid_met os _)) ?_
  intro W base args ds gs before hval0 hW _ _ hL _
  have hval : ∀ (j : Nat) t v, Tryd.f3.params[j]? = some t → args[j]? = some v → Value.okWide Tryd.prog W .any base t v := hval0
  have hW' := hW
  obtain ⟨p, q, hA0, hV, rfl, hfz, hnd⟩ := hW
  have hA : DataW.TrodAll enc Tryd.prog W 0 (fun _ => true) true Tryd.f3.params.toList args.toList ds p := hA0
  rw [Tryd.params3] at hA hval
  obtain ⟨v0, vs0, d0, ds0, p0, q0, hargs, rfl, rfl, h0, r0⟩ := trodAll_cons hA
  obtain ⟨v1, vs1, d1, ds1, p1, q1, rfl, rfl, rfl, h1, r1⟩ := trodAll_cons r0
  obtain ⟨rfl, rfl, rfl⟩ := trodAll_nil r1
  obtain rfl : args = #[v0, v1] := by cases args; simp_all
  obtain ⟨rfl, rfl⟩ := trodVars_none hV
  obtain ⟨a0, rfl, rfl, rfl, w0⟩ := Go.ChangeMaps.open_string Tryd.underlying9 (hval 0 9 v0 rfl rfl) h0
  obtain ⟨b1, len1, cap1, rfl⟩ := okWide_slice Tryd.underlying22 (hval 1 22 v1 rfl rfl)
  have k1 := h1
  have lt1 : ∀ x ∈ p1, x.block < W.heap.size := by obtain ⟨m, hm⟩ := k1; exact DataW.trod_lt m _ _ _ hm
  obtain ⟨l1, s1, w1⟩ : ∃ l, Bytes W (.slice b1 len1 cap1) l ∧ ∀ z ∈ l, Byte z := by
    obtain ⟨fuel, hf⟩ := h1
    rcases open_ints Tryd.underlying22 Tryd.underlying5 (by kernel_rfl) hf with ⟨hcs, _⟩ | ⟨x, l, c, zs, hcs, _, hl, hm, hz, _, hcell, hwz⟩
    · simp [Value.cells] at hcs
      obtain ⟨rfl, rfl, rfl⟩ := hcs
      exact ⟨[], Bytes.nil _, by simp⟩
    · simp [Value.cells] at hcs
      obtain ⟨rfl, rfl, rfl⟩ := hcs
      exact bytes_row hl hm (by simpa using hz) hcell hwz
  clear hA0 hval0
  refine (framePuts_walk (w := W) (ks_of_laid hL) a0 (by simpa [maxLen] using w0) _ l1 w1 s1).mono fun e W' ⟨he, bel⟩ => ?_
  subst he
  exact ⟨_, rfl, _, _, _, [], _, [], hW', trodAll_mk1 (shut_bool Tryd.underlying4 _), (trodAll_cons_mk (Go.ChangeMaps.shut_string Tryd.underlying9 w0) (trodAll_cons_mk (Below.trod laidOut (by kernel_rfl) (of_decide_eq_true (by kernel_rfl)) k1 bel lt1) trodAll_mk0)), rfl, bel.frame _, fun h => by cases h⟩

theorem framePuts_holds : Rows.FramePutsSaid :=
  OpenClaim.holds_of_wide 3 Tryd.f3 rfl rfl rfl rfl rfl rfl rfl ⟨rfl, rfl, rfl, rfl, rfl⟩ rfl rfl rfl rfl rfl (by kernel_rfl) Tryd.func3 (by kernel_rfl)
    (of_decide_eq_true (by kernel_rfl)) (by unfold Func.isWrapper; first | (rw [if_pos (by decide +kernel)]; kernel_rfl) | (rw [if_neg (by decide +kernel)]; exact ⟨rfl, rfl⟩))
    (fun os started H enc _ => framePuts_lifted os started H enc)
#print axioms framePuts_holds
theorem framePuts_card : Rows.FramePutsCardSaid :=
  Claim7.holds_tied_plain_at .later [] [.data, .data, .pinned] true (true, "6107f5c5cbfecb7da09f0bfa5865959cc8d3ed81655700bd4575338502a8de1b") false
    framePuts_holds (fun _ h => by cases h) (by kernel_rfl) (fun _ h => by cases h) framePuts_row_tie rfl ⟨rfl, rfl⟩ (by kernel_rfl) rfl
    (fun f fn hf hfn => by
      obtain rfl : f = 3 := Option.some.inj ((show Tryd.prog.funcNamed "pappus/pappuslaw05.FramePuts" = some 3 by kernel_rfl).symm.trans hf) |>.symm
      obtain rfl : fn = Tryd.f3 := (Option.some.inj (Tryd.func3.symm.trans hfn)).symm
      exact ⟨by kernel_rfl, fun j t ht => by
        rw [Tryd.params3] at ht
        have hm : t ∈ [9, 22] := by simpa using Array.mem_of_getElem? ht
        have hall : ([9, 22].all fun u => !Tryd.prog.wantsStandIn u) = true := by kernel_rfl
        exact (show Tryd.prog.wantsStandIn t = false by simpa using List.all_eq_true.1 hall t hm)⟩)
    (by kernel_rfl)
#print axioms framePuts_card
end Go.Proofs.YtbhninaaeeoamaaDoor
