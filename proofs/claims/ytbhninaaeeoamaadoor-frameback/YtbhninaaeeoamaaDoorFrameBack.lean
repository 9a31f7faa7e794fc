/-
  FrameBack: of whatever command, body and bytes behind: what is put is got; what is not put is refused by its name or its length: the call returns true, and the arguments read as before.
-/
import Derived.Test.YtbhninaaeeoamaaDoorFrLaw
import Derived.Test.YtbhninaaeeoamaaDoorFrAlive
import Derived.Test.YtbhninaaeeoamaaDoorFrBack
namespace Go.Proofs.YtbhninaaeeoamaaDoor
open Go.ChangeShapes Go.WideShapes Go.ChangeAt Go.RowKit

set_option maxRecDepth 100000 in
set_option maxHeartbeats 1000000 in
theorem frameBack_walk {w : World} (hk : Ks w) (s : ByteArray) (hs : s.size ≤ 9223372036854775807) (v : Value) (l : List Int) (hb : ∀ z ∈ l, Byte z) (hv : Bytes w v l) (u : Value) (r : List Int) (hbr : ∀ z ∈ r, Byte z) (hu : Bytes w u r) :
    Calls Tryd.prog 6 #[.string s, v, u] w fun e w' => e = .returned (.bool true) ∧ Below w.heap.size w w' := by
  have HK := hide hk
  have HV := hide hv
  have HU := hide hu
  have A := hide (alive_any w hk)
  have P := hide (fun wx (h : Bytes wx v l) (k : Ks wx) => fput_any wx s v l h k hs)
  have N := hide (fun wx => named_any s wx hs)
  obtain ⟨a, cap, rfl, hc1, hc2⟩ := hv.form
  obtain ⟨a', cap', rfl, hc3, hc4⟩ := hu.form
  clear hv hk hu
  by_cases hbig : 10000 < r.length
  · have hb : (10000 : Int) < (r.length : Int) := by omega
    go_enter Tryd.func6, Tryd.ntmps6
    go_wp2_with fail
    refine A.out.mono ?_
    rintro e w1 ⟨rfl, hbel1⟩
    have HB1 := hide hbel1
    clear hbel1
    go_wp2
    go_ret
    exact ⟨rfl, HB1.out⟩
  have hrb : (r.length : Int) ≤ 10000 := by omega
  rcases fp_cases (strL s) l with ⟨hn, hE⟩ | ⟨hn, hl, hE⟩ | ⟨hn, hl, hE, hL⟩
  · unfold FPutDone at P
    rw [hE] at P
    rw [hn] at N
    clear hn hE hb hbr
    go_enter Tryd.func6, Tryd.ntmps6
    go_wp2_with fail
    refine A.out.mono ?_
    rintro e w1 ⟨rfl, hbel1⟩
    have HB1 := hide hbel1
    clear hbel1
    go_wp2_with fail
    refine (P.out _ (HV.out.below HB1.out) (HK.out.on HB1.out)).mono ?_
    rintro e w2 ⟨v2, rfl, -, hnil, hbel2⟩
    obtain rfl := hnil (by decide)
    have HB2 := hide (below_on HB1.out hbel2)
    clear hbel2 hnil
    go_wp2_with fail
    refine (N.out _).mono ?_
    rintro e w3 ⟨rfl, rfl⟩
    go_wp2
    go_ret
    exact ⟨rfl, HB2.out⟩
  · unfold FPutDone at P
    rw [hE] at P
    rw [hn] at N
    clear hn hE hb hbr
    have hlb : (2048 : Int) < (l.length : Int) := by omega
    go_enter Tryd.func6, Tryd.ntmps6
    go_wp2_with fail
    refine A.out.mono ?_
    rintro e w1 ⟨rfl, hbel1⟩
    have HB1 := hide hbel1
    clear hbel1
    go_wp2_with fail
    refine (P.out _ (HV.out.below HB1.out) (HK.out.on HB1.out)).mono ?_
    rintro e w2 ⟨v2, rfl, -, hnil, hbel2⟩
    obtain rfl := hnil (by decide)
    have HB2 := hide (below_on HB1.out hbel2)
    clear hbel2 hnil
    go_wp2_with fail
    refine (N.out _).mono ?_
    rintro e w3 ⟨rfl, rfl⟩
    go_wp2
    go_ret
    exact ⟨rfl, HB2.out⟩
  · unfold FPutDone at P
    rw [hE, hL] at P
    have hfl := frameL_length hn l
    have hfb := frameL_byte hn hb
    obtain ⟨g1, g2, g3, g4⟩ := frame_back hn hl r
    have G := hide (fun wx p (h : Bytes wx p (frameL (strL s) l ++ r)) (j : Ks wx) => fget_any wx p _ h (fun z hz => by
      rcases List.mem_append.1 hz with h | h
      · exact hfb z h
      · exact hbr z h) j)
    unfold GetDone at G
    rw [g1, g2, g3, g4, str_strL] at G
    have SM := hide (fun wx p q (h : Bytes wx p l) (j : Bytes wx q l) => same_any l l p q wx h j)
    rw [decide_eq_true rfl] at SM
    have hF2 : (frameL (strL s) l).length ≤ 2072 := by omega
    have hFI : ((frameL (strL s) l).length : Int) = 24 + (l.length : Int) := by omega
    have HFI := hide hFI
    have HF := hide hfl
    clear hn hE hL hb hbr hfb g1 g2 g3 g4 hfl hFI
    generalize frameL (strL s) l = F at *
    go_enter Tryd.func6, Tryd.ntmps6
    go_wp2_with fail
    refine A.out.mono ?_
    rintro e w1 ⟨rfl, hbel1⟩
    have HB1 := hide hbel1
    clear hbel1
    go_wp2_with fail
    refine (P.out _ (HV.out.below HB1.out) (HK.out.on HB1.out)).mono ?_
    rintro e w2 ⟨v2, rfl, hm2, -, hbel2⟩
    have hm2 := hm2 trivial
    have HB2 := hide (below_on HB1.out hbel2)
    have HM := hide hm2.bytes
    obtain ⟨b2, cap2, rfl, hq1, hq2, -⟩ := hm2
    clear hbel2 HB1
    go_wp2_with (at_builtin; refine wp_append rfl (.tmp 52) (.tmp 53) rfl w2.heap.size _ [] rfl (Own.made _ _ (Nat.le_refl _)) _ F rfl (HM.out.alloc _) ?c1 ?c2 ?_)
    case c1 => simp; omega
    case c2 => simp
    intro v3 w3 hown3 hbel3
    have hb3 : Below w2.heap.size w2 w3 := ((Below.refl w2.heap.size w2).alloc (Nat.le_refl _) _).trans hbel3
    have HB3 := hide (below_on HB2.out hb3)
    have HS3 := hide hb3.size
    have HO3 := hide hown3
    clear hown3 hbel3 hb3
    go_wp2_with (at_builtin; refine wp_append rfl (.tmp 54) (.tmp 55) rfl w2.heap.size _ F rfl HO3.out _ r rfl (HU.out.below HB3.out) ?c1 HS3.out ?_)
    case c1 => omega
    intro v4 w4 hown4 hbel4
    have HB4 := hide (HB3.out.trans (hbel4.mono HB2.out.size))
    have HV4 := hide hown4.bytes
    clear hown4 hbel4
    go_wp2_with fail
    refine (G.out _ _ HV4.out (HK.out.on HB4.out)).mono ?_
    rintro e w5 ⟨v5, rfl, hown5, hbel5⟩
    have HB5 := hide (below_on HB4.out hbel5)
    have HV5 := hide hown5.bytes
    clear hown5 hbel5
    go_wp2_with fail
    refine (SM.out _ _ _ HV5.out (HV.out.below HB5.out)).mono ?_
    rintro e w6 ⟨rfl, nn, rfl⟩
    have hFI := HFI.out
    go_wp2
    go_ret
    exact ⟨rfl, HB5.out.trans ⟨rfl, rfl, rfl, Nat.le_refl _, fun _ _ => rfl⟩⟩

set_option maxRecDepth 100000 in
theorem frameBack_lifted (os : Os) (started : os.Started) (H : Type) (enc : TypeId × Value → H) :
    ReturnsInHanded {} Tryd.checked os 6 .any (fun w args => (Rows.frameBackSpec.pre enc Tryd.prog Tryd.f6 [] false w args ∧ laidMetH Tryd.prog laid3 w) ∧ sizedMet enc Tryd.prog Tryd.f6 (OpenSpec.ofChange Rows.frameBackSpec) false w args)
      (Rows.frameBackSpec.post enc Tryd.prog Tryd.f6 false true false false) := by
  refine returnsInHanded_of_change_and (C := Tryd.checked) (X := fun w _ => laidMetH Tryd.prog laid3 w) (fun _ _ _ hh h => h.of_heap hh) own started (by kernel_rfl) Tryd.func6
    (ChangeSpec.witness_shaped (enc := enc) (C := Tryd.checked) (os := os) (X := fun w _ => laidMetH Tryd.prog laid3 w) false (World.laidAll Tryd.prog os laid3) #[.string ⟨#[]⟩, .slice none 0 0, .slice none 0 0] 8 (World.laidAll_os _ _ _) (World.shaped_of_ZipB (by kernel_rfl) (by kernel_rfl)) (by kernel_rfl) (by kernel_rfl) (by kernel_rfl) (laid_met os _)) ?_
  intro W base args ds gs before hval0 hW _ _ hL _
  have hval : ∀ (j : Nat) t v, Tryd.f6.params[j]? = some t → args[j]? = some v → Value.okWide Tryd.prog W .any base t v := hval0
  have hW' := hW
  obtain ⟨p, q, hA0, hV, rfl, hfz, hnd⟩ := hW
  have hA : DataW.TrodAll enc Tryd.prog W 0 (fun _ => true) true Tryd.f6.params.toList args.toList ds p := hA0
  rw [Tryd.params6] at hA hval
  obtain ⟨v0, vs0, d0, ds0, p0, q0, hargs, rfl, rfl, h0, r0⟩ := trodAll_cons hA
  obtain ⟨v1, vs1, d1, ds1, p1, q1, rfl, rfl, rfl, h1, r1⟩ := trodAll_cons r0
  obtain ⟨v2, vs2, d2, ds2, p2, q2, rfl, rfl, rfl, h2, r2⟩ := trodAll_cons r1
  obtain ⟨rfl, rfl, rfl⟩ := trodAll_nil r2
  obtain rfl : args = #[v0, v1, v2] := by cases args; simp_all
  obtain ⟨rfl, rfl⟩ := trodVars_none hV
  obtain ⟨a0, rfl, rfl, rfl, w0⟩ := Go.ChangeMaps.open_string Tryd.underlying9 (hval 0 9 v0 rfl rfl) h0
  obtain ⟨b1, len1, cap1, rfl⟩ := okWide_slice Tryd.underlying22 (hval 1 22 v1 rfl rfl)
  have k1 := h1
  have lt1 : ∀ x ∈ p1, x.block < W.heap.size := by obtain ⟨m, hm⟩ := k1; exact DataW.trod_lt m _ _ _ hm
  obtain ⟨l1, s1, w1⟩ : ∃ l, Bytes W (.slice b1 len1 cap1) l ∧ ∀ z ∈ l, Byte z := by
    obtain ⟨fuel, hf⟩ := h1
    rcases open_ints Tryd.underlying22 Tryd.underlying5 (by kernel_rfl) hf with ⟨hcs, _⟩ | ⟨x, l, c, zs, hcs, _, hl, hm, hz, _, hcell, hwz⟩
    · simp [Value.cells] at hcs
      obtain ⟨rfl, rfl, rfl⟩ := hcs
      exact ⟨[], Bytes.nil _, by simp⟩
    · simp [Value.cells] at hcs
      obtain ⟨rfl, rfl, rfl⟩ := hcs
      exact bytes_row hl hm (by simpa using hz) hcell hwz
  obtain ⟨b2, len2, cap2, rfl⟩ := okWide_slice Tryd.underlying22 (hval 2 22 v2 rfl rfl)
  have k2 := h2
  have lt2 : ∀ x ∈ p2, x.block < W.heap.size := by obtain ⟨m, hm⟩ := k2; exact DataW.trod_lt m _ _ _ hm
  obtain ⟨l2, s2, w2⟩ : ∃ l, Bytes W (.slice b2 len2 cap2) l ∧ ∀ z ∈ l, Byte z := by
    obtain ⟨fuel, hf⟩ := h2
    rcases open_ints Tryd.underlying22 Tryd.underlying5 (by kernel_rfl) hf with ⟨hcs, _⟩ | ⟨x, l, c, zs, hcs, _, hl, hm, hz, _, hcell, hwz⟩
    · simp [Value.cells] at hcs
      obtain ⟨rfl, rfl, rfl⟩ := hcs
      exact ⟨[], Bytes.nil _, by simp⟩
    · simp [Value.cells] at hcs
      obtain ⟨rfl, rfl, rfl⟩ := hcs
      exact bytes_row hl hm (by simpa using hz) hcell hwz
  clear hA0 hval0
  refine (frameBack_walk (w := W) (ks_of_laid hL) a0 (by simpa [maxLen] using w0) _ l1 w1 s1 _ l2 w2 s2).mono fun e W' ⟨he, bel⟩ => ?_
  subst he
  exact ⟨_, rfl, _, _, _, [], _, [], hW', trodAll_mk1 (shut_bool Tryd.underlying4 _), (trodAll_cons_mk (Go.ChangeMaps.shut_string Tryd.underlying9 w0) (trodAll_cons_mk (Below.trod laidOut (by kernel_rfl) (of_decide_eq_true (by kernel_rfl)) k1 bel lt1) (trodAll_cons_mk (Below.trod laidOut (by kernel_rfl) (of_decide_eq_true (by kernel_rfl)) k2 bel lt2) trodAll_mk0))), rfl, bel.frame _, fun h => by cases h⟩

theorem frameBack_holds : Rows.FrameBackSaid :=
  OpenClaim.holds_of_wide 6 Tryd.f6 rfl rfl rfl rfl rfl rfl rfl ⟨rfl, rfl, rfl, rfl, rfl⟩ rfl rfl rfl rfl rfl (by kernel_rfl) Tryd.func6 (by kernel_rfl)
    (of_decide_eq_true (by kernel_rfl)) (by unfold Func.isWrapper; first | (rw [if_pos (by decide +kernel)]; kernel_rfl) | (rw [if_neg (by decide +kernel)]; exact ⟨rfl, rfl⟩))
    (fun os started H enc _ => frameBack_lifted os started H enc)
#print axioms frameBack_holds
theorem frameBack_card : Rows.FrameBackCardSaid :=
  Claim7.holds_tied_plain_at .later [] [.data, .data, .pinned] true (true, "6107f5c5cbfecb7da09f0bfa5865959cc8d3ed81655700bd4575338502a8de1b") false
    frameBack_holds (fun _ h => by cases h) (by kernel_rfl) (fun _ h => by cases h) frameBack_row_tie rfl ⟨rfl, rfl⟩ (by kernel_rfl) rfl
    (fun f fn hf hfn => by
      obtain rfl : f = 6 := Option.some.inj ((show Tryd.prog.funcNamed "pappus/pappuslaw05.FrameBack" = some 6 by kernel_rfl).symm.trans hf) |>.symm
      obtain rfl : fn = Tryd.f6 := (Option.some.inj (Tryd.func6.symm.trans hfn)).symm
      exact ⟨by kernel_rfl, fun j t ht => by
        rw [Tryd.params6] at ht
        have hm : t ∈ [9, 22, 22] := by simpa using Array.mem_of_getElem? ht
        have hall : ([9, 22, 22].all fun u => !Tryd.prog.wantsStandIn u) = true := by kernel_rfl
        exact (show Tryd.prog.wantsStandIn t = false by simpa using List.all_eq_true.1 hall t hm)⟩)
    (by kernel_rfl)
#print axioms frameBack_card
end Go.Proofs.YtbhninaaeeoamaaDoor
