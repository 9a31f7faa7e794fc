/-
  Proved: for every slice of slices of bytes, every slice of bytes and every int the law OctetParts answers true, and its arguments read as they did. No condition.
-/
import Derived.Test.YtkdlpnhpokcbiaaOctLaw
import Derived.Test.YtkdlpnhpokcbiaaRefUnpack
import Derived.Test.YtkdlpnhpokcbiaaHeavy
namespace Go.Proofs.Ytkdlpnhpokcbiaa
open Go.ChangeShapes Go.WideShapes Go.ChangeAt Go.RowKit

set_option maxHeartbeats 1000000 in
theorem parts_law {w : World} (v : Value) (L : List (List Int)) (_hL : ∀ p ∈ L, ∀ z ∈ p, Byte z) (hv : Parts w v L) (u : Value) (l : List Int) (hl : ∀ z ∈ l, Byte z) (hu : Bytes w u l) (most : Int) (hm : -9223372036854775808 ≤ most ∧ most ≤ 9223372036854775807) :
    Calls Try.prog 5 #[v, u, .int .i64 most] w fun e w' => e = .returned (.bool true) ∧ Below w.heap.size w w' := by
  have HV := hide hv
  have HU := hide hu
  obtain ⟨a, cap, rfl, _, hmax⟩ := hv.form
  obtain ⟨ua, uc, rfl, _, humax⟩ := hu.form
  have KP := hide (fun w v h h1 h2 => pack_any L v w h (by have := pack_le L h1 h2; omega))
  have KR := hide (fun w v h h1 h2 => rpack_any L v w h (by have := pack_le L h1 h2; omega))
  by_cases hn : l.length ≤ 100000
  · have hn1 : ¬ (100000 : Int) < (l.length : Int) := by omega
    have UP := hide (fun w h => unpack_any l (.slice ua l.length uc) most w h hl (by omega) hm)
    have UR := hide (fun w h => runpack_any l (.slice ua l.length uc) most w h hl (by omega) hm)
    unfold UnpackDone at UP UR
    clear hv hu hl
    generalize unpackE l most = ue at *
    generalize unpackL l most = ul at *
    generalize pack L = pl at *
    go_enter Try.func5, Try.ntmps5
    go_wp2_with fail
    refine (alive_any _).mono ?_
    rintro e w1 ⟨rfl, hbel⟩
    have HB1 := hide hbel
    have HV1 := hide (HV.out.below hbel)
    have HU1 := hide (HU.out.below hbel)
    clear hbel
    go_wp2_with fail
    refine (heavy_any L _ _ HV1.out).mono ?_
    rintro e w' ⟨rfl, rfl | ⟨rfl, h1, h2⟩⟩
    · go_wp2
      go_ret
      exact ⟨rfl, HB1.out⟩
    have KP1 := hide (fun w v h => KP.out w v h h1 h2)
    have KR1 := hide (fun w v h => KR.out w v h h1 h2)
    clear h1 h2
    go_wp2_with fail
    refine (UP.out _ HU1.out).mono ?_
    rintro e w2 ⟨g1, rfl, hparts, hbel⟩
    have HG2 := hide hparts
    have HV2 := hide (HV1.out.below hbel)
    have HU2 := hide (HU1.out.below hbel)
    have HB2 := hide (below_on HB1.out hbel)
    clear hparts hbel
    go_wp2_with fail
    refine (UR.out _ HU2.out).mono ?_
    rintro e w3 ⟨g2, rfl, hparts, hbel⟩
    have HJ3 := hide hparts
    have HG3 := hide (HG2.out.below hbel)
    have HV3 := hide (HV2.out.below hbel)
    have HB3 := hide (below_on HB2.out hbel)
    clear hparts hbel
    go_wp2_with fail
    refine (KP1.out _ _ HV3.out).mono ?_
    rintro e w4 ⟨b1, rfl, hown, hbel⟩
    have HO4 := hide hown.bytes
    have HJ4 := hide (HJ3.out.below hbel)
    have HG4 := hide (HG3.out.below hbel)
    have HV4 := hide (HV3.out.below hbel)
    have HB4 := hide (below_on HB3.out hbel)
    clear hown hbel
    go_wp2_with fail
    refine (KR1.out _ _ HV4.out).mono ?_
    rintro e w5 ⟨b2, rfl, hown, hbel⟩
    have HP5 := hide hown.bytes
    have HO5 := hide (HO4.out.below hbel)
    have HJ5 := hide (HJ4.out.below hbel)
    have HG5 := hide (HG4.out.below hbel)
    have HB5 := hide (below_on HB4.out hbel)
    clear hown hbel
    go_wp2_with fail
    refine (same_self pl _ _ _ HO5.out HP5.out).mono ?_
    rintro e w6 ⟨rfl, hbel⟩
    have HJ6 := hide (HJ5.out.below hbel)
    have HG6 := hide (HG5.out.below hbel)
    have HB6 := hide (below_on HB5.out hbel)
    clear hbel
    go_wp2_with fail
    refine (sameAll_self ul _ _ _ HG6.out HJ6.out).mono ?_
    rintro e w7 ⟨rfl, hbel⟩
    have HB7 := hide (below_on HB6.out hbel)
    clear hbel
    go_wp2
    go_ret
    exact ⟨rfl, HB7.out⟩
  · have hn1 : (100000 : Int) < (l.length : Int) := by omega
    clear hv hu hl
    generalize l.length = n at *
    go_enter Try.func5, Try.ntmps5
    go_wp2_with fail
    refine (alive_any _).mono ?_
    rintro e w1 ⟨rfl, hbel⟩
    have HB1 := hide hbel
    have HV1 := hide (HV.out.below hbel)
    clear hbel
    go_wp2_with fail
    refine (heavy_any L _ _ HV1.out).mono ?_
    rintro e w' ⟨rfl, rfl | ⟨rfl, h1, h2⟩⟩
    · go_wp2
      go_ret
      exact ⟨rfl, HB1.out⟩
    · clear h1 h2
      go_wp2
      go_ret
      exact ⟨rfl, HB1.out⟩

set_option maxRecDepth 100000 in
theorem octetParts_lifted (os : Os) (started : os.Started) (H : Type) (enc : TypeId × Value → H) :
    ReturnsInHanded {} Try.checked os 5 .any (Rows.octetPartsSpec.pre6 enc Try.prog Try.f5 Rows.octetPartsRow.domain false) (Rows.octetPartsSpec.post enc Try.prog Try.f5 false true false false) := by
  refine returnsInHanded_of_change (C := Try.checked) own started (by kernel_rfl) Try.func5
    (ChangeSpec.witness6 (enc := enc) (C := Try.checked) false ⟨#[], #[.slice none 0 0, .slice none 0 0, .int .i64 0], []⟩ 8 (by kernel_rfl) (by kernel_rfl) (by kernel_rfl) (by kernel_rfl)) ?_
  intro W base args ds gs before hval0 hW hcnd _
  have hval : ∀ (j : Nat) t v, Try.f5.params[j]? = some t → args[j]? = some v → Value.okWide Try.prog W .any base t v := hval0
  have hW' := hW
  obtain ⟨p, q, hA0, hV, rfl, hfz, hnd⟩ := hW
  have hA : DataW.TrodAll enc Try.prog W 0 (fun _ => true) true Try.f5.params.toList args.toList ds p := hA0
  rw [Try.params5] at hA hval
  obtain ⟨v0, vs0, d0, ds0, p0, q0, hargs, rfl, rfl, h0, r0⟩ := trodAll_cons hA
  obtain ⟨v1, vs1, d1, ds1, p1, q1, rfl, rfl, rfl, h1, r1⟩ := trodAll_cons r0
  obtain ⟨v2, vs2, d2, ds2, p2, q2, rfl, rfl, rfl, h2, r2⟩ := trodAll_cons r1
  obtain ⟨rfl, rfl, rfl⟩ := trodAll_nil r2
  obtain rfl : args = #[v0, v1, v2] := by cases args; simp_all
  obtain ⟨rfl, rfl⟩ := trodVars_none hV
  obtain ⟨b0, len0, cap0, rfl⟩ := okWide_slice Try.underlying37 (hval 0 37 v0 rfl rfl)
  have k0 := h0
  have lt0 : ∀ x ∈ p0, x.block < W.heap.size := by obtain ⟨m, hm⟩ := k0; exact DataW.trod_lt m _ _ _ hm
  obtain ⟨l0, s0, w0⟩ : ∃ l, Parts W (.slice b0 len0 cap0) l ∧ ∀ p ∈ l, ∀ z ∈ p, Byte z := by
    obtain ⟨fuel, hf⟩ := h0
    rcases Go.Deep.open_int_rows Try.underlying37 Try.underlying23 Try.underlying5 (by kernel_rfl) (by kernel_rfl) hf with ⟨hcs, _⟩ | ⟨a, len, cap, A, L, C, Z, hcs, _, hl, hm, _, hrows⟩
    · simp [Value.cells] at hcs
      obtain ⟨rfl, rfl, rfl⟩ := hcs
      exact ⟨[], Parts.none _, by simp⟩
    · simp [Value.cells] at hcs
      obtain ⟨rfl, rfl, rfl⟩ := hcs
      exact parts_row hl hm hrows
  obtain ⟨b1, len1, cap1, rfl⟩ := okWide_slice Try.underlying23 (hval 1 23 v1 rfl rfl)
  have k1 := h1
  have lt1 : ∀ x ∈ p1, x.block < W.heap.size := by obtain ⟨m, hm⟩ := k1; exact DataW.trod_lt m _ _ _ hm
  obtain ⟨l1, s1, w1⟩ : ∃ l, Bytes W (.slice b1 len1 cap1) l ∧ ∀ z ∈ l, Byte z := by
    obtain ⟨fuel, hf⟩ := h1
    rcases open_ints Try.underlying23 Try.underlying5 (by kernel_rfl) hf with ⟨hcs, _⟩ | ⟨x, l, c, zs, hcs, _, hl, hm, hz, _, hcell, hwz⟩
    · simp [Value.cells] at hcs
      obtain ⟨rfl, rfl, rfl⟩ := hcs
      exact ⟨[], Bytes.nil _, by simp⟩
    · simp [Value.cells] at hcs
      obtain ⟨rfl, rfl, rfl⟩ := hcs
      exact bytes_row hl hm (by simpa using hz) hcell hwz
  obtain ⟨a2, rfl, rfl, rfl, w2⟩ := open_int Try.underlying3 (hval 2 3 v2 rfl rfl) h2
  clear hA0 hval0
  refine (parts_law (w := W) _ l0 w0 s0 _ l1 w1 s1 a2 (int_of_wf w2)).mono fun e W' ⟨he, bel⟩ => ?_
  subst he
  exact ⟨_, rfl, _, _, _, [], _, [], hW', trodAll_mk1 (shut_bool Try.underlying4 _), (trodAll_cons_mk (Below.trod laidOut (by kernel_rfl) (of_decide_eq_true (by kernel_rfl)) k0 bel lt0) (trodAll_cons_mk (Below.trod laidOut (by kernel_rfl) (of_decide_eq_true (by kernel_rfl)) k1 bel lt1) (trodAll_cons_mk (shut_int Try.underlying3 w2) trodAll_mk0))), rfl, bel.frame _, fun h => by cases h⟩

theorem octetParts_holds : Rows.OctetPartsSaid :=
  OpenClaim.holds_of_wide 5 Try.f5 rfl rfl rfl rfl rfl rfl rfl ⟨rfl, rfl, rfl, rfl, rfl⟩ rfl rfl rfl rfl rfl (by kernel_rfl) Try.func5 (by kernel_rfl)
    (of_decide_eq_true (by kernel_rfl)) (by unfold Func.isWrapper; first | (rw [if_pos (by decide +kernel)]; kernel_rfl) | (rw [if_neg (by decide +kernel)]; exact ⟨rfl, rfl⟩))
    (fun os started H enc _ => octetParts_lifted os started H enc)
#print axioms octetParts_holds
end Go.Proofs.Ytkdlpnhpokcbiaa
