/-
  Proved: for every slice of bytes and every int the law OctetWhole answers true, and its arguments read as they did. No condition.
-/
import Derived.Test.YtkdlpnhpokcbiabOctLaw
import Derived.Test.YtkdlpnhpokcbiabUnpack
namespace Go.Proofs.Ytkdlpnhpokcbiab
open Go.ChangeShapes Go.WideShapes Go.ChangeAt Go.RowKit

theorem unpackL_bad {l : List Int} {most : Int} (h : ¬ unpackE l most = 0) : unpackL l most = [] := by
  unfold unpackL
  rw [if_neg h]

set_option maxHeartbeats 400000 in
theorem whole_law {w : World} (v : Value) (l : List Int) (hl : ∀ z ∈ l, Byte z) (hv : Bytes w v l) (most : Int) (hm : -9223372036854775808 ≤ most ∧ most ≤ 9223372036854775807) :
    Calls Try.prog 4 #[v, .int .i64 most] w fun e w' => e = .returned (.bool true) ∧ Below w.heap.size w w' := by
  have HV := hide hv
  obtain ⟨ad, cap, rfl, _, hmax⟩ := hv.form
  by_cases hn : l.length ≤ 100000
  · have U := hide (fun w h => unpack_any l (.slice ad l.length cap) most w h hl (by omega) hm)
    have hn1 : ¬ (100000 : Int) < (l.length : Int) := by omega
    by_cases he : unpackE l most = 0
    · obtain ⟨hw1, hw2⟩ := unpack_whole hl he
      have K := hide (fun w v h => pack_any (unpackL l most) v w h (by rw [hw1]; omega))
      rw [hw1] at K
      have hd : decide (((unpackL l most).length : Int) ≤ most) = true := decide_eq_true hw2
      unfold UnpackDone at U
      rw [he] at U
      clear hw1 hw2 he hl hv
      generalize unpackL l most = D at *
      go_enter Try.func4, Try.ntmps4
      go_wp2_with fail
      refine (alive_any _).mono ?_
      rintro e w1 ⟨rfl, hbel⟩
      have HB1 := hide hbel
      have HV1 := hide (HV.out.below hbel)
      clear hbel
      go_wp2_with fail
      refine (U.out _ HV1.out).mono ?_
      rintro e w2 ⟨dv, rfl, hparts, hbel⟩
      obtain ⟨da, dc, rfl, _, hdm⟩ := hparts.form
      have HP := hide hparts
      have HV2 := hide (HV1.out.below hbel)
      have HB2 := hide (below_on HB1.out hbel)
      clear hparts hbel
      go_wp2_with fail
      refine (K.out _ _ HP.out).mono ?_
      rintro e w3 ⟨bv, rfl, hown, hbel⟩
      have HO := hide hown.bytes
      have HV3 := hide (HV2.out.below hbel)
      have HB3 := hide (below_on HB2.out hbel)
      clear hown hbel
      go_wp2_with fail
      refine (same_self l _ _ _ HO.out HV3.out).mono ?_
      rintro e w4 ⟨rfl, hbel⟩
      have HB4 := hide (below_on HB3.out hbel)
      clear hbel
      go_wp2
      go_ret
      exact ⟨rfl, HB4.out⟩
    · have hL := unpackL_bad he
      have he' : (unpackE l most == 0) = false := by simpa using he
      unfold UnpackDone at U
      rw [hL] at U
      clear he hL hl hv
      generalize unpackE l most = ue at *
      go_enter Try.func4, Try.ntmps4
      go_wp2_with fail
      refine (alive_any _).mono ?_
      rintro e w1 ⟨rfl, hbel⟩
      have HB1 := hide hbel
      have HV1 := hide (HV.out.below hbel)
      clear hbel
      go_wp2_with fail
      refine (U.out _ HV1.out).mono ?_
      rintro e w2 ⟨dv, rfl, hparts, hbel⟩
      obtain ⟨da, dc, rfl, _⟩ := hparts.empty
      have HB2 := hide (below_on HB1.out hbel)
      clear hparts hbel
      go_wp2
      go_ret
      exact ⟨rfl, HB2.out⟩
  · have hn1 : (100000 : Int) < (l.length : Int) := by omega
    clear hl hv
    generalize l.length = n at *
    go_enter Try.func4, Try.ntmps4
    go_wp2_with fail
    refine (alive_any _).mono ?_
    rintro e w1 ⟨rfl, hbel⟩
    have HB := hide hbel
    clear hbel
    go_wp2
    go_ret
    exact ⟨rfl, HB.out⟩

set_option maxRecDepth 100000 in
theorem octetWhole_lifted (os : Os) (started : os.Started) (H : Type) (enc : TypeId × Value → H) :
    ReturnsInHanded {} Try.checked os 4 .any (Rows.octetWholeSpec.pre6 enc Try.prog Try.f4 Rows.octetWholeRow.domain false) (Rows.octetWholeSpec.post enc Try.prog Try.f4 false true false false) := by
  refine returnsInHanded_of_change (C := Try.checked) own started (by kernel_rfl) Try.func4
    (ChangeSpec.witness6 (enc := enc) (C := Try.checked) false ⟨#[], #[.slice none 0 0, .int .i64 0], []⟩ 8 (by kernel_rfl) (by kernel_rfl) (by kernel_rfl) (by kernel_rfl)) ?_
  intro W base args ds gs before hval0 hW hcnd _
  have hval : ∀ (j : Nat) t v, Try.f4.params[j]? = some t → args[j]? = some v → Value.okWide Try.prog W .any base t v := hval0
  have hW' := hW
  obtain ⟨p, q, hA0, hV, rfl, hfz, hnd⟩ := hW
  have hA : DataW.TrodAll enc Try.prog W 0 (fun _ => true) true Try.f4.params.toList args.toList ds p := hA0
  rw [Try.params4] at hA hval
  obtain ⟨v0, vs0, d0, ds0, p0, q0, hargs, rfl, rfl, h0, r0⟩ := trodAll_cons hA
  obtain ⟨v1, vs1, d1, ds1, p1, q1, rfl, rfl, rfl, h1, r1⟩ := trodAll_cons r0
  obtain ⟨rfl, rfl, rfl⟩ := trodAll_nil r1
  obtain rfl : args = #[v0, v1] := by cases args; simp_all
  obtain ⟨rfl, rfl⟩ := trodVars_none hV
  obtain ⟨b0, len0, cap0, rfl⟩ := okWide_slice Try.underlying25 (hval 0 25 v0 rfl rfl)
  have k0 := h0
  have lt0 : ∀ x ∈ p0, x.block < W.heap.size := by obtain ⟨m, hm⟩ := k0; exact DataW.trod_lt m _ _ _ hm
  obtain ⟨l0, s0, w0⟩ : ∃ l, Bytes W (.slice b0 len0 cap0) l ∧ ∀ z ∈ l, Byte z := by
    obtain ⟨fuel, hf⟩ := h0
    rcases open_ints Try.underlying25 Try.underlying5 (by kernel_rfl) hf with ⟨hcs, _⟩ | ⟨x, l, c, zs, hcs, _, hl, hm, hz, _, hcell, hwz⟩
    · simp [Value.cells] at hcs
      obtain ⟨rfl, rfl, rfl⟩ := hcs
      exact ⟨[], Bytes.nil _, by simp⟩
    · simp [Value.cells] at hcs
      obtain ⟨rfl, rfl, rfl⟩ := hcs
      exact bytes_row hl hm (by simpa using hz) hcell hwz
  obtain ⟨a1, rfl, rfl, rfl, w1⟩ := open_int Try.underlying3 (hval 1 3 v1 rfl rfl) h1
  clear hA0 hval0
  refine (whole_law (w := W) _ l0 w0 s0 a1 (int_of_wf w1)).mono fun e W' ⟨he, bel⟩ => ?_
  subst he
  exact ⟨_, rfl, _, _, _, [], _, [], hW', trodAll_mk1 (shut_bool Try.underlying4 _), (trodAll_cons_mk (Below.trod laidOut (by kernel_rfl) (of_decide_eq_true (by kernel_rfl)) k0 bel lt0) (trodAll_cons_mk (shut_int Try.underlying3 w1) trodAll_mk0)), rfl, bel.frame _, fun h => by cases h⟩

theorem octetWhole_holds : Rows.OctetWholeSaid :=
  OpenClaim.holds_of_wide 4 Try.f4 rfl rfl rfl rfl rfl rfl rfl ⟨rfl, rfl, rfl, rfl, rfl⟩ rfl rfl rfl rfl rfl (by kernel_rfl) Try.func4 (by kernel_rfl)
    (of_decide_eq_true (by kernel_rfl)) (by unfold Func.isWrapper; first | (rw [if_pos (by decide +kernel)]; kernel_rfl) | (rw [if_neg (by decide +kernel)]; exact ⟨rfl, rfl⟩))
    (fun os started H enc _ => octetWhole_lifted os started H enc)
#print axioms octetWhole_holds
end Go.Proofs.Ytkdlpnhpokcbiab
