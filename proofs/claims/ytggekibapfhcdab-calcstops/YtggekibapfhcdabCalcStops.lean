/-
  Proved: for every time and every two spans of the type uint64 the law CalcStops answers true, and its arguments read as they did. No condition.
-/
import Derived.Test.YtggekibapfhcdabLaw
namespace Go.Proofs.Ytggekibapfhcdab
open Go.ChangeShapes Go.WideShapes Go.ChangeAt Go.RowKit

theorem laterV_bounds (t : Int) (l : List Int) (ht : Word t) (hl : ∀ z ∈ l, 0 ≤ z) : Word (laterV t l) ∧ t ≤ laterV t l := by
  have h0 := tot_nonneg l hl
  obtain ⟨h1, h2⟩ := ht
  by_cases h : t + tot l < 18446744073709551616
  · rw [laterV_fits h]; exact ⟨⟨by omega, by omega⟩, by omega⟩
  · rw [laterV_over (by omega)]; exact ⟨⟨by omega, by omega⟩, by omega⟩
theorem laterV_cases (t : Int) (l : List Int) : (t + tot l < 18446744073709551616 ∧ laterV t l = t + tot l) ∨ (18446744073709551616 ≤ t + tot l ∧ laterV t l = 18446744073709551615) := by
  by_cases h : t + tot l < 18446744073709551616
  · exact Or.inl ⟨h, laterV_fits h⟩
  · exact Or.inr ⟨by omega, laterV_over (by omega)⟩
/-- All that the law asks of the numbers. -/
theorem stops_num (t d e : Int) (ht : Word t) (hd : Word d) (he : Word e) :
    ∃ X Y : Int, laterV t [d] = X ∧ laterV t [d, e] = Y ∧ laterV X [e] = Y ∧ laterV t [e, d] = Y ∧ laterV t [] = t ∧ laterV 18446744073709551615 [t] = 18446744073709551615 ∧
      t ≤ X ∧ d ≤ X ∧ X ≤ Y ∧ e ≤ Y ∧ 0 ≤ X ∧ X < 18446744073709551616 := by
  obtain ⟨t0, t1⟩ := ht
  obtain ⟨d0, d1⟩ := hd
  obtain ⟨e0, e1⟩ := he
  have h1 := laterV_cases t [d]
  have h2 := laterV_cases t [d, e]
  have h3 := laterV_cases (laterV t [d]) [e]
  have h4 := laterV_cases t [e, d]
  have h5 := laterV_cases t []
  have h6 := laterV_cases 18446744073709551615 [t]
  simp only [tot] at h1 h2 h3 h4 h5 h6
  refine ⟨laterV t [d], laterV t [d, e], rfl, rfl, ?_, ?_, ?_, ?_, ?_, ?_, ?_, ?_, ?_, ?_⟩ <;> omega

theorem later_one (t d : Int) (ht : Word t) (hd : Word d) (b : Nat) (w : World) (h0 : w.cell? ⟨b, 0, none⟩ = some (.int .u64 d)) :
    Calls Try.prog 7 #[.int .u64 t, .slice (some ⟨b, 0, none⟩) 1 1] w fun e w' => e = .returned (.int .u64 (laterV t [d])) ∧ w' = w :=
  later_any t [d] _ w ht (by intro z hz; simp at hz; rw [hz]; exact hd) (Or.inr ⟨b, 0, 1, rfl, by
    intro i hi
    match i, hi with
    | 0, _ => simpa using h0, by simp⟩)
theorem later_two (t d s : Int) (ht : Word t) (hd : Word d) (he : Word s) (b : Nat) (w : World) (h0 : w.cell? ⟨b, 0, none⟩ = some (.int .u64 d)) (h1 : w.cell? ⟨b, 1, none⟩ = some (.int .u64 s)) :
    Calls Try.prog 7 #[.int .u64 t, .slice (some ⟨b, 0, none⟩) 2 2] w fun e w' => e = .returned (.int .u64 (laterV t [d, s])) ∧ w' = w :=
  later_any t [d, s] _ w ht (words_two hd he) (slice_two h0 h1)

set_option maxHeartbeats 2000000 in
theorem stops_law (t : Int) (ht : Word t) (d : Int) (hd : Word d) (s : Int) (hs : Word s) (w : World) :
    Calls Try.prog 4 #[.int .u64 t, .int .u64 d, .int .u64 s] w fun e w' => e = .returned (.bool true) ∧ Below w.heap.size w w' := by
  obtain ⟨X, Y, e1, e2, e3, e4, e5, e6, f1, f2, f3, f4, f5, f6⟩ := stops_num t d s ht hd hs
  have C1 := hide (fun b w h0 => later_one t d ht hd b w h0)
  have C2 := hide (fun b w h0 h1 => later_two t d s ht hd hs b w h0 h1)
  have C3 := hide (fun b w h0 => later_one X s ⟨f5, f6⟩ hs b w h0)
  have C4 := hide (fun b w h0 h1 => later_two t s d ht hs hd b w h0 h1)
  have C5 := hide (fun w => later_any t [] (.slice none 0 0) w ht (by simp) (Or.inl ⟨none, 0, rfl, rfl⟩))
  have C6 := hide (fun b w h0 => later_one 18446744073709551615 t ⟨by omega, by omega⟩ ht b w h0)
  rw [e1] at C1
  rw [e2] at C2
  rw [e3] at C3
  rw [e4] at C4
  rw [e5] at C5
  rw [e6] at C6
  clear e1 e2 e3 e4 e5 e6 ht hd hs
  go_enter Try.func4, Try.ntmps4
  go_wp2_with fail
  refine (alive_any _).mono ?_
  rintro e w1 ⟨rfl, hbel⟩
  have HB := hide hbel
  clear hbel
  go_wp2_with fail
  refine (C1.out _ _ (by simp [go_sem])).mono ?_
  rintro e w' ⟨rfl, rfl⟩
  go_wp2_with fail
  refine (C2.out _ _ (by simp [go_sem]) (by simp [go_sem])).mono ?_
  rintro e w' ⟨rfl, rfl⟩
  go_wp2_with fail
  refine (C3.out _ _ (by simp [go_sem])).mono ?_
  rintro e w' ⟨rfl, rfl⟩
  go_wp2_with fail
  refine (C4.out _ _ (by simp [go_sem]) (by simp [go_sem])).mono ?_
  rintro e w' ⟨rfl, rfl⟩
  go_wp2_with fail
  refine (C5.out _).mono ?_
  rintro e w' ⟨rfl, rfl⟩
  go_wp2_with fail
  refine (C6.out _ _ (by simp [go_sem])).mono ?_
  rintro e w' ⟨rfl, rfl⟩
  go_wp2
  go_ret
  have hz := HB.out.size
  exact ⟨rfl, ((((HB.out.alloc hz _).alloc (by simp; omega) _).alloc (by simp; omega) _).alloc (by simp; omega) _).alloc (by simp; omega) _⟩

set_option maxRecDepth 100000 in
theorem calcStops_lifted (os : Os) (started : os.Started) (H : Type) (enc : TypeId × Value → H) :
    ReturnsInHanded {} Try.checked os 4 .any (Rows.calcStopsSpec.pre6 enc Try.prog Try.f4 Rows.calcStopsRow.domain false) (Rows.calcStopsSpec.post enc Try.prog Try.f4 false true false false) := by
  refine returnsInHanded_of_change (C := Try.checked) own started (by kernel_rfl) Try.func4
    (ChangeSpec.witness6 (enc := enc) (C := Try.checked) false ⟨#[], #[.int .u64 0, .int .u64 0, .int .u64 0], []⟩ 8 (by kernel_rfl) (by kernel_rfl) (by kernel_rfl) (by kernel_rfl)) ?_
  intro W base args ds gs before hval0 hW hcnd _
  have hval : ∀ (j : Nat) t v, Try.f4.params[j]? = some t → args[j]? = some v → Value.okWide Try.prog W .any base t v := hval0
  have hW' := hW
  obtain ⟨p, q, hA0, hV, rfl, hfz, hnd⟩ := hW
  have hA : DataW.TrodAll enc Try.prog W 0 (fun _ => true) true Try.f4.params.toList args.toList ds p := hA0
  rw [Try.params4] at hA hval
  obtain ⟨v0, vs0, d0, ds0, p0, q0, hargs, rfl, rfl, h0, r0⟩ := trodAll_cons hA
  obtain ⟨v1, vs1, d1, ds1, p1, q1, rfl, rfl, rfl, h1, r1⟩ := trodAll_cons r0
  obtain ⟨v2, vs2, d2, ds2, p2, q2, rfl, rfl, rfl, h2, r2⟩ := trodAll_cons r1
  obtain ⟨rfl, rfl, rfl⟩ := trodAll_nil r2
  obtain rfl : args = #[v0, v1, v2] := by cases args; simp_all
  obtain ⟨rfl, rfl⟩ := trodVars_none hV
  obtain ⟨a0, rfl, rfl, rfl, w0⟩ := open_int Try.underlying24 (hval 0 24 v0 rfl rfl) h0
  obtain ⟨a1, rfl, rfl, rfl, w1⟩ := open_int Try.underlying24 (hval 1 24 v1 rfl rfl) h1
  obtain ⟨a2, rfl, rfl, rfl, w2⟩ := open_int Try.underlying24 (hval 2 24 v2 rfl rfl) h2
  clear hA0 hval0
  refine (stops_law (w := W) a0 (word_of_wf w0) a1 (word_of_wf w1) a2 (word_of_wf w2)).mono fun e W' ⟨he, bel⟩ => ?_
  subst he
  exact ⟨_, rfl, _, _, _, [], _, [], hW', trodAll_mk1 (shut_bool Try.underlying4 _), (trodAll_cons_mk (shut_int Try.underlying24 w0) (trodAll_cons_mk (shut_int Try.underlying24 w1) (trodAll_cons_mk (shut_int Try.underlying24 w2) trodAll_mk0))), rfl, bel.frame _, fun h => by cases h⟩

theorem calcStops_holds : Rows.CalcStopsSaid :=
  OpenClaim.holds_of_wide 4 Try.f4 rfl rfl rfl rfl rfl rfl rfl ⟨rfl, rfl, rfl, rfl, rfl⟩ rfl rfl rfl rfl rfl (by kernel_rfl) Try.func4 (by kernel_rfl)
    (of_decide_eq_true (by kernel_rfl)) (by unfold Func.isWrapper; first | (rw [if_pos (by decide +kernel)]; kernel_rfl) | (rw [if_neg (by decide +kernel)]; exact ⟨rfl, rfl⟩))
    (fun os started H enc _ => calcStops_lifted os started H enc)
#print axioms calcStops_holds
end Go.Proofs.Ytggekibapfhcdab
