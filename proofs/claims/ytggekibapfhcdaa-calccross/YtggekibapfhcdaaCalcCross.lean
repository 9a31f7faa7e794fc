/-
  Proved: for every four numbers of the type uint64 the law CalcCross answers true, and its argument reads as it did. No condition.
-/
import Derived.Test.YtggekibapfhcdaaLaw
namespace Go.Proofs.Ytggekibapfhcdaa
open Go.ChangeShapes Go.WideShapes Go.ChangeAt Go.RowKit

theorem cmpI_neg (x y : Int) : cmpI y x = -cmpI x y := by
  rcases cmpI_cases x y with ⟨h, e⟩ | ⟨h, e⟩ | ⟨h, e⟩
  · rw [e, cmpI_gt h]; rfl
  · rw [e, cmpI_eq h.symm]; rfl
  · rw [e, cmpI_lt h]
set_option maxHeartbeats 2000000 in
theorem cross_law (a b c d : Int) (ha : Word a) (hb : Word b) (hc : Word c) (hd : Word d) (w : World) :
    Calls Try.prog 5 #[.agg #[.int .u64 a, .int .u64 b, .int .u64 c, .int .u64 d]] w fun e w' => e = .returned (.bool true) ∧ Below w.heap.size w w' := by
  have C1 := hide (fun w => cmp_any a b c d ha hb hc hd w)
  have C2 := hide (fun w => cmp_any c d a b hc hd ha hb w)
  have C3 := hide (fun w => cmp_any b a c d hb ha hc hd w)
  have C4 := hide (fun w => cmp_any a b d c ha hb hd hc w)
  have C5 := hide (fun w => cmp_any a b b a ha hb hb ha w)
  rw [cmpI_neg (a * b) (c * d)] at C2
  rw [Int.mul_comm b a] at C3
  rw [Int.mul_comm d c] at C4
  rw [Int.mul_comm b a, cmpI_eq rfl] at C5
  have hk : -1 ≤ cmpI (a * b) (c * d) ∧ cmpI (a * b) (c * d) ≤ 1 := by
    rcases cmpI_cases (a * b) (c * d) with ⟨_, e⟩ | ⟨_, e⟩ | ⟨_, e⟩ <;> rw [e] <;> omega
  obtain ⟨hk0, hk1⟩ := hk
  generalize cmpI (a * b) (c * d) = k at *
  clear ha hb hc hd
  go_enter Try.func5, Try.ntmps5
  go_wp2_with fail
  refine (alive_any _).mono ?_
  rintro e w1 ⟨rfl, hbel⟩
  obtain ⟨g0, g1, g2, g3⟩ := box_four hbel
  have HB := hide hbel
  clear hbel
  go_wp2_with fail
  refine (C1.out _).mono ?_
  rintro e w' ⟨rfl, rfl⟩
  go_wp2_with fail
  refine (C2.out _).mono ?_
  rintro e w' ⟨rfl, rfl⟩
  go_wp2_with fail
  refine (C3.out _).mono ?_
  rintro e w' ⟨rfl, rfl⟩
  go_wp2_with fail
  refine (C4.out _).mono ?_
  rintro e w' ⟨rfl, rfl⟩
  go_wp2_with fail
  refine (C5.out _).mono ?_
  rintro e w' ⟨rfl, rfl⟩
  go_wp2
  go_ret
  exact ⟨rfl, ((Below.refl _ _).alloc (Nat.le_refl _) _).trans (HB.out.mono (by simp))⟩

set_option maxRecDepth 100000 in
theorem calcCross_lifted (os : Os) (started : os.Started) (H : Type) (enc : TypeId × Value → H) :
    ReturnsInHanded {} Try.checked os 5 .any (Rows.calcCrossSpec.pre6 enc Try.prog Try.f5 Rows.calcCrossRow.domain false) (Rows.calcCrossSpec.post enc Try.prog Try.f5 false true false false) := by
  refine returnsInHanded_of_change (C := Try.checked) own started (by kernel_rfl) Try.func5
    (ChangeSpec.witness6 (enc := enc) (C := Try.checked) false ⟨#[], #[.agg #[.int .u64 0, .int .u64 0, .int .u64 0, .int .u64 0]], []⟩ 8 (by kernel_rfl) (by kernel_rfl) (by kernel_rfl) (by kernel_rfl)) ?_
  intro W base args ds gs before hval0 hW hcnd _
  have hval : ∀ (j : Nat) t v, Try.f5.params[j]? = some t → args[j]? = some v → Value.okWide Try.prog W .any base t v := hval0
  have hW' := hW
  obtain ⟨p, q, hA0, hV, rfl, hfz, hnd⟩ := hW
  have hA : DataW.TrodAll enc Try.prog W 0 (fun _ => true) true Try.f5.params.toList args.toList ds p := hA0
  rw [Try.params5] at hA hval
  obtain ⟨v0, vs0, d0, ds0, p0, q0, hargs, rfl, rfl, h0, r0⟩ := trodAll_cons hA
  obtain ⟨rfl, rfl, rfl⟩ := trodAll_nil r0
  obtain rfl : args = #[v0] := by cases args; simp_all
  obtain ⟨rfl, rfl⟩ := trodVars_none hV
  have k0 := h0
  have lt0 : ∀ x ∈ p0, x.block < W.heap.size := by obtain ⟨m, hm⟩ := k0; exact DataW.trod_lt m _ _ _ hm
  obtain ⟨c0, c1, c2, c3, y0, y1, y2, y3, n, rfl, _, _, t0, t1, t2, t3⟩ := Joins.open_agg4 Try.underlying33 (by kernel_rfl) (by kernel_rfl) (hval 0 33 v0 rfl rfl) h0
  obtain ⟨x0, e0, _, wx0⟩ := DataW.trod_int Try.underlying22 t0
  obtain ⟨x1, e1, _, wx1⟩ := DataW.trod_int Try.underlying22 t1
  obtain ⟨x2, e2, _, wx2⟩ := DataW.trod_int Try.underlying22 t2
  obtain ⟨x3, e3, _, wx3⟩ := DataW.trod_int Try.underlying22 t3
  simp at e0 e1 e2 e3
  subst e0 e1 e2 e3
  clear hA0 hval0
  refine (cross_law (w := W) x0 x1 x2 x3 (word_of_wf wx0) (word_of_wf wx1) (word_of_wf wx2) (word_of_wf wx3)).mono fun e W' ⟨he, bel⟩ => ?_
  subst he
  exact ⟨_, rfl, _, _, _, [], _, [], hW', trodAll_mk1 (shut_bool Try.underlying4 _), (trodAll_cons_mk (Below.trod laidOut (by kernel_rfl) (of_decide_eq_true (by kernel_rfl)) k0 bel lt0) trodAll_mk0), rfl, bel.frame _, fun h => by cases h⟩

theorem calcCross_holds : Rows.CalcCrossSaid :=
  OpenClaim.holds_of_wide 5 Try.f5 rfl rfl rfl rfl rfl rfl rfl ⟨rfl, rfl, rfl, rfl, rfl⟩ rfl rfl rfl rfl rfl (by kernel_rfl) Try.func5 (by kernel_rfl)
    (of_decide_eq_true (by kernel_rfl)) (by unfold Func.isWrapper; first | (rw [if_pos (by decide +kernel)]; kernel_rfl) | (rw [if_neg (by decide +kernel)]; exact ⟨rfl, rfl⟩))
    (fun os started H enc _ => calcCross_lifted os started H enc)
#print axioms calcCross_holds
end Go.Proofs.Ytggekibapfhcdaa
