/-
  Proved: for every size and every rate of the type uint64 the law CalcNeeds answers true, and its arguments read as they did. No condition.
-/
import Derived.Test.YtggekibapfhcdaaLaw
namespace Go.Proofs.Ytggekibapfhcdaa
open Go.ChangeShapes Go.WideShapes Go.ChangeAt Go.RowKit

set_option maxHeartbeats 1000000 in
theorem needs_over (x y : Nat) (hx : x < 18446744073709551616) (hy : y < 18446744073709551616) (hf : 18446744073709551616 ≤ (x * y + 999) / 1000) (w : World) :
    Calls Try.prog 8 #[.int .u64 x, .int .u64 y] w fun e w' => e = .returned (.bool true) ∧ Below w.heap.size w w' := by
  have N := hide (fun w => need_range x y hx hy hf w)
  obtain ⟨k, hk, hc⟩ := cmp_named x y 18446744073709551615 1000 hx hy (by omega) (by omega)
  have hpos : (0 : Int) < k := by omega
  have C := hide hk
  clear hk hc hf hx hy
  go_enter Try.func8, Try.ntmps8
  go_wp2_with fail
  refine (alive_any _).mono ?_
  rintro e w1 ⟨rfl, hb⟩
  go_wp2_with fail
  refine (N.out _).mono ?_
  rintro e w' ⟨rfl, rfl⟩
  go_wp2_with fail
  refine (C.out _).mono ?_
  rintro e w' ⟨rfl, rfl⟩
  go_wp2
  go_ret
  exact ⟨rfl, hb⟩
set_option maxHeartbeats 1000000 in
theorem needs_zero (x y : Nat) (hx : x < 18446744073709551616) (hy : y < 18446744073709551616) (hf : (x * y + 999) / 1000 = 0) (w : World) :
    Calls Try.prog 8 #[.int .u64 x, .int .u64 y] w fun e w' => e = .returned (.bool true) ∧ Below w.heap.size w w' := by
  have N := hide (fun w => need_ok x y hx hy (by omega) w)
  rw [hf] at N
  obtain ⟨k, hk, hc⟩ := cmp_named 0 1000 x y (by omega) (by omega) hx hy
  have hpos : (0 : Int) ≤ k := by omega
  have C := hide hk
  clear hk hc hf hx hy
  go_enter Try.func8, Try.ntmps8
  go_wp2_with fail
  refine (alive_any _).mono ?_
  rintro e w1 ⟨rfl, hb⟩
  go_wp2_with fail
  refine (N.out _).mono ?_
  rintro e w' ⟨rfl, n, rfl⟩
  go_wp2_with fail
  refine (C.out _).mono ?_
  rintro e w' ⟨rfl, rfl⟩
  go_wp2
  go_ret
  exact ⟨rfl, below_drewN hb _⟩
set_option maxHeartbeats 1000000 in
theorem needs_some (x y q : Nat) (hx : x < 18446744073709551616) (hy : y < 18446744073709551616) (hq : q + 1 < 18446744073709551616) (hf : (x * y + 999) / 1000 = q + 1) (w : World) :
    Calls Try.prog 8 #[.int .u64 x, .int .u64 y] w fun e w' => e = .returned (.bool true) ∧ Below w.heap.size w w' := by
  have N := hide (fun w => need_ok x y hx hy (by omega) w)
  rw [hf] at N
  obtain ⟨k, hk, hc⟩ := cmp_named (q + 1) 1000 x y (by omega) (by omega) hx hy
  have hpos : (0 : Int) ≤ k := by omega
  have C := hide hk
  obtain ⟨k', hk', hc'⟩ := cmp_named q 1000 x y (by omega) (by omega) hx hy
  have hneg : k' < (0 : Int) := by omega
  have C' := hide hk'
  have hz : (((q : Int) + 1) == 0) = false := by rw [beq_eq_false_iff_ne]; omega
  clear hk hc hf hx hy hk' hc'
  go_enter Try.func8, Try.ntmps8
  go_wp2_with fail
  refine (alive_any _).mono ?_
  rintro e w1 ⟨rfl, hb⟩
  go_wp2_with fail
  refine (N.out _).mono ?_
  rintro e w' ⟨rfl, n, rfl⟩
  go_wp2_with fail
  refine (C.out _).mono ?_
  rintro e w' ⟨rfl, rfl⟩
  go_wp2_with fail
  refine (C'.out _).mono ?_
  rintro e w' ⟨rfl, rfl⟩
  go_wp2
  go_ret
  exact ⟨rfl, below_drewN hb _⟩
theorem needs_any (x y : Nat) (hx : x < 18446744073709551616) (hy : y < 18446744073709551616) (w : World) :
    Calls Try.prog 8 #[.int .u64 x, .int .u64 y] w fun e w' => e = .returned (.bool true) ∧ Below w.heap.size w w' := by
  by_cases h : 18446744073709551616 ≤ (x * y + 999) / 1000
  · exact needs_over x y hx hy h w
  · by_cases h0 : (x * y + 999) / 1000 = 0
    · exact needs_zero x y hx hy h0 w
    · exact needs_some x y ((x * y + 999) / 1000 - 1) hx hy (by omega) (by omega) w

theorem needs_law (a : Int) (ha : Word a) (b : Int) (hb : Word b) (w : World) :
    Calls Try.prog 8 #[.int .u64 a, .int .u64 b] w fun e w' => e = .returned (.bool true) ∧ Below w.heap.size w w' := by
  obtain ⟨x, rfl⟩ := Int.eq_ofNat_of_zero_le ha.1
  obtain ⟨y, rfl⟩ := Int.eq_ofNat_of_zero_le hb.1
  exact needs_any x y (by have := ha.2; omega) (by have := hb.2; omega) w

set_option maxRecDepth 100000 in
theorem calcNeeds_lifted (os : Os) (started : os.Started) (H : Type) (enc : TypeId × Value → H) :
    ReturnsInHanded {} Try.checked os 8 .any (Rows.calcNeedsSpec.pre6 enc Try.prog Try.f8 Rows.calcNeedsRow.domain false) (Rows.calcNeedsSpec.post enc Try.prog Try.f8 false true false false) := by
  refine returnsInHanded_of_change (C := Try.checked) own started (by kernel_rfl) Try.func8
    (ChangeSpec.witness6 (enc := enc) (C := Try.checked) false ⟨#[], #[.int .u64 0, .int .u64 0], []⟩ 8 (by kernel_rfl) (by kernel_rfl) (by kernel_rfl) (by kernel_rfl)) ?_
  intro W base args ds gs before hval0 hW hcnd _
  have hval : ∀ (j : Nat) t v, Try.f8.params[j]? = some t → args[j]? = some v → Value.okWide Try.prog W .any base t v := hval0
  have hW' := hW
  obtain ⟨p, q, hA0, hV, rfl, hfz, hnd⟩ := hW
  have hA : DataW.TrodAll enc Try.prog W 0 (fun _ => true) true Try.f8.params.toList args.toList ds p := hA0
  rw [Try.params8] at hA hval
  obtain ⟨v0, vs0, d0, ds0, p0, q0, hargs, rfl, rfl, h0, r0⟩ := trodAll_cons hA
  obtain ⟨v1, vs1, d1, ds1, p1, q1, rfl, rfl, rfl, h1, r1⟩ := trodAll_cons r0
  obtain ⟨rfl, rfl, rfl⟩ := trodAll_nil r1
  obtain rfl : args = #[v0, v1] := by cases args; simp_all
  obtain ⟨rfl, rfl⟩ := trodVars_none hV
  obtain ⟨a0, rfl, rfl, rfl, w0⟩ := open_int Try.underlying22 (hval 0 22 v0 rfl rfl) h0
  obtain ⟨a1, rfl, rfl, rfl, w1⟩ := open_int Try.underlying22 (hval 1 22 v1 rfl rfl) h1
  clear hA0 hval0
  refine (needs_law (w := W) a0 (word_of_wf w0) a1 (word_of_wf w1)).mono fun e W' ⟨he, bel⟩ => ?_
  subst he
  exact ⟨_, rfl, _, _, _, [], _, [], hW', trodAll_mk1 (shut_bool Try.underlying4 _), (trodAll_cons_mk (shut_int Try.underlying22 w0) (trodAll_cons_mk (shut_int Try.underlying22 w1) trodAll_mk0)), rfl, bel.frame _, fun h => by cases h⟩

theorem calcNeeds_holds : Rows.CalcNeedsSaid :=
  OpenClaim.holds_of_wide 8 Try.f8 rfl rfl rfl rfl rfl rfl rfl ⟨rfl, rfl, rfl, rfl, rfl⟩ rfl rfl rfl rfl rfl (by kernel_rfl) Try.func8 (by kernel_rfl)
    (of_decide_eq_true (by kernel_rfl)) (by unfold Func.isWrapper; first | (rw [if_pos (by decide +kernel)]; kernel_rfl) | (rw [if_neg (by decide +kernel)]; exact ⟨rfl, rfl⟩))
    (fun os started H enc _ => calcNeeds_lifted os started H enc)
#print axioms calcNeeds_holds
end Go.Proofs.Ytggekibapfhcdaa
