/-
  Proved: for every number, numerator and denominator of the type uint64 the law CalcDivides answers true, and its arguments read as they did. No condition.
-/
import Derived.Test.YtggekibapfhcdaaLaw
namespace Go.Proofs.Ytggekibapfhcdaa
open Go.ChangeShapes Go.WideShapes Go.ChangeAt Go.RowKit

set_option maxHeartbeats 1000000 in
theorem divides_zero (x num : Nat) (w : World) :
    Calls Try.prog 7 #[.int .u64 x, .int .u64 num, .int .u64 0] w fun e w' => e = .returned (.bool true) ∧ Below w.heap.size w w' := by
  go_enter Try.func7, Try.ntmps7
  go_wp2_with fail
  refine (alive_any _).mono ?_
  rintro e w1 ⟨rfl, hb⟩
  go_wp2_with fail
  refine (part_zero _ _ _).mono ?_
  rintro e w' ⟨rfl, rfl⟩
  go_wp2
  go_ret
  exact ⟨rfl, hb⟩
set_option maxHeartbeats 1000000 in
theorem divides_over (x num den : Nat) (hx : x < 18446744073709551616) (hn : num < 18446744073709551616) (hd : den < 18446744073709551616) (h0 : 0 < den) (hf : 18446744073709551616 ≤ x * num / den) (w : World) :
    Calls Try.prog 7 #[.int .u64 x, .int .u64 num, .int .u64 den] w fun e w' => e = .returned (.bool true) ∧ Below w.heap.size w w' := by
  have N := hide (fun w => part_range x num den hx hn h0 hf w)
  obtain ⟨k, hk, hc⟩ := cmp_named x num 18446744073709551615 den hx hn (by omega) hd
  have hpos : (0 : Int) < k := by
    rw [Nat.le_div_iff_mul_le h0] at hf
    omega
  have C := hide hk
  have hz : ((den : Int) == 0) = false := by rw [beq_eq_false_iff_ne]; omega
  clear hk hc hf hx hn hd h0
  go_enter Try.func7, Try.ntmps7
  go_wp2_with fail
  refine (alive_any _).mono ?_
  rintro e w1 ⟨rfl, hb⟩
  go_wp2_with fail
  refine (N.out _).mono ?_
  rintro e w' ⟨rfl, rfl⟩
  go_wp2_with fail
  refine (C.out _).mono ?_
  rintro e w' ⟨rfl, rfl⟩
  go_wp2
  go_ret
  exact ⟨rfl, hb⟩
theorem part_below (x num den q : Nat) (h0 : 0 < den) (hq : x * num / den = q) : q * den ≤ x * num ∧ x * num < q * den + den := by
  have h := Nat.div_add_mod (x * num) den
  have h2 := Nat.mod_lt (x * num) h0
  rw [hq, Nat.mul_comm den q] at h
  omega
set_option maxHeartbeats 1000000 in
theorem divides_top (x num den : Nat) (hx : x < 18446744073709551616) (hn : num < 18446744073709551616) (hd : den < 18446744073709551616) (h0 : 0 < den) (hf : x * num / den = 18446744073709551615) (w : World) :
    Calls Try.prog 7 #[.int .u64 x, .int .u64 num, .int .u64 den] w fun e w' => e = .returned (.bool true) ∧ Below w.heap.size w w' := by
  have N := hide (fun w => part_ok x num den hx hn hd h0 (by omega) w)
  rw [hf] at N
  obtain ⟨k, hk, hc⟩ := cmp_named 18446744073709551615 den x num (by omega) hd hx hn
  have hneg : k ≤ (0 : Int) := by
    have := part_below x num den _ h0 hf
    omega
  have C := hide hk
  have hz : ((den : Int) == 0) = false := by rw [beq_eq_false_iff_ne]; omega
  clear hk hc hf hx hn hd h0
  go_enter Try.func7, Try.ntmps7
  go_wp2_with fail
  refine (alive_any _).mono ?_
  rintro e w1 ⟨rfl, hb⟩
  go_wp2_with fail
  refine (N.out _).mono ?_
  rintro e w' ⟨rfl, n, rfl⟩
  go_wp2_with fail
  refine (C.out _).mono ?_
  rintro e w' ⟨rfl, rfl⟩
  go_wp2
  go_ret
  exact ⟨rfl, below_drewN hb _⟩
set_option maxHeartbeats 1000000 in
theorem divides_some (x num den q : Nat) (hx : x < 18446744073709551616) (hn : num < 18446744073709551616) (hd : den < 18446744073709551616) (h0 : 0 < den) (hf : x * num / den = q) (hq : q < 18446744073709551615) (w : World) :
    Calls Try.prog 7 #[.int .u64 x, .int .u64 num, .int .u64 den] w fun e w' => e = .returned (.bool true) ∧ Below w.heap.size w w' := by
  have N := hide (fun w => part_ok x num den hx hn hd h0 (by omega) w)
  rw [hf] at N
  have hp := part_below x num den _ h0 hf
  obtain ⟨k, hk, hc⟩ := cmp_named q den x num (by omega) hd hx hn
  have hneg : k ≤ (0 : Int) := by omega
  have C := hide hk
  obtain ⟨k', hk', hc'⟩ := cmp_named (q + 1) den x num (by omega) hd hx hn
  have hpos : (0 : Int) < k' := by
    rw [Nat.add_mul, Nat.one_mul] at hc'
    omega
  have C' := hide hk'
  have hz : ((den : Int) == 0) = false := by rw [beq_eq_false_iff_ne]; omega
  have hq1 : ((q : Int) == 18446744073709551615) = false := by rw [beq_eq_false_iff_ne]; omega
  have hq2 : (q : Int) < 18446744073709551615 := by omega
  clear hk hc hf hx hn hd h0 hk' hc' hp hq
  go_enter Try.func7, Try.ntmps7
  go_wp2_with fail
  refine (alive_any _).mono ?_
  rintro e w1 ⟨rfl, hb⟩
  go_wp2_with fail
  refine (N.out _).mono ?_
  rintro e w' ⟨rfl, n, rfl⟩
  go_wp2_with fail
  refine (C.out _).mono ?_
  rintro e w' ⟨rfl, rfl⟩
  go_wp2_with fail
  refine (C'.out _).mono ?_
  rintro e w' ⟨rfl, rfl⟩
  go_wp2
  go_ret
  exact ⟨rfl, below_drewN hb _⟩
theorem divides_law (a : Int) (ha : Word a) (b : Int) (hb : Word b) (c : Int) (hc : Word c) (w : World) :
    Calls Try.prog 7 #[.int .u64 a, .int .u64 b, .int .u64 c] w fun e w' => e = .returned (.bool true) ∧ Below w.heap.size w w' := by
  obtain ⟨ha0, ha1⟩ := ha
  obtain ⟨hb0, hb1⟩ := hb
  obtain ⟨hc0, hc1⟩ := hc
  obtain ⟨x, rfl⟩ := Int.eq_ofNat_of_zero_le ha0
  obtain ⟨y, rfl⟩ := Int.eq_ofNat_of_zero_le hb0
  obtain ⟨z, rfl⟩ := Int.eq_ofNat_of_zero_le hc0
  rcases Nat.eq_zero_or_pos z with h | h
  · subst h
    exact divides_zero x y w
  · by_cases h1 : 18446744073709551616 ≤ x * y / z
    · exact divides_over x y z (by omega) (by omega) (by omega) h h1 w
    · by_cases h2 : x * y / z = 18446744073709551615
      · exact divides_top x y z (by omega) (by omega) (by omega) h h2 w
      · exact divides_some x y z _ (by omega) (by omega) (by omega) h rfl (by omega) w

set_option maxRecDepth 100000 in
theorem calcDivides_lifted (os : Os) (started : os.Started) (H : Type) (enc : TypeId × Value → H) :
    ReturnsInHanded {} Try.checked os 7 .any (Rows.calcDividesSpec.pre6 enc Try.prog Try.f7 Rows.calcDividesRow.domain false) (Rows.calcDividesSpec.post enc Try.prog Try.f7 false true false false) := by
  refine returnsInHanded_of_change (C := Try.checked) own started (by kernel_rfl) Try.func7
    (ChangeSpec.witness6 (enc := enc) (C := Try.checked) false ⟨#[], #[.int .u64 0, .int .u64 0, .int .u64 0], []⟩ 8 (by kernel_rfl) (by kernel_rfl) (by kernel_rfl) (by kernel_rfl)) ?_
  intro W base args ds gs before hval0 hW hcnd _
  have hval : ∀ (j : Nat) t v, Try.f7.params[j]? = some t → args[j]? = some v → Value.okWide Try.prog W .any base t v := hval0
  have hW' := hW
  obtain ⟨p, q, hA0, hV, rfl, hfz, hnd⟩ := hW
  have hA : DataW.TrodAll enc Try.prog W 0 (fun _ => true) true Try.f7.params.toList args.toList ds p := hA0
  rw [Try.params7] at hA hval
  obtain ⟨v0, vs0, d0, ds0, p0, q0, hargs, rfl, rfl, h0, r0⟩ := trodAll_cons hA
  obtain ⟨v1, vs1, d1, ds1, p1, q1, rfl, rfl, rfl, h1, r1⟩ := trodAll_cons r0
  obtain ⟨v2, vs2, d2, ds2, p2, q2, rfl, rfl, rfl, h2, r2⟩ := trodAll_cons r1
  obtain ⟨rfl, rfl, rfl⟩ := trodAll_nil r2
  obtain rfl : args = #[v0, v1, v2] := by cases args; simp_all
  obtain ⟨rfl, rfl⟩ := trodVars_none hV
  obtain ⟨a0, rfl, rfl, rfl, w0⟩ := open_int Try.underlying22 (hval 0 22 v0 rfl rfl) h0
  obtain ⟨a1, rfl, rfl, rfl, w1⟩ := open_int Try.underlying22 (hval 1 22 v1 rfl rfl) h1
  obtain ⟨a2, rfl, rfl, rfl, w2⟩ := open_int Try.underlying22 (hval 2 22 v2 rfl rfl) h2
  clear hA0 hval0
  refine (divides_law (w := W) a0 (word_of_wf w0) a1 (word_of_wf w1) a2 (word_of_wf w2)).mono fun e W' ⟨he, bel⟩ => ?_
  subst he
  exact ⟨_, rfl, _, _, _, [], _, [], hW', trodAll_mk1 (shut_bool Try.underlying4 _), (trodAll_cons_mk (shut_int Try.underlying22 w0) (trodAll_cons_mk (shut_int Try.underlying22 w1) (trodAll_cons_mk (shut_int Try.underlying22 w2) trodAll_mk0))), rfl, bel.frame _, fun h => by cases h⟩

theorem calcDivides_holds : Rows.CalcDividesSaid :=
  OpenClaim.holds_of_wide 7 Try.f7 rfl rfl rfl rfl rfl rfl rfl ⟨rfl, rfl, rfl, rfl, rfl⟩ rfl rfl rfl rfl rfl (by kernel_rfl) Try.func7 (by kernel_rfl)
    (of_decide_eq_true (by kernel_rfl)) (by unfold Func.isWrapper; first | (rw [if_pos (by decide +kernel)]; kernel_rfl) | (rw [if_neg (by decide +kernel)]; exact ⟨rfl, rfl⟩))
    (fun os started H enc _ => calcDivides_lifted os started H enc)
#print axioms calcDivides_holds
end Go.Proofs.Ytggekibapfhcdaa
