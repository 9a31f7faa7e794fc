/-
  What math/bits.Div64, calc.over, calc.Part and calc.Need answer at this program, whatever the numbers.
-/
import Derived.Test.YtggekibapfhcdaaDiv
namespace Go.Proofs.Ytggekibapfhcdaa
open Go.RowKit Go.Shelf

set_option maxHeartbeats 1000000 in
theorem div_low (lo y : Nat) (hlo : lo < 18446744073709551616) (hy0 : 0 < y) (hy : y < 18446744073709551616) (w : World) :
    Calls Try.prog 27 #[.int .u64 0, .int .u64 lo, .int .u64 y] w fun e w' => (∃ r : Int, e = .returned (.tuple #[.int .u64 ((lo / y : Nat) : Int), .int .u64 r])) ∧ ∃ n, w' = w.drewN n := by
  have h1 : ((y : Int) == 0) = false := by rw [beq_eq_false_iff_ne]; omega
  have h2 : ¬ y = 0 := by omega
  have h3 : lo / y ≤ lo := Nat.div_le_self _ _
  have h4 : IntKind.u64.wrap ((lo : Int) / (y : Int)) = ((lo / y : Nat) : Int) := by
    rw [← Int.natCast_ediv, wrap_nat _ (by omega)]
  have H4 := hide h4
  clear h4 h3
  go_enter Try.func27, Try.ntmps27
  go_wp2
  go_quiet (fail)
  go_wp2
  go_ret2
  exact ⟨⟨_, ret_two H4.out⟩, _, rfl⟩

/-- math/bits.Div64 where the quotient fits. -/
theorem div_any (hi lo y : Nat) (hh : hi < y) (hlo : lo < 18446744073709551616) (hy : y < 18446744073709551616) (w : World) :
    Calls Try.prog 27 #[.int .u64 hi, .int .u64 lo, .int .u64 y] w fun e w' => (∃ r : Int, e = .returned (.tuple #[.int .u64 (((hi * 18446744073709551616 + lo) / y : Nat) : Int), .int .u64 r])) ∧ ∃ n, w' = w.drewN n := by
  rcases Nat.eq_zero_or_pos hi with h | h
  · subst h
    rw [Nat.zero_mul, Nat.zero_add]
    exact div_low lo y hlo hh hy w
  · exact (div_high hi lo y h hh hlo hy w).mono fun e w' h => ⟨h.1, 0, h.2⟩

/-- calc.over, where the quotient fits. -/
theorem over_ok (hi lo den : Nat) (hh : hi < den) (hlo : lo < 18446744073709551616) (hd : den < 18446744073709551616) (w : World) :
    Calls Try.prog 22 #[.int .u64 hi, .int .u64 lo, .int .u64 den] w fun e w' => e = .returned (.tuple #[.int .u64 (((hi * 18446744073709551616 + lo) / den : Nat) : Int), .int .i64 0]) ∧ ∃ n, w' = w.drewN n := by
  have h1 : ¬ (den : Int) ≤ (hi : Int) := by omega
  have D := hide (fun w => div_any hi lo den hh hlo hd w)
  clear hh hlo hd
  generalize (hi * 18446744073709551616 + lo) / den = q at *
  go_enter Try.func22, Try.ntmps22
  go_wp2_with fail
  refine (D.out _).mono ?_
  rintro e w' ⟨⟨r, rfl⟩, n, rfl⟩
  go_wp2
  go_ret2
  exact ⟨rfl, _, rfl⟩

/-- calc.over, where it doesn't. -/
theorem over_range (hi lo den : Nat) (hh : den ≤ hi) (w : World) :
    Calls Try.prog 22 #[.int .u64 hi, .int .u64 lo, .int .u64 den] w fun e w' => e = .returned (.tuple #[.int .u64 0, .int .i64 3]) ∧ w' = w := by
  have h1 : (den : Int) ≤ (hi : Int) := by omega
  clear hh
  go_enter Try.func22, Try.ntmps22
  go_wp2
  go_ret2
  exact ⟨rfl, rfl⟩

theorem part_zero (x num : Int) (w : World) :
    Calls Try.prog 14 #[.int .u64 x, .int .u64 num, .int .u64 0] w fun e w' => e = .returned (.tuple #[.int .u64 0, .int .i64 2]) ∧ w' = w := by
  go_enter Try.func14, Try.ntmps14
  go_wp2
  go_ret2
  exact ⟨rfl, rfl⟩

theorem part_ok (x num den : Nat) (hx : x < 18446744073709551616) (hn : num < 18446744073709551616) (hd : den < 18446744073709551616) (h0 : 0 < den) (hf : x * num / den < 18446744073709551616) (w : World) :
    Calls Try.prog 14 #[.int .u64 x, .int .u64 num, .int .u64 den] w fun e w' => e = .returned (.tuple #[.int .u64 ((x * num / den : Nat) : Int), .int .i64 0]) ∧ ∃ n, w' = w.drewN n := by
  have h1 : ((den : Int) == 0) = false := by rw [beq_eq_false_iff_ne]; omega
  have M := hide (fun w => Try.bits_Mul64 x num hx hn w)
  have hlt : x * num / 18446744073709551616 < den := by
    rw [Nat.div_lt_iff_lt_mul (by omega)] at hf ⊢
    rw [Nat.mul_comm den]; exact hf
  have D := hide (fun w => over_ok (x * num / 18446744073709551616) (x * num % 18446744073709551616) den hlt (by omega) hd w)
  rw [show x * num / 18446744073709551616 * 18446744073709551616 + x * num % 18446744073709551616 = x * num by omega] at D
  clear hlt hf h0 hx hn hd
  generalize x * num / den = q at *
  generalize x * num / 18446744073709551616 = h at *
  generalize x * num % 18446744073709551616 = l at *
  go_enter Try.func14, Try.ntmps14
  go_wp2_with fail
  refine (M.out _).mono ?_
  rintro e w' ⟨rfl, rfl⟩
  go_wp2_with fail
  refine (D.out _).mono ?_
  rintro e w' ⟨rfl, n, rfl⟩
  go_wp2
  go_ret2
  exact ⟨rfl, _, rfl⟩

theorem part_range (x num den : Nat) (hx : x < 18446744073709551616) (hn : num < 18446744073709551616) (h0 : 0 < den) (hf : 18446744073709551616 ≤ x * num / den) (w : World) :
    Calls Try.prog 14 #[.int .u64 x, .int .u64 num, .int .u64 den] w fun e w' => e = .returned (.tuple #[.int .u64 0, .int .i64 3]) ∧ w' = w := by
  have h1 : ((den : Int) == 0) = false := by rw [beq_eq_false_iff_ne]; omega
  have M := hide (fun w => Try.bits_Mul64 x num hx hn w)
  have hlt : den ≤ x * num / 18446744073709551616 := by
    rw [Nat.le_div_iff_mul_le (by omega)] at hf ⊢
    rw [Nat.mul_comm den]; exact hf
  have D := hide (fun w => over_range (x * num / 18446744073709551616) (x * num % 18446744073709551616) den hlt w)
  clear hlt hf h0 hx hn
  generalize x * num / 18446744073709551616 = h at *
  generalize x * num % 18446744073709551616 = l at *
  go_enter Try.func14, Try.ntmps14
  go_wp2_with fail
  refine (M.out _).mono ?_
  rintro e w' ⟨rfl, rfl⟩
  go_wp2_with fail
  refine (D.out _).mono ?_
  rintro e w' ⟨rfl, rfl⟩
  go_wp2
  go_ret2
  exact ⟨rfl, rfl⟩

/-- The product and 999 more, by halves. -/
theorem need_halves (P : Nat) (hP : P ≤ 340282366920938463426481119284349108225) :
    ∃ h l l' c : Nat, P / 18446744073709551616 = h ∧ P % 18446744073709551616 = l ∧ ((l : Int) + 999) % 18446744073709551616 = (l' : Int) ∧ ((l : Int) + 999) / 18446744073709551616 = (c : Int) ∧ IntKind.u64.wrap ((h : Int) + (c : Int)) = ((h + c : Nat) : Int) ∧
      l' < 18446744073709551616 ∧ (h + c) * 18446744073709551616 + l' = P + 999 :=
  ⟨P / 18446744073709551616, P % 18446744073709551616, (P % 18446744073709551616 + 999) % 18446744073709551616, (P % 18446744073709551616 + 999) / 18446744073709551616, rfl, rfl, by omega, by omega, by rw [IntKind.wrap_u64]; omega, by omega, by omega⟩
theorem word_prod {x y : Nat} (hx : x < 18446744073709551616) (hy : y < 18446744073709551616) : x * y ≤ 340282366920938463426481119284349108225 :=
  Nat.mul_le_mul (show x ≤ 18446744073709551615 by omega) (show y ≤ 18446744073709551615 by omega)

theorem need_ok (x y : Nat) (hx : x < 18446744073709551616) (hy : y < 18446744073709551616) (hf : (x * y + 999) / 1000 < 18446744073709551616) (w : World) :
    Calls Try.prog 16 #[.int .u64 x, .int .u64 y] w fun e w' => e = .returned (.tuple #[.int .u64 (((x * y + 999) / 1000 : Nat) : Int), .int .i64 0]) ∧ ∃ n, w' = w.drewN n := by
  have M := hide (fun w => Try.bits_Mul64 x y hx hy w)
  obtain ⟨h, l, l', c, e1, e2, e3, e4, e5, hl, he⟩ := need_halves (x * y) (word_prod hx hy)
  have hlt : h + c < 1000 := by omega
  have D := hide (fun w => over_ok (h + c) l' 1000 hlt hl (by omega) w)
  rw [he] at D
  rw [e1, e2] at M
  clear hlt hf hx hy hl he e1 e2
  generalize (x * y + 999) / 1000 = q at *
  go_enter Try.func16, Try.ntmps16
  go_wp2_with fail
  refine (M.out _).mono ?_
  rintro e w' ⟨rfl, rfl⟩
  go_wp2_with (simp only [add64 l 999 (by omega) (by omega)])
  refine (D.out _).mono ?_
  rintro e w' ⟨rfl, n, rfl⟩
  go_wp2
  go_ret2
  exact ⟨rfl, _, rfl⟩

theorem need_range (x y : Nat) (hx : x < 18446744073709551616) (hy : y < 18446744073709551616) (hf : 18446744073709551616 ≤ (x * y + 999) / 1000) (w : World) :
    Calls Try.prog 16 #[.int .u64 x, .int .u64 y] w fun e w' => e = .returned (.tuple #[.int .u64 0, .int .i64 3]) ∧ w' = w := by
  have M := hide (fun w => Try.bits_Mul64 x y hx hy w)
  obtain ⟨h, l, l', c, e1, e2, e3, e4, e5, hl, he⟩ := need_halves (x * y) (word_prod hx hy)
  have hlt : 1000 ≤ h + c := by omega
  have D := hide (fun w => over_range (h + c) l' 1000 hlt w)
  rw [e1, e2] at M
  clear hlt hf hx hy hl he e1 e2
  go_enter Try.func16, Try.ntmps16
  go_wp2_with fail
  refine (M.out _).mono ?_
  rintro e w' ⟨rfl, rfl⟩
  go_wp2_with (simp only [add64 l 999 (by omega) (by omega)])
  refine (D.out _).mono ?_
  rintro e w' ⟨rfl, rfl⟩
  go_wp2
  go_ret2
  exact ⟨rfl, rfl⟩

end Go.Proofs.Ytggekibapfhcdaa
