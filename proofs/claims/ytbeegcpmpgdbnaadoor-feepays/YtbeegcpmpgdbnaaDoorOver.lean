/-
  What the document's Over (pappusref01) answers at this program, whatever the number of two halves and what it is divided by: the quotient and what is left, where the quotient fits.
-/
import Derived.Test.YtbeegcpmpgdbnaaDoorTimes
namespace Go.Proofs.YtbeegcpmpgdbnaaDoor
open Go.RowKit Go.Shelf

/-- A round's numbers: one bit more of X is brought down. -/
theorem bring_down (X den q r m : Nat) (h : q * den + r = X / 2 ^ (m + 1)) : q * 2 * den + (2 * r + X / 2 ^ m % 2) = X / 2 ^ m := by
  have hb1 : X / 2 ^ (m + 1) = X / 2 ^ m / 2 := by rw [Nat.pow_succ, Nat.div_div_eq_div_mul]
  rw [hb1] at h
  generalize X / 2 ^ m = B at *
  rw [Nat.mul_right_comm]
  generalize q * den = Y at *
  omega
theorem low_bit (hi lo m : Nat) (hm : m ≤ 63) : (hi * 18446744073709551616 + lo) / 2 ^ m % 2 = lo / 2 ^ m % 2 := by
  have e : 18446744073709551616 = 2 ^ m * (2 ^ (63 - m) * 2) := by
    rw [← Nat.pow_succ, ← Nat.pow_add, show m + (63 - m).succ = 64 by omega]
  have h : hi * 18446744073709551616 + lo = 2 ^ m * (hi * 2 ^ (63 - m) * 2) + lo := by
    rw [e, Nat.mul_left_comm, Nat.mul_assoc hi]
  rw [h, Nat.mul_add_div (Nat.two_pow_pos m)]
  omega
theorem quot_small (X den q : Nat) (s : Nat) (hX : X < den * 18446744073709551616) (h : q * den + s ≤ X) : q < 18446744073709551616 := by
  have h1 : q * den < 18446744073709551616 * den := by rw [Nat.mul_comm 18446744073709551616]; omega
  exact Nat.lt_of_mul_lt_mul_right h1
/-- The same, as the walk spells it: the rest is doubled and has the bit; what was divided by goes into it once, or doesn't. -/
theorem over_num (X lo den q r m : Nat) (hlo : lo < 18446744073709551616) (hden : den < 18446744073709551616) (hr : r < den) (hX : X < den * 18446744073709551616) (hbit : X / 2 ^ m % 2 = lo / 2 ^ m % 2)
    (h : q * den + r = X / 2 ^ (m + 1)) :
    ∃ top r2 bit r3 q2 r4 q3 : Nat, (r : Int) / 9223372036854775808 = (top : Int) ∧ IntKind.u64.wrap ((r : Int) * 2) = (r2 : Int) ∧ bits .and .u64 ((lo : Int) / 2 ^ m) 1 = (bit : Int) ∧ bits .or .u64 (r2 : Int) (bit : Int) = (r3 : Int) ∧
      IntKind.u64.wrap ((q : Int) * 2) = (q2 : Int) ∧ IntKind.u64.wrap ((r3 : Int) - (den : Int)) = (r4 : Int) ∧ bits .or .u64 (q2 : Int) 1 = (q3 : Int) ∧
      ((top = 1 ∧ r4 < den ∧ q3 * den + r4 = X / 2 ^ m) ∨ (top = 0 ∧ den ≤ r3 ∧ r4 < den ∧ q3 * den + r4 = X / 2 ^ m) ∨ (top = 0 ∧ r3 < den ∧ q2 * den + r3 = X / 2 ^ m)) := by
  have hb := bring_down X den q r m h
  have hle : X / 2 ^ m ≤ X := Nat.div_le_self _ _
  have hq := quot_small X den (q * 2) _ hX (by rw [hb]; exact hle)
  have hbn := bit_nat lo m hlo
  rw [hbit] at hb
  have hb1 : lo / 2 ^ m % 2 ≤ 1 := by omega
  generalize lo / 2 ^ m % 2 = bit at *
  have hev : 2 * r % 18446744073709551616 = 2 * (r % 9223372036854775808) := by omega
  have hor : bits .or .u64 ((2 * r % 18446744073709551616 : Nat) : Int) (bit : Int) = ((2 * r % 18446744073709551616 + bit : Nat) : Int) := by
    rw [hev]; exact or_bit _ _ (by omega) hb1
  have hoq : bits .or .u64 ((q * 2 : Nat) : Int) 1 = ((q * 2 + 1 : Nat) : Int) := by
    have := or_bit q 1 (by omega) (by omega)
    rw [Nat.mul_comm q 2]; exact this
  have hsub : IntKind.u64.wrap (((2 * r % 18446744073709551616 + bit : Nat) : Int) - (den : Int)) = (((2 * r % 18446744073709551616 + bit + 18446744073709551616 - den) % 18446744073709551616 : Nat) : Int) := by
    rw [IntKind.wrap_u64]; omega
  refine ⟨r / 9223372036854775808, 2 * r % 18446744073709551616, bit, 2 * r % 18446744073709551616 + bit, q * 2, (2 * r % 18446744073709551616 + bit + 18446744073709551616 - den) % 18446744073709551616, q * 2 + 1, by omega, ?_, hbn, hor, ?_, hsub, hoq, ?_⟩
  · rw [IntKind.wrap_u64]; omega
  · rw [IntKind.wrap_u64]; omega
  · rw [Nat.add_mul (q * 2) 1 den, Nat.one_mul]
    clear hor hoq hsub hbn hev hbit h hX hq hle
    generalize q * 2 * den = Y at *
    generalize X / 2 ^ m = V at *
    by_cases hA : 9223372036854775808 ≤ r
    · have h1 : r / 9223372036854775808 = 1 := by omega
      have h2 : (2 * r % 18446744073709551616 + bit + 18446744073709551616 - den) % 18446744073709551616 = 2 * r + bit - den := by omega
      rw [h1, h2]
      exact Or.inl ⟨rfl, by omega, by omega⟩
    · have h1 : r / 9223372036854775808 = 0 := by omega
      have h3 : 2 * r % 18446744073709551616 = 2 * r := by omega
      rw [h1, h3]
      by_cases hB : den ≤ 2 * r + bit
      · have h2 : (2 * r + bit + 18446744073709551616 - den) % 18446744073709551616 = 2 * r + bit - den := by omega
        rw [h2]
        exact Or.inr (Or.inl ⟨rfl, hB, by omega, by omega⟩)
      · exact Or.inr (Or.inr ⟨rfl, by omega, hb⟩)

def Dividing (X den : Nat) (x z i : Value) : Prop :=
  ∃ n r q : Nat, n ≤ 64 ∧ i = .int .i64 ((n : Int) - 1) ∧ x = .int .u64 r ∧ z = .int .u64 q ∧ r < den ∧ q * den + r = X / 2 ^ n

set_option maxHeartbeats 1000000 in
theorem over_fits (hi lo den : Nat) (hh : hi < den) (hlo : lo < 18446744073709551616) (hden : den < 18446744073709551616) (w : World) :
    Calls Tryd.prog 51 #[.agg #[.int .u64 hi, .int .u64 lo], .int .u64 den] w fun e w' =>
      e = .returned (.tuple #[.int .u64 (((hi * 18446744073709551616 + lo) / den : Nat) : Int), .int .u64 (((hi * 18446744073709551616 + lo) % den : Nat) : Int), .bool true]) ∧ ∃ o : Array Value, w' = w.alloc (.cells o 101) := by
  have HB := hide (fun m hm => low_bit hi lo m hm)
  have HX := hide (show hi * 18446744073709551616 + lo < den * 18446744073709551616 from by omega)
  have HS := hide (show (hi * 18446744073709551616 + lo) / 2 ^ 64 = hi from by omega)
  generalize hi * 18446744073709551616 + lo = X at *
  generalize hQ : X / den = Q
  generalize hR : X % den = R
  have HQ := hide hQ
  have HR := hide hR
  clear hQ hR
  have h1 : ¬ (den : Int) ≤ (hi : Int) := by omega
  go_enter Tryd.func51, Tryd.ntmps51
  go_wp2
  go_loop [7, 8, 9] (fun x z i => Dividing X den x z i) (fun _ _ i => (intOf i + 1).toNat)
  case atStart => exact ⟨64, hi, 0, by omega, rfl, rfl, rfl, hh, by rw [HS.out, Nat.zero_mul, Nat.zero_add]⟩
  case round =>
    obtain ⟨n, r, q, hn, rfl, rfl, rfl, hr, hv⟩ := hrel
    rcases n with _ | m
    · rw [Nat.pow_zero, Nat.div_one] at hv
      have E1 : Hid (Q = q) := by
        show Q = q
        rw [← HQ.out, ← hv, Nat.mul_comm, Nat.mul_add_div (by omega), Nat.div_eq_of_lt hr, Nat.add_zero]
      have E2 : Hid (R = r) := by
        show R = r
        rw [← HR.out, ← hv, Nat.mul_comm, Nat.mul_add_mod, Nat.mod_eq_of_lt hr]
      clear hv hr hn
      go_wp2
      go_ret3
      refine ⟨?_, _, rfl⟩
      rw [E1.out, E2.out]
      rfl
    · have hm : (m : Int) ≤ 63 := by omega
      have hm' : m ≤ 64 := by omega
      obtain ⟨top, r2, bit, r3, q2, r4, q3, e1, e2, e3, e4, e5, e6, e7, hway⟩ := over_num X lo den q r m hlo hden hr HX.out (HB.out m (by omega)) hv
      clear hv hn hr
      rcases hway with ⟨ht, h2, h3⟩ | ⟨ht, h2, h3, h4⟩ | ⟨ht, h2, h3⟩
      · subst ht
        have H2 := hide h2
        have H3 := hide h3
        clear h2 h3
        go_wp2
        go_round
        case rel => exact ⟨m, r4, q3, hm', rfl, rfl, rfl, H2.out, H3.out⟩
        case measure => simp [intOf]
      · subst ht
        have H2 := hide h3
        have H3 := hide h4
        have t1 : (den : Int) ≤ (r3 : Int) := by omega
        clear h2 h3 h4
        go_wp2
        go_round
        case rel => exact ⟨m, r4, q3, hm', rfl, rfl, rfl, H2.out, H3.out⟩
        case measure => simp [intOf]
      · subst ht
        have H2 := hide h2
        have H3 := hide h3
        have t1 : ¬ (den : Int) ≤ (r3 : Int) := by omega
        clear h2 h3
        go_wp2
        go_round
        case rel => exact ⟨m, r3, q2, hm', rfl, rfl, rfl, H2.out, H3.out⟩
        case measure => simp [intOf]

theorem over_not (hi lo den : Nat) (hh : den ≤ hi) (w : World) :
    Calls Tryd.prog 51 #[.agg #[.int .u64 hi, .int .u64 lo], .int .u64 den] w fun e w' =>
      e = .returned (.tuple #[.int .u64 0, .int .u64 0, .bool false]) ∧ ∃ o : Array Value, w' = w.alloc (.cells o 101) := by
  have h1 : (den : Int) ≤ (hi : Int) := by omega
  clear hh
  go_enter Tryd.func51, Tryd.ntmps51
  go_wp2
  go_ret3
  exact ⟨rfl, _, rfl⟩
end Go.Proofs.YtbeegcpmpgdbnaaDoor
