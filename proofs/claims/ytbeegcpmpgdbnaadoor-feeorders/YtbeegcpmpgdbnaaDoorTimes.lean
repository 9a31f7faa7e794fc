/-
  What the document's Times (pappusref01) answers at this program, whatever the two numbers: their whole product, by halves.
-/
import Derived.Test.YtbeegcpmpgdbnaaDoorCalB
namespace Go.Proofs.YtbeegcpmpgdbnaaDoor
open Go.RowKit Go.Shelf

/-- A product's two halves in a variable of their own, behind the result's. -/
def Halves (w : World) (x y : Value) : World := (w.alloc (.cells #[.int .u64 0, .int .u64 0] 101)).alloc (.cells #[x, y] 101)
def Doubling (w : World) (a b : Nat) (i : Value) (wr : World) : Prop :=
  ∃ n H L : Nat, n ≤ 64 ∧ i = .int .i64 ((n : Int) - 1) ∧ L < 18446744073709551616 ∧ H * 18446744073709551616 + L = a * (b / 2 ^ n) ∧ wr = Halves w (.int .u64 H) (.int .u64 L)

theorem dbl_sum (M H L A A' V t r : Nat) (hv : H * M + L = A) (hs : V = 2 * A + A') (hl : 2 * L = t * M + r) : (2 * H + t) * M + r + A' = V := by
  rw [Nat.add_mul, Nat.mul_assoc]
  generalize H * M = X at *
  generalize t * M = Y at *
  omega
theorem dbl_add (M H3 L2 a V : Nat) (hs : H3 * M + L2 + a = V) : H3 * M + (L2 + a) = V := by
  rw [← Nat.add_assoc]; exact hs
theorem dbl_carry (M H3 L2 a V : Nat) (hs : H3 * M + L2 + a = V) (h : M ≤ L2 + a) : (H3 + 1) * M + (L2 + a - M) = V := by
  rw [Nat.add_mul, Nat.one_mul]
  generalize H3 * M = X at *
  omega
theorem dbl_low (L : Nat) : 2 * L = L / 9223372036854775808 * 18446744073709551616 + 2 * L % 18446744073709551616 := by omega
theorem word_prod_le {x y z : Nat} (hx : x < 18446744073709551616) (hy : y < 18446744073709551616) (hz : z ≤ y) : x * z ≤ 340282366920938463426481119284349108225 :=
  Nat.mul_le_mul (show x ≤ 18446744073709551615 by omega) (show z ≤ 18446744073709551615 by omega)
theorem bit_nat (b m : Nat) (hb : b < 18446744073709551616) : bits .and .u64 ((b : Int) / 2 ^ m) 1 = ((b / 2 ^ m % 2 : Nat) : Int) := by
  have h1 : b / 2 ^ m ≤ b := Nat.div_le_self _ _
  have h := bits_and_u64_nat (b / 2 ^ m) 1 (by omega) (by omega)
  rw [divpow_nat]
  rw [Nat.and_one_is_mod] at h
  exact h
theorem or_bit (H t : Nat) (hH : 2 * H < 18446744073709551616) (ht : t ≤ 1) : bits .or .u64 ((2 * H : Nat) : Int) (t : Int) = ((2 * H + t : Nat) : Int) := by
  have h := Nat.two_pow_add_eq_or_of_lt (b := t) (i := 1) (by omega) H
  rw [bits_or_u64_nat _ _ hH (by omega)]
  simp only [Nat.pow_one] at h
  rw [h]
/-- A round's numbers, as the walk spells them: the product so far is doubled, and a bit more is in it. -/
theorem double_num (a b m H L : Nat) (ha : a < 18446744073709551616) (hb : b < 18446744073709551616) (hL : L < 18446744073709551616) (hv : H * 18446744073709551616 + L = a * (b / 2 ^ (m + 1))) :
    ∃ H2 t H3 L2 bit : Nat, IntKind.u64.wrap ((H : Int) * 2) = (H2 : Int) ∧ (L : Int) / 9223372036854775808 = (t : Int) ∧ bits .or .u64 (H2 : Int) (t : Int) = (H3 : Int) ∧ IntKind.u64.wrap ((L : Int) * 2) = (L2 : Int) ∧
      bits .and .u64 ((b : Int) / 2 ^ m) 1 = (bit : Int) ∧ L2 < 18446744073709551616 ∧ bit ≤ 1 ∧ H3 * 18446744073709551616 + L2 + a * bit = a * (b / 2 ^ m) ∧ a * (b / 2 ^ m) ≤ 340282366920938463426481119284349108225 := by
  have hb1 : b / 2 ^ (m + 1) = b / 2 ^ m / 2 := by rw [Nat.pow_succ, Nat.div_div_eq_div_mul]
  have hle : b / 2 ^ m ≤ b := Nat.div_le_self _ _
  have hmax := word_prod_le ha hb hle
  have hbit := bit_nat b m hb
  rw [hb1] at hv
  generalize b / 2 ^ m = B at *
  have hB : B = 2 * (B / 2) + B % 2 := by omega
  have hsum : a * B = 2 * (a * (B / 2)) + a * (B % 2) := by
    have e : a * B = a * (2 * (B / 2) + B % 2) := by rw [← hB]
    rw [e, Nat.mul_add, Nat.mul_left_comm]
  generalize a * (B / 2) = A at *
  generalize hA' : a * (B % 2) = A' at *
  have hH : 2 * H < 18446744073709551616 := by omega
  refine ⟨2 * H, L / 9223372036854775808, 2 * H + L / 9223372036854775808, 2 * L % 18446744073709551616, B % 2, ?_, ?_, ?_, ?_, hbit, ?_, ?_, ?_, hmax⟩
  · rw [IntKind.wrap_u64]; omega
  · omega
  · exact or_bit H _ hH (by omega)
  · rw [IntKind.wrap_u64]; omega
  · omega
  · omega
  · rw [hA']; exact dbl_sum _ H L A A' _ _ _ hv hsum (dbl_low L)

set_option maxHeartbeats 1000000 in
theorem times_any (a b : Nat) (ha : a < 18446744073709551616) (hb : b < 18446744073709551616) (w : World) :
    Calls Tryd.prog 52 #[.int .u64 a, .int .u64 b] w fun e w' => e = .returned (.agg #[.int .u64 ((a * b / 18446744073709551616 : Nat) : Int), .int .u64 ((a * b % 18446744073709551616 : Nat) : Int)]) ∧ ∃ o1 o2 : Array Value, w' = (w.alloc (.cells o1 101)).alloc (.cells o2 101) := by
  go_enter Tryd.func52, Tryd.ntmps52
  go_wp2
  go_loopw [6] (fun i wr => Doubling w a b i wr) (fun i _ => (intOf i + 1).toNat)
  case atStart => exact ⟨64, 0, 0, by omega, rfl, by omega, by rw [Nat.div_eq_of_lt (by omega)]; simp, rfl⟩
  case round =>
    obtain ⟨n, H, L, hn, rfl, hL, hv, rfl⟩ := hrel
    rcases n with _ | m
    · rw [Nat.pow_zero, Nat.div_one] at hv
      have E1 := hide (show a * b / 18446744073709551616 = H from by omega)
      have E2 := hide (show a * b % 18446744073709551616 = L from by omega)
      unfold Halves
      clear hv hL hn
      go_wp2
      refine bodyPost_ret (v := .agg #[.int .u64 H, .int .u64 L]) (by simp [results, Tryd.results52, go_sem]) rfl ⟨by rw [E1.out, E2.out], ?_⟩
      exact ⟨_, _, rfl⟩
    · obtain ⟨H2, t, H3, L2, bit, e1, e2, e3, e4, e5, hL2, hbit, hsum, hmax⟩ := double_num a b m H L ha hb hL hv
      have hm : (m : Int) ≤ 63 := by omega
      have hm' : m ≤ 64 := by omega
      clear hv hL hn
      generalize hV : a * (b / 2 ^ m) = V at *
      have HV := hide hV
      clear hV
      rcases Nat.eq_zero_or_pos bit with h0 | h0
      · subst h0
        rw [Nat.mul_zero, Nat.add_zero] at hsum
        have HS := hide hsum
        have HL := hide hL2
        clear hsum hmax hL2 hbit
        unfold Halves
        go_wp2
        go_round
        case rel => exact ⟨m, H3, L2, hm', rfl, HL.out, HS.out.trans HV.out.symm, rfl⟩
        case measure => simp [intOf]
      · obtain rfl : bit = 1 := by omega
        rw [Nat.mul_one] at hsum
        by_cases hcar : L2 + a < 18446744073709551616
        · have HS := hide (dbl_add _ _ _ _ _ hsum)
          have e6 : IntKind.u64.wrap ((L2 : Int) + (a : Int)) = ((L2 + a : Nat) : Int) := by rw [IntKind.wrap_u64]; omega
          have e7 : ¬ (((L2 + a : Nat) : Int) < (L2 : Int)) := by omega
          have HL := hide hcar
          clear hsum hmax hL2 hbit hcar h0
          generalize L2 + a = L3 at *
          unfold Halves
          go_wp2
          go_round
          case rel => exact ⟨m, H3, L3, hm', rfl, HL.out, HS.out.trans HV.out.symm, rfl⟩
          case measure => simp [intOf]
        · have HS := hide (dbl_carry _ _ _ _ _ hsum (by omega))
          have e6 : IntKind.u64.wrap ((L2 : Int) + (a : Int)) = ((L2 + a - 18446744073709551616 : Nat) : Int) := by rw [IntKind.wrap_u64]; omega
          have e7 : ((L2 + a - 18446744073709551616 : Nat) : Int) < (L2 : Int) := by omega
          have e8 : IntKind.u64.wrap ((H3 : Int) + 1) = ((H3 + 1 : Nat) : Int) := by rw [IntKind.wrap_u64]; omega
          have HL := hide (show L2 + a - 18446744073709551616 < 18446744073709551616 from by omega)
          clear hsum hmax hL2 hbit hcar h0
          generalize L2 + a - 18446744073709551616 = L3 at *
          generalize H3 + 1 = H4 at *
          unfold Halves
          go_wp2
          go_round
          case rel => exact ⟨m, H4, L3, hm', rfl, HL.out, HS.out.trans HV.out.symm, rfl⟩
          case measure => simp [intOf]
end Go.Proofs.YtbeegcpmpgdbnaaDoor
