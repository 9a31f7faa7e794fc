import Derived.Test.YtbeegcpmpgdbnaaDoorCalA
import Derived.BigQuiet
import Derived.Deep.QuietTactic
import Derived.Outline
import Derived.Lib.ItoaNum
import Derived.WalkSmall
/-
  What math/bits.Div64 answers at this program where the quotient fits: the quotient of the whole number of two halves.
-/
namespace Go.Proofs.YtbeegcpmpgdbnaaDoor
open Go.RowKit Go.Shelf

theorem wrap_nat (a : Nat) (h : a < 18446744073709551616) : IntKind.u64.wrap (a : Int) = (a : Int) := by rw [IntKind.wrap_u64]; omega
theorem pow_nat (a s : Nat) : (a : Int) * 2 ^ s = ((a * 2 ^ s : Nat) : Int) := by
  rw [Int.natCast_mul, Int.natCast_pow]; rfl
theorem divpow_nat (a s : Nat) : (a : Int) / 2 ^ s = ((a / 2 ^ s : Nat) : Int) := by
  rw [Int.natCast_ediv, Int.natCast_pow]; rfl
/-- How far y is moved: it fills its upper half. -/
theorem shift_of (y : Nat) (h0 : 0 < y) (hy : y < 18446744073709551616) :
    ∃ s : Nat, s ≤ 63 ∧ s + Lib.bitLen y = 64 ∧ 9223372036854775808 ≤ y * 2 ^ s ∧ y * 2 ^ s < 18446744073709551616 := by
  obtain ⟨a, b, c⟩ := Lib.bitLenAux_bounds 64 y (by omega) (by omega)
  have hl : Lib.bitLen y ≤ 64 := Lib.bitLen_le y 64 (by omega) (by omega)
  have e : Lib.bitLenAux 64 y = Lib.bitLen y := rfl
  rw [e] at a b c
  generalize Lib.bitLen y = L at *
  refine ⟨64 - L, by omega, by omega, ?_, ?_⟩
  · have h1 : 2 ^ (L - 1) * 2 ^ (64 - L) ≤ y * 2 ^ (64 - L) := Nat.mul_le_mul_right _ b
    rw [← Nat.pow_add, show L - 1 + (64 - L) = 63 by omega] at h1
    exact h1
  · have h1 : y * 2 ^ (64 - L) < 2 ^ L * 2 ^ (64 - L) := Nat.mul_lt_mul_of_pos_right c (Nat.two_pow_pos _)
    rw [← Nat.pow_add, show L + (64 - L) = 64 by omega] at h1
    exact h1

/-- The numbers that the division begins with, by name, and what they are to one another. -/
theorem div_start (hi lo y : Nat) (hh : hi < y) (hlo : lo < 18446744073709551616) (hy : y < 18446744073709551616) :
    ∃ s t Y a b uh ul U v v1 v0 : Nat,
      IntKind.u64.wrap (64 - (Lib.bitLen y : Int)) = (s : Int) ∧ IntKind.u64.wrap (64 - (s : Int)) = (t : Int) ∧
      IntKind.u64.wrap ((y : Int) * 2 ^ min s 64) = (Y : Int) ∧ (Y : Int) / 4294967296 = (a : Int) ∧ bits .and .u64 (Y : Int) 4294967295 = (b : Int) ∧
      IntKind.u64.wrap ((hi : Int) * 2 ^ min s 64) = (uh : Int) ∧ (lo : Int) / 2 ^ min t 64 = (ul : Int) ∧ bits .or .u64 (uh : Int) (ul : Int) = (U : Int) ∧
      IntKind.u64.wrap ((lo : Int) * 2 ^ min s 64) = (v : Int) ∧ (v : Int) / 4294967296 = (v1 : Int) ∧ bits .and .u64 (v : Int) 4294967295 = (v0 : Int) ∧
      (Y = a * 4294967296 + b ∧ b < 4294967296 ∧ 4294967296 ≤ 2 * a ∧ a < 4294967296 ∧ U < Y ∧ v1 < 4294967296 ∧ v0 < 4294967296 ∧ Y < 18446744073709551616 ∧
        ((U * 4294967296 + v1) * 4294967296 + v0) / Y = (hi * 18446744073709551616 + lo) / y) := by
  obtain ⟨s, hs, hL, hY1, hY2⟩ := shift_of y (by omega) hy
  have hP : 0 < 2 ^ s := Nat.two_pow_pos _
  have hPQ : 2 ^ s * 2 ^ (64 - s) = 18446744073709551616 := by rw [← Nat.pow_add, show s + (64 - s) = 64 by omega]
  have hQ0 : 0 < 2 ^ (64 - s) := Nat.two_pow_pos _
  have huh : hi * 2 ^ s < y * 2 ^ s := Nat.mul_lt_mul_of_pos_right hh hP
  have hul : lo / 2 ^ (64 - s) < 2 ^ s := by
    apply Nat.div_lt_of_lt_mul; rw [Nat.mul_comm, hPQ]; exact hlo
  have hor : hi * 2 ^ s ||| lo / 2 ^ (64 - s) = hi * 2 ^ s + lo / 2 ^ (64 - s) := by
    have := Nat.two_pow_add_eq_or_of_lt hul hi
    rw [Nat.mul_comm hi, ← this]
  -- the low half, moved: what goes out of it and what stays
  have hlow : lo * 2 ^ s = lo / 2 ^ (64 - s) * 18446744073709551616 + lo * 2 ^ s % 18446744073709551616 := by
    have e : lo * 2 ^ s / 18446744073709551616 = lo / 2 ^ (64 - s) := by
      rw [← hPQ, Nat.mul_comm (2 ^ s) (2 ^ (64 - s)), Nat.mul_div_mul_right _ _ hP]
    have := Nat.div_add_mod (lo * 2 ^ s) 18446744073709551616
    rw [e] at this
    omega
  have hU : hi * 2 ^ s + lo / 2 ^ (64 - s) < y * 2 ^ s := by
    have h1 : (hi + 1) * 2 ^ s ≤ y * 2 ^ s := Nat.mul_le_mul_right _ hh
    rw [Nat.add_mul] at h1
    omega
  refine ⟨s, 64 - s, y * 2 ^ s, y * 2 ^ s / 4294967296, y * 2 ^ s % 4294967296, hi * 2 ^ s, lo / 2 ^ (64 - s), hi * 2 ^ s + lo / 2 ^ (64 - s), lo * 2 ^ s % 18446744073709551616, lo * 2 ^ s % 18446744073709551616 / 4294967296, lo * 2 ^ s % 18446744073709551616 % 4294967296, ?_, ?_, ?_, ?_, ?_, ?_, ?_, ?_, ?_, ?_, ?_, ?_⟩
  · rw [IntKind.wrap_u64]; omega
  · rw [IntKind.wrap_u64]; omega
  · rw [Nat.min_eq_left (by omega), pow_nat, wrap_nat _ hY2]
  · omega
  · exact Mul64.maskN _ hY2
  · rw [Nat.min_eq_left (by omega), pow_nat, wrap_nat _ (by omega)]
  · rw [Nat.min_eq_left (by omega), divpow_nat]
  · rw [bits_or_u64_nat _ _ (by omega) (by omega), hor]
  · rw [Nat.min_eq_left (by omega), pow_nat, IntKind.wrap_u64]; omega
  · omega
  · exact Mul64.maskN _ (by omega)
  · refine ⟨by omega, by omega, by omega, by omega, hU, by omega, by omega, hY2, ?_⟩
    rw [← Nat.mul_div_mul_right _ y hP]
    have e3 : (hi * 18446744073709551616 + lo) * 2 ^ s = hi * 2 ^ s * 18446744073709551616 + lo * 2 ^ s := by rw [Nat.add_mul, Nat.mul_right_comm]
    have e4 : ((hi * 2 ^ s + lo / 2 ^ (64 - s)) * 4294967296 + lo * 2 ^ s % 18446744073709551616 / 4294967296) * 4294967296 + lo * 2 ^ s % 18446744073709551616 % 4294967296 = hi * 2 ^ s * 18446744073709551616 + lo * 2 ^ s := by omega
    rw [e3, e4]

/-- A guess's numbers, as the walk spells them. -/
theorem guess_words (U a : Nat) (ha : 0 < a) (hU : U < 18446744073709551616) : ∃ q m r : Nat, IntKind.u64.wrap ((U : Int) / (a : Int)) = (q : Int) ∧ IntKind.u64.wrap ((q : Int) * (a : Int)) = (m : Int) ∧ IntKind.u64.wrap ((U : Int) - (m : Int)) = (r : Int) ∧
    q = U / a ∧ r = U % a ∧ r < a := by
  have h1 : U / a ≤ U := Nat.div_le_self _ _
  have h2 := Nat.div_add_mod U a
  have h3 : U / a * a ≤ U := Nat.div_mul_le_self _ _
  refine ⟨U / a, U / a * a, U % a, ?_, ?_, ?_, rfl, rfl, Nat.mod_lt _ ha⟩
  · rw [← Int.natCast_ediv, wrap_nat _ (by omega)]
  · rw [← Int.natCast_mul, wrap_nat _ (by omega)]
  · rw [IntKind.wrap_u64]
    rw [Nat.mul_comm] at h2
    omega

/-- What holds at a round's head: the two slots bear a guess and what is left. -/
def Head (a b U u : Nat) (x z : Value) : Prop := ∃ q r : Nat, x = .int .u64 q ∧ z = .int .u64 r ∧ r < 4294967296 ∧ Guess a b U u 4294967296 q r

theorem word_mul (q b : Nat) (hq : q < 4294967296) (hb : b < 4294967296) : ∃ p : Nat, IntKind.u64.wrap ((q : Int) * (b : Int)) = (p : Int) ∧ p = q * b := by
  have h := Lib.half_mul_le (a := q) (b := b) (by omega) (by omega)
  exact ⟨q * b, by rw [← Int.natCast_mul, wrap_nat _ (by omega)], rfl⟩

/-- What is left behind the first digit, as the walk spells it. -/
theorem rest_words (U Y u k : Nat) (hY0 : 0 < Y) (hY1 : Y < 18446744073709551616) (hk : (U * 4294967296 + u) / Y = k) :
    ∃ x x' z R : Nat, IntKind.u64.wrap ((U : Int) * 4294967296) = (x : Int) ∧ IntKind.u64.wrap ((x : Int) + (u : Int)) = (x' : Int) ∧ IntKind.u64.wrap ((k : Int) * (Y : Int)) = (z : Int) ∧ IntKind.u64.wrap ((x' : Int) - (z : Int)) = (R : Int) ∧
      R < Y ∧ R = (U * 4294967296 + u) % Y := by
  have h1 := Nat.div_add_mod (U * 4294967296 + u) Y
  have h2 := Nat.mod_lt (U * 4294967296 + u) hY0
  rw [hk, Nat.mul_comm Y k] at h1
  have e : (k : Int) * (Y : Int) = ((k * Y : Nat) : Int) := (Int.natCast_mul k Y).symm
  generalize (U * 4294967296 + u) % Y = R at *
  generalize k * Y = kY at *
  refine ⟨U * 4294967296 % 18446744073709551616, (U * 4294967296 % 18446744073709551616 + u) % 18446744073709551616, kY % 18446744073709551616, R, ?_, ?_, ?_, ?_, h2, rfl⟩
  · rw [IntKind.wrap_u64]; omega
  · rw [IntKind.wrap_u64]; omega
  · rw [e, IntKind.wrap_u64]; omega
  · rw [IntKind.wrap_u64]; omega
theorem ret_two {x y r : Int} (h : x = y) : Ending.returned (.tuple #[.int .u64 x, .int .u64 r]) = .returned (.tuple #[.int .u64 y, .int .u64 r]) := by rw [h]

set_option maxHeartbeats 4000000 in
set_option maxRecDepth 1000000 in
theorem div_high (hi lo y : Nat) (h0 : 0 < hi) (hh : hi < y) (hlo : lo < 18446744073709551616) (hy : y < 18446744073709551616) (w : World) :
    Calls Tryd.prog 58 #[.int .u64 hi, .int .u64 lo, .int .u64 y] w fun e w' => (∃ r : Int, e = .returned (.tuple #[.int .u64 (((hi * 18446744073709551616 + lo) / y : Nat) : Int), .int .u64 r])) ∧ w' = w := by
  have h1 : ((y : Int) == 0) = false := by rw [beq_eq_false_iff_ne]; omega
  have h2 : ((hi : Int) == 0) = false := by rw [beq_eq_false_iff_ne]; omega
  have h3 : ¬ (y : Int) ≤ (hi : Int) := by omega
  obtain ⟨s, t, Y, a, b, uh, ul, U, v, v1, v0, e1, e2, e3, e4, e5, e6, e7, e8, e9, e10, e11, f1, f2, f3, f4, f5, f6, f7, f8, f9⟩ := div_start hi lo y hh hlo hy
  rw [← f9]
  clear f9
  have F1 := hide f1
  generalize hN : ((U * 4294967296 + v1) * 4294967296 + v0) / Y = N
  have HN := hide hN
  clear f1 hN
  have ha0 : ((a : Int) == 0) = false := by rw [beq_eq_false_iff_ne]; omega
  go_enter Tryd.func58, Tryd.ntmps58
  go_wp2_with fail
  refine (Tryd.bits_LeadingZeros64 _ _ (by omega) (by omega)).mono ?_
  rintro e w' ⟨rfl, rfl⟩
  obtain ⟨q, m, r, g1, g2, g3, hq, hr, hra⟩ := guess_words U a (by omega) (by omega)
  have HG : Hid (Guess a b U v1 4294967296 q r) := by
    rw [hq, hr]; exact guess_start f2 (by rw [← F1.out]; exact f5) f3 f6
  clear hq hr
  go_wp2_with fail
  go_loop [15, 16] (fun x z => Head a b U v1 x z) (fun x _ => (intOf x).toNat)
  case atStart => exact ⟨q, r, rfl, rfl, by omega, HG.out⟩
  case round =>
    clear HG g1 g2 g3 hra
    obtain ⟨q2, r2, rfl, rfl, hrb, hG⟩ := hrel
    have hway := guess_round f2 (by rw [← F1.out]; exact f5) f6 hG
    clear hG
    rcases hway with ⟨k, hk, c1, c2, hG⟩ | ⟨k, hk, c1, c2, c3, hG⟩ | ⟨k, hk, c1, c2, c4, hG⟩ | ⟨k, hk, c1, c2, c3, hG⟩ | ⟨k, hk, c2, c3, hG⟩
    · have HG := hide hG
      have HC := hide c1
      have hk1 : (q2 : Int) - 1 = (k : Int) := by omega
      have hk2 : k < q2 := by omega
      have d1 : decide ((4294967296 : Int) ≤ (r2 : Int) + a) = false := decide_eq_false (by omega)
      have d2 : (4294967296 : Int) ≤ (q2 : Int) := by omega
      have d3 : (q2 : Int) ≤ 4294967298 := by have := HG.out.2.1; omega
      have d4 : (r2 : Int) < 4294967296 := by omega
      clear hG c1 c2 hk
      go_wp2
      go_round
      case rel => exact ⟨k, r2 + a, rfl, by go_num, HC.out, HG.out⟩
      case measure => simp [intOf]; exact hk2
    · have HG := hide hG
      have HC := hide c1
      have hk1 : (q2 : Int) - 1 = (k : Int) := by omega
      have hk2 : k < q2 := by omega
      obtain ⟨p, ep, hp⟩ := word_mul q2 b (by omega) (by omega)
      have d1 : decide ((4294967296 : Int) ≤ (r2 : Int) + a) = false := decide_eq_false (by omega)
      have d2 : decide ((4294967296 : Int) ≤ (q2 : Int)) = false := decide_eq_false (by omega)
      have d3 : decide (4294967296 * (r2 : Int) + (v1 : Int) < (p : Int)) = true := decide_eq_true (by rw [hk] at hp; omega)
      have d4 : (r2 : Int) < 4294967296 := by omega
      have d5 : (1 : Int) ≤ (q2 : Int) := by omega
      have d6 : (q2 : Int) < 4294967296 := by omega
      clear hG c1 c2 c3 hk hp
      go_wp2
      go_round
      case rel => exact ⟨k, r2 + a, rfl, by go_num, HC.out, HG.out⟩
      case measure => simp [intOf]; exact hk2
    -- the first digit is done, in one of three ways: what each knows, then the rest for all three
    have HQ := hide hG
    have hk1 : (q2 : Int) - 1 = (k : Int) := by omega
    have d1 : decide ((4294967296 : Int) ≤ (r2 : Int) + a) = true := decide_eq_true (by omega)
    have d2 : (4294967296 : Int) ≤ (q2 : Int) := by omega
    have d3 : (q2 : Int) ≤ 4294967298 := by omega
    have d4 : (r2 : Int) < 4294967296 := by omega
    clear hG c1 c2 c4 hk
    rotate_left
    have HQ := hide hG
    have hk1 : (q2 : Int) - 1 = (k : Int) := by omega
    obtain ⟨p, ep, hp⟩ := word_mul q2 b (by omega) (by omega)
    have d1 : decide ((4294967296 : Int) ≤ (r2 : Int) + a) = true := decide_eq_true (by omega)
    have d2 : decide ((4294967296 : Int) ≤ (q2 : Int)) = false := decide_eq_false (by omega)
    have d3 : decide (4294967296 * (r2 : Int) + (v1 : Int) < (p : Int)) = true := decide_eq_true (by rw [hk] at hp; omega)
    have d4 : (r2 : Int) < 4294967296 := by omega
    have d5 : (1 : Int) ≤ (q2 : Int) := by omega
    have d6 : (q2 : Int) < 4294967296 := by omega
    clear hG c1 c2 c3 hk hp
    rotate_left
    have HQ := hide hG
    obtain ⟨p, ep, hp⟩ := word_mul k b (by omega) (by omega)
    have hk1 : (q2 : Int) = (k : Int) := by omega
    have d2 : decide ((4294967296 : Int) ≤ (k : Int)) = false := decide_eq_false (by omega)
    have d3 : decide (4294967296 * (r2 : Int) + (v1 : Int) < (p : Int)) = false := decide_eq_false (by omega)
    have d4 : (r2 : Int) < 4294967296 := by omega
    have d6 : (k : Int) < 4294967296 := by omega
    clear hG c2 c3 hk hp
    rotate_left
    all_goals
      have hkb : k < 4294967296 := by
        have := dig_lt (a := a) (b := b) (U := U) (u := v1) (B := 4294967296) (by rw [← F1.out]; exact f5) f6
        rw [HQ.out] at this
        exact this
      have hk4 : (U * 4294967296 + v1) / Y = k := (congrArg (fun t => (U * 4294967296 + v1) / t) F1.out).trans HQ.out
      obtain ⟨x, x', z, R, x1, x2, x3, x4, hRY, hR⟩ := rest_words U Y v1 k (by omega) f8 hk4
      have HF : Hid (N = k * 4294967296 + (R * 4294967296 + v0) / Y) := by
        have h := dig_two (X := U * 4294967296 + v1) (Y := Y) (B := 4294967296) (u := v0) (by omega)
        rw [HN.out, ← hR, hk4] at h
        exact h
      clear hk4 hR HQ
      obtain ⟨q3, m3, r3, g1, g2, g3, hq, hr, hra⟩ := guess_words R a (by omega) (by omega)
      have HG : Hid (Guess a b R v0 4294967296 q3 r3) := by
        rw [hq, hr]; exact guess_start f2 (by rw [← F1.out]; exact hRY) f3 f7
      clear hq hr
      go_wp2_with fail
      clear x1 x2 x3 x4 g1 g2 g3 hk1 d2 d3 d4
      go_loop [18, 16] (fun x z => Head a b R v0 x z) (fun x _ => (intOf x).toNat)
      case atStart => exact ⟨q3, r3, rfl, rfl, by omega, HG.out⟩
      case round =>
        clear HG hra
        obtain ⟨q2, r2, rfl, rfl, hrb, hG⟩ := hrel
        have hway := guess_round f2 (by rw [← F1.out]; exact hRY) f7 hG
        clear hG
        rcases hway with ⟨k3, hk, c1, c2, hG⟩ | ⟨k3, hk, c1, c2, c3, hG⟩ | ⟨k3, hk, c1, c2, c4, hG⟩ | ⟨k3, hk, c1, c2, c3, hG⟩ | ⟨k3, hk, c2, c3, hG⟩
        · have HG := hide hG
          have HC := hide c1
          have hk1 : (q2 : Int) - 1 = (k3 : Int) := by omega
          have hk2 : k3 < q2 := by omega
          have d1 : decide ((4294967296 : Int) ≤ (r2 : Int) + a) = false := decide_eq_false (by omega)
          have d2 : (4294967296 : Int) ≤ (q2 : Int) := by omega
          have d3 : (q2 : Int) ≤ 4294967298 := by have := HG.out.2.1; omega
          have d4 : (r2 : Int) < 4294967296 := by omega
          clear hG c1 c2 hk
          go_wp2
          go_round
          case rel => exact ⟨k3, r2 + a, rfl, by go_num, HC.out, HG.out⟩
          case measure => simp [intOf]; exact hk2
        · have HG := hide hG
          have HC := hide c1
          have hk1 : (q2 : Int) - 1 = (k3 : Int) := by omega
          have hk2 : k3 < q2 := by omega
          obtain ⟨p, ep, hp⟩ := word_mul q2 b (by omega) (by omega)
          have d1 : decide ((4294967296 : Int) ≤ (r2 : Int) + a) = false := decide_eq_false (by omega)
          have d2 : decide ((4294967296 : Int) ≤ (q2 : Int)) = false := decide_eq_false (by omega)
          have d3 : decide (4294967296 * (r2 : Int) + (v0 : Int) < (p : Int)) = true := decide_eq_true (by rw [hk] at hp; omega)
          have d4 : (r2 : Int) < 4294967296 := by omega
          have d5 : (1 : Int) ≤ (q2 : Int) := by omega
          have d6 : (q2 : Int) < 4294967296 := by omega
          clear hG c1 c2 c3 hk hp
          go_wp2
          go_round
          case rel => exact ⟨k3, r2 + a, rfl, by go_num, HC.out, HG.out⟩
          case measure => simp [intOf]; exact hk2
        have HQ := hide hG
        have hk1 : (q2 : Int) - 1 = (k3 : Int) := by omega
        have d1 : decide ((4294967296 : Int) ≤ (r2 : Int) + a) = true := decide_eq_true (by omega)
        have d2 : (4294967296 : Int) ≤ (q2 : Int) := by omega
        have d3 : (q2 : Int) ≤ 4294967298 := by omega
        have d4 : (r2 : Int) < 4294967296 := by omega
        clear hG c1 c2 c4 hk
        rotate_left
        have HQ := hide hG
        have hk1 : (q2 : Int) - 1 = (k3 : Int) := by omega
        obtain ⟨p, ep, hp⟩ := word_mul q2 b (by omega) (by omega)
        have d1 : decide ((4294967296 : Int) ≤ (r2 : Int) + a) = true := decide_eq_true (by omega)
        have d2 : decide ((4294967296 : Int) ≤ (q2 : Int)) = false := decide_eq_false (by omega)
        have d3 : decide (4294967296 * (r2 : Int) + (v0 : Int) < (p : Int)) = true := decide_eq_true (by rw [hk] at hp; omega)
        have d4 : (r2 : Int) < 4294967296 := by omega
        have d5 : (1 : Int) ≤ (q2 : Int) := by omega
        have d6 : (q2 : Int) < 4294967296 := by omega
        clear hG c1 c2 c3 hk hp
        rotate_left
        have HQ := hide hG
        obtain ⟨p, ep, hp⟩ := word_mul k3 b (by omega) (by omega)
        have hk1 : (q2 : Int) = (k3 : Int) := by omega
        have d2 : decide ((4294967296 : Int) ≤ (k3 : Int)) = false := decide_eq_false (by omega)
        have d3 : decide (4294967296 * (r2 : Int) + (v0 : Int) < (p : Int)) = false := decide_eq_false (by omega)
        have d4 : (r2 : Int) < 4294967296 := by omega
        have d6 : (k3 : Int) < 4294967296 := by omega
        clear hG c2 c3 hk hp
        rotate_left
        all_goals
          have hkb3 : k3 < 4294967296 := by
            have := dig_lt (a := a) (b := b) (U := R) (u := v0) (B := 4294967296) (by rw [← F1.out]; exact hRY) f7
            rw [HQ.out] at this
            exact this
          have hk4 : (R * 4294967296 + v0) / Y = k3 := (congrArg (fun t => (R * 4294967296 + v0) / t) F1.out).trans HQ.out
          have HE : Hid (N = k * 4294967296 + k3) := by
            have h := HF.out
            rw [hk4] at h
            exact h
          clear hk4 HQ
          go_wp2
          go_ret2
          exact ⟨⟨_, ret_two (by rw [HE.out]; omega)⟩, rfl⟩

end Go.Proofs.YtbeegcpmpgdbnaaDoor

/-
  What math/bits.Div64 and calc.over answer at this program, whatever the numbers.
-/
namespace Go.Proofs.YtbeegcpmpgdbnaaDoor
open Go.RowKit Go.Shelf

set_option maxHeartbeats 1000000 in
theorem div_low (lo y : Nat) (hlo : lo < 18446744073709551616) (hy0 : 0 < y) (hy : y < 18446744073709551616) (w : World) :
    Calls Tryd.prog 58 #[.int .u64 0, .int .u64 lo, .int .u64 y] w fun e w' => (∃ r : Int, e = .returned (.tuple #[.int .u64 ((lo / y : Nat) : Int), .int .u64 r])) ∧ ∃ n, w' = w.drewN n := by
  have h1 : ((y : Int) == 0) = false := by rw [beq_eq_false_iff_ne]; omega
  have h2 : ¬ y = 0 := by omega
  have h3 : lo / y ≤ lo := Nat.div_le_self _ _
  have h4 : IntKind.u64.wrap ((lo : Int) / (y : Int)) = ((lo / y : Nat) : Int) := by
    rw [← Int.natCast_ediv, wrap_nat _ (by omega)]
  have H4 := hide h4
  clear h4 h3
  go_enter Tryd.func58, Tryd.ntmps58
  go_wp2
  go_quiet (fail)
  go_wp2
  go_ret2
  exact ⟨⟨_, ret_two H4.out⟩, _, rfl⟩

/-- math/bits.Div64 where the quotient fits. -/
theorem div_any (hi lo y : Nat) (hh : hi < y) (hlo : lo < 18446744073709551616) (hy : y < 18446744073709551616) (w : World) :
    Calls Tryd.prog 58 #[.int .u64 hi, .int .u64 lo, .int .u64 y] w fun e w' => (∃ r : Int, e = .returned (.tuple #[.int .u64 (((hi * 18446744073709551616 + lo) / y : Nat) : Int), .int .u64 r])) ∧ ∃ n, w' = w.drewN n := by
  rcases Nat.eq_zero_or_pos hi with h | h
  · subst h
    rw [Nat.zero_mul, Nat.zero_add]
    exact div_low lo y hlo hh hy w
  · exact (div_high hi lo y h hh hlo hy w).mono fun e w' h => ⟨h.1, 0, h.2⟩

/-- calc.over, where the quotient fits. -/
theorem over_ok (hi lo den : Nat) (hh : hi < den) (hlo : lo < 18446744073709551616) (hd : den < 18446744073709551616) (w : World) :
    Calls Tryd.prog 50 #[.int .u64 hi, .int .u64 lo, .int .u64 den] w fun e w' => e = .returned (.tuple #[.int .u64 (((hi * 18446744073709551616 + lo) / den : Nat) : Int), .int .i64 0]) ∧ ∃ n, w' = w.drewN n := by
  have h1 : ¬ (den : Int) ≤ (hi : Int) := by omega
  have D := hide (fun w => div_any hi lo den hh hlo hd w)
  clear hh hlo hd
  generalize (hi * 18446744073709551616 + lo) / den = q at *
  go_enter Tryd.func50, Tryd.ntmps50
  go_wp2_with fail
  refine (D.out _).mono ?_
  rintro e w' ⟨⟨r, rfl⟩, n, rfl⟩
  go_wp2
  go_ret2
  exact ⟨rfl, _, rfl⟩

/-- calc.over, where it doesn't. -/
theorem over_range (hi lo den : Nat) (hh : den ≤ hi) (w : World) :
    Calls Tryd.prog 50 #[.int .u64 hi, .int .u64 lo, .int .u64 den] w fun e w' => e = .returned (.tuple #[.int .u64 0, .int .i64 3]) ∧ w' = w := by
  have h1 : (den : Int) ≤ (hi : Int) := by omega
  clear hh
  go_enter Tryd.func50, Tryd.ntmps50
  go_wp2
  go_ret2
  exact ⟨rfl, rfl⟩

end Go.Proofs.YtbeegcpmpgdbnaaDoor

/-
  What calc.Need answers at this program, whatever the numbers.
-/
namespace Go.Proofs.YtbeegcpmpgdbnaaDoor
open Go.RowKit Go.Shelf

/-- The product and 999 more, by halves. -/
theorem need_halves (P : Nat) (hP : P ≤ 340282366920938463426481119284349108225) :
    ∃ h l l' c : Nat, P / 18446744073709551616 = h ∧ P % 18446744073709551616 = l ∧ ((l : Int) + 999) % 18446744073709551616 = (l' : Int) ∧ ((l : Int) + 999) / 18446744073709551616 = (c : Int) ∧ IntKind.u64.wrap ((h : Int) + (c : Int)) = ((h + c : Nat) : Int) ∧
      l' < 18446744073709551616 ∧ (h + c) * 18446744073709551616 + l' = P + 999 :=
  ⟨P / 18446744073709551616, P % 18446744073709551616, (P % 18446744073709551616 + 999) % 18446744073709551616, (P % 18446744073709551616 + 999) / 18446744073709551616, rfl, rfl, by omega, by omega, by rw [IntKind.wrap_u64]; omega, by omega, by omega⟩
theorem word_prod {x y : Nat} (hx : x < 18446744073709551616) (hy : y < 18446744073709551616) : x * y ≤ 340282366920938463426481119284349108225 :=
  Nat.mul_le_mul (show x ≤ 18446744073709551615 by omega) (show y ≤ 18446744073709551615 by omega)

theorem need_ok (x y : Nat) (hx : x < 18446744073709551616) (hy : y < 18446744073709551616) (hf : (x * y + 999) / 1000 < 18446744073709551616) (w : World) :
    Calls Tryd.prog 33 #[.int .u64 x, .int .u64 y] w fun e w' => e = .returned (.tuple #[.int .u64 (((x * y + 999) / 1000 : Nat) : Int), .int .i64 0]) ∧ ∃ n, w' = w.drewN n := by
  have M := hide (fun w => Tryd.bits_Mul64 x y hx hy w)
  obtain ⟨h, l, l', c, e1, e2, e3, e4, e5, hl, he⟩ := need_halves (x * y) (word_prod hx hy)
  have hlt : h + c < 1000 := by omega
  have D := hide (fun w => over_ok (h + c) l' 1000 hlt hl (by omega) w)
  rw [he] at D
  rw [e1, e2] at M
  clear hlt hf hx hy hl he e1 e2
  generalize (x * y + 999) / 1000 = q at *
  go_enter Tryd.func33, Tryd.ntmps33
  go_wp2_with fail
  refine (M.out _).mono ?_
  rintro e w' ⟨rfl, rfl⟩
  go_wp2_with (simp only [add64 l 999 (by omega) (by omega)])
  refine (D.out _).mono ?_
  rintro e w' ⟨rfl, n, rfl⟩
  go_wp2
  go_ret2
  exact ⟨rfl, _, rfl⟩

theorem need_range (x y : Nat) (hx : x < 18446744073709551616) (hy : y < 18446744073709551616) (hf : 18446744073709551616 ≤ (x * y + 999) / 1000) (w : World) :
    Calls Tryd.prog 33 #[.int .u64 x, .int .u64 y] w fun e w' => e = .returned (.tuple #[.int .u64 0, .int .i64 3]) ∧ w' = w := by
  have M := hide (fun w => Tryd.bits_Mul64 x y hx hy w)
  obtain ⟨h, l, l', c, e1, e2, e3, e4, e5, hl, he⟩ := need_halves (x * y) (word_prod hx hy)
  have hlt : 1000 ≤ h + c := by omega
  have D := hide (fun w => over_range (h + c) l' 1000 hlt w)
  rw [e1, e2] at M
  clear hlt hf hx hy hl he e1 e2
  go_enter Tryd.func33, Tryd.ntmps33
  go_wp2_with fail
  refine (M.out _).mono ?_
  rintro e w' ⟨rfl, rfl⟩
  go_wp2_with (simp only [add64 l 999 (by omega) (by omega)])
  refine (D.out _).mono ?_
  rintro e w' ⟨rfl, rfl⟩
  go_wp2
  go_ret2
  exact ⟨rfl, rfl⟩

end Go.Proofs.YtbeegcpmpgdbnaaDoor

/-
  What calc.Need answers at this program, whatever the numbers, and whether it is a number.
-/
namespace Go.Proofs.YtbeegcpmpgdbnaaDoor
open Go.RowKit Go.Shelf

/-- What bytes cost, and whether it is a number. -/
def needV (x y : Nat) : Nat := if (x * y + 999) / 1000 < 18446744073709551616 then (x * y + 999) / 1000 else 0
def needE (x y : Nat) : Int := if (x * y + 999) / 1000 < 18446744073709551616 then 0 else 3
theorem need_okV {x y : Nat} (h : (x * y + 999) / 1000 < 18446744073709551616) : needV x y = (x * y + 999) / 1000 ∧ needE x y = 0 := by simp [needV, needE, h]
theorem need_rangeV {x y : Nat} (h : 18446744073709551616 ≤ (x * y + 999) / 1000) : needV x y = 0 ∧ needE x y = 3 := by
  have : ¬ (x * y + 999) / 1000 < 18446744073709551616 := by omega
  simp [needV, needE, this]
theorem need_all (x y : Nat) (hx : x < 18446744073709551616) (hy : y < 18446744073709551616) (w : World) :
    Calls Tryd.prog 33 #[.int .u64 x, .int .u64 y] w fun e w' => e = .returned (.tuple #[.int .u64 (needV x y : Nat), .int .i64 (needE x y)]) ∧ Below w.heap.size w w' := by
  by_cases hf : (x * y + 999) / 1000 < 18446744073709551616
  · obtain ⟨e1, e2⟩ := need_okV hf
    rw [e1, e2]
    exact (need_ok x y hx hy hf w).mono fun e w' h => ⟨h.1, by obtain ⟨n, hw⟩ := h.2; rw [hw]; exact below_drewN (Below.refl _ _) _⟩
  · obtain ⟨e1, e2⟩ := need_rangeV (x := x) (y := y) (by omega)
    rw [e1, e2]
    exact (need_range x y hx hy (by omega) w).mono fun e w' h => ⟨h.1, by rw [h.2]; exact Below.refl _ _⟩

end Go.Proofs.YtbeegcpmpgdbnaaDoor
