/-
  What calc.Cmp, math/bits.Add64 and cmp.Compare answer at this program, whatever the numbers.
-/
import Derived.Test.YtggekibapfhcdaaShelf
import Derived.Test.YtggekibapfhcdaaNum
import Derived.WalkKit
import Derived.WalkSpells
import Derived.Laws.Externs
import Derived.Shelf.Spec.BitsCarry
namespace Go.Proofs.Ytggekibapfhcdaa
open Go.RowKit Go.Shelf

theorem hide {p : Prop} (h : p) : Hid p := h

theorem add64 (x y : Int) (hx : 0 ≤ x) (hy : 0 ≤ y) (w : World) : (callFunc 25 #[.int .u64 x, .int .u64 y, .int .u64 0]).run Try.prog w =
    .ok (.value (.tuple #[.int .u64 ((x + y) % 18446744073709551616), .int .u64 ((x + y) / 18446744073709551616)])) w := by
  obtain ⟨x, rfl⟩ := Int.eq_ofNat_of_zero_le hx
  obtain ⟨y, rfl⟩ := Int.eq_ofNat_of_zero_le hy
  rw [run_callFunc_extern Try.func25 (by kernel_rfl) (by kernel_rfl) (by kernel_rfl) (e := add64Entry) (by kernel_rfl), run_add64 (x : Int) (y : Int) 0 (by omega) (by omega) (by omega) (by omega)]
  simp only [Result.andThen]
  congr 5 <;> omega

theorem compare_any (x y : Int) (w : World) :
    Calls Try.prog 26 #[.int .u64 x, .int .u64 y] w fun e w' => e = .returned (.int .i64 (cmpI x y)) ∧ w' = w := by
  rcases cmpI_cases x y with ⟨h, hc⟩ | ⟨h, hc⟩ | ⟨h, hc⟩
  · rw [hc]
    clear hc
    go_enter Try.func26, Try.ntmps26
    go_wp2
    go_ret
    exact ⟨rfl, rfl⟩
  · rw [hc]
    clear hc
    subst h
    go_enter Try.func26, Try.ntmps26
    go_wp2
    go_ret
    exact ⟨rfl, rfl⟩
  · rw [hc]
    clear hc
    have h' : ¬ x < y := by omega
    go_enter Try.func26, Try.ntmps26
    go_wp2
    go_ret
    exact ⟨rfl, rfl⟩

/-- A word. -/
def Word (x : Int) : Prop := 0 ≤ x ∧ x < 18446744073709551616

/-- calc.Cmp: two whole products, compared. -/
theorem cmp_any (a b c d : Int) (ha : Word a) (hb : Word b) (hc : Word c) (hd : Word d) (w : World) :
    Calls Try.prog 18 #[.int .u64 a, .int .u64 b, .int .u64 c, .int .u64 d] w fun e w' => e = .returned (.int .i64 (cmpI (a * b) (c * d))) ∧ w' = w := by
  obtain ⟨ha0, ha1⟩ := ha; obtain ⟨hb0, hb1⟩ := hb; obtain ⟨hc0, hc1⟩ := hc; obtain ⟨hd0, hd1⟩ := hd
  obtain ⟨a, rfl⟩ := Int.eq_ofNat_of_zero_le ha0
  obtain ⟨b, rfl⟩ := Int.eq_ofNat_of_zero_le hb0
  obtain ⟨c, rfl⟩ := Int.eq_ofNat_of_zero_le hc0
  obtain ⟨d, rfl⟩ := Int.eq_ofNat_of_zero_le hd0
  rw [← Int.natCast_mul, ← Int.natCast_mul]
  have m1 := fun w => Try.bits_Mul64 a b (by omega) (by omega) w
  have m2 := fun w => Try.bits_Mul64 c d (by omega) (by omega) w
  have M1 := hide m1
  have M2 := hide m2
  clear m1 m2 ha0 ha1 hb0 hb1 hc0 hc1 hd0 hd1
  by_cases h : a * b / 18446744073709551616 = c * d / 18446744073709551616
  · have e1 := cmpI_lo h
    rw [← e1]
    clear e1
    generalize a * b / 18446744073709551616 = h1 at *
    generalize a * b % 18446744073709551616 = l1 at *
    generalize c * d / 18446744073709551616 = h2 at *
    generalize c * d % 18446744073709551616 = l2 at *
    subst h
    go_enter Try.func18, Try.ntmps18
    go_wp2_with fail
    refine (M1.out _).mono ?_
    rintro e w' ⟨rfl, rfl⟩
    go_wp2_with fail
    refine (M2.out _).mono ?_
    rintro e w' ⟨rfl, rfl⟩
    go_wp2_with fail
    refine (compare_any _ _ _).mono ?_
    rintro e w' ⟨rfl, rfl⟩
    go_wp2
    go_ret
    exact ⟨rfl, rfl⟩
  · have e1 := cmpI_hi h
    rw [← e1]
    clear e1
    have hne : (((a * b / 18446744073709551616 : Nat) : Int) == ((c * d / 18446744073709551616 : Nat) : Int)) = false := by
      rw [beq_eq_false_iff_ne]; omega
    generalize a * b / 18446744073709551616 = h1 at *
    generalize a * b % 18446744073709551616 = l1 at *
    generalize c * d / 18446744073709551616 = h2 at *
    generalize c * d % 18446744073709551616 = l2 at *
    clear h
    go_enter Try.func18, Try.ntmps18
    go_wp2_with fail
    refine (M1.out _).mono ?_
    rintro e w' ⟨rfl, rfl⟩
    go_wp2_with fail
    refine (M2.out _).mono ?_
    rintro e w' ⟨rfl, rfl⟩
    go_wp2_with fail
    refine (compare_any _ _ _).mono ?_
    rintro e w' ⟨rfl, rfl⟩
    go_wp2
    go_ret
    exact ⟨rfl, rfl⟩

end Go.Proofs.Ytggekibapfhcdaa
