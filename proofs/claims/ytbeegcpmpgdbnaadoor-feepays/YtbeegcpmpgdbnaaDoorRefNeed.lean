/-
  What the document's Need (pappusref01) answers at this program, whatever the numbers.
-/
import Derived.Test.YtbeegcpmpgdbnaaDoorCalB
import Derived.Test.YtbeegcpmpgdbnaaDoorOver
import Derived.WalkSmall
namespace Go.Proofs.YtbeegcpmpgdbnaaDoor
open Go.RowKit Go.Shelf

theorem below_three (w : World) (a b c : Obj) : Below w.heap.size w (((w.alloc a).alloc b).alloc c) :=
  (((Below.refl _ _).alloc (Nat.le_refl _) _).alloc (by simp) _).alloc (by simp; omega) _
theorem hi_lt {P den : Nat} (h0 : 0 < den) (hf : P / den < 18446744073709551616) : P / 18446744073709551616 < den := by
  rw [Nat.div_lt_iff_lt_mul (by omega)] at hf ⊢
  rw [Nat.mul_comm den]; exact hf
theorem hi_ge {P den : Nat} (h0 : 0 < den) (hf : 18446744073709551616 ≤ P / den) : den ≤ P / 18446744073709551616 := by
  rw [Nat.le_div_iff_mul_le (by omega)] at hf ⊢
  rw [Nat.mul_comm den]; exact hf
theorem halves_of (P : Nat) : P / 18446744073709551616 * 18446744073709551616 + P % 18446744073709551616 = P := by omega

set_option maxHeartbeats 2000000 in
theorem rneed_all (x y : Nat) (hx : x < 18446744073709551616) (hy : y < 18446744073709551616) (w : World) :
    Calls Tryd.prog 34 #[.int .u64 x, .int .u64 y] w fun e w' => e = .returned (.tuple #[.int .u64 (needV x y : Nat), .int .i64 (needE x y)]) ∧ Below w.heap.size w w' := by
  have T := hide (fun w => times_any x y hx hy w)
  by_cases hh : x * y / 18446744073709551616 < 1000
  · have D := hide (fun w => over_fits (x * y / 18446744073709551616) (x * y % 18446744073709551616) 1000 hh (by omega) (by omega) w)
    rw [halves_of] at D
    have hq : x * y / 1000 < 18446744073709551616 := by omega
    by_cases hr : x * y % 1000 = 0
    · obtain ⟨e1, e2⟩ := need_okV (x := x) (y := y) (by omega)
      rw [e1, e2, show (x * y + 999) / 1000 = x * y / 1000 by omega]
      rw [hr] at D
      clear hx hy e1 e2 hh hr hq
      generalize x * y / 1000 = q at *
      generalize x * y / 18446744073709551616 = hi at *
      generalize x * y % 18446744073709551616 = lo at *
      go_enter Tryd.func34, Tryd.ntmps34
      go_wp2_with fail
      refine (T.out _).mono ?_
      rintro e w' ⟨rfl, o1, o2, rfl⟩
      go_wp2_with fail
      refine (D.out _).mono ?_
      rintro e w' ⟨rfl, o3, rfl⟩
      go_wp2
      go_ret2
      exact ⟨rfl, below_three _ _ _ _⟩
    · by_cases ht : x * y / 1000 = 18446744073709551615
      · obtain ⟨e1, e2⟩ := need_rangeV (x := x) (y := y) (by omega)
        rw [e1, e2]
        rw [ht] at D
        have hr1 : (0 : Int) < ((x * y % 1000 : Nat) : Int) := by omega
        clear hx hy e1 e2 hh hr hq ht
        generalize x * y % 1000 = r at *
        generalize x * y / 18446744073709551616 = hi at *
        generalize x * y % 18446744073709551616 = lo at *
        go_enter Tryd.func34, Tryd.ntmps34
        go_wp2_with fail
        refine (T.out _).mono ?_
        rintro e w' ⟨rfl, o1, o2, rfl⟩
        go_wp2_with fail
        refine (D.out _).mono ?_
        rintro e w' ⟨rfl, o3, rfl⟩
        go_wp2
        go_ret2
        exact ⟨rfl, below_three _ _ _ _⟩
      · obtain ⟨e1, e2⟩ := need_okV (x := x) (y := y) (by omega)
        rw [e1, e2, show (x * y + 999) / 1000 = x * y / 1000 + 1 by omega]
        have hr1 : (0 : Int) < ((x * y % 1000 : Nat) : Int) := by omega
        have ht1 : (((x * y / 1000 : Nat) : Int) == 18446744073709551615) = false := by rw [beq_eq_false_iff_ne]; omega
        have ht2 : ((x * y / 1000 : Nat) : Int) < 18446744073709551615 := by omega
        have ht3 : (0 : Int) ≤ ((x * y / 1000 : Nat) : Int) := by omega
        rw [show ((x * y / 1000 + 1 : Nat) : Int) = ((x * y / 1000 : Nat) : Int) + 1 from by omega]
        clear hx hy e1 e2 hh hr hq ht
        generalize x * y % 1000 = r at *
        generalize ((x * y / 1000 : Nat) : Int) = q at *
        generalize x * y / 18446744073709551616 = hi at *
        generalize x * y % 18446744073709551616 = lo at *
        go_enter Tryd.func34, Tryd.ntmps34
        go_wp2_with fail
        refine (T.out _).mono ?_
        rintro e w' ⟨rfl, o1, o2, rfl⟩
        go_wp2_with fail
        refine (D.out _).mono ?_
        rintro e w' ⟨rfl, o3, rfl⟩
        go_wp2
        go_ret2
        exact ⟨rfl, below_three _ _ _ _⟩
  · obtain ⟨e1, e2⟩ := need_rangeV (x := x) (y := y) (by omega)
    rw [e1, e2]
    have D := hide (fun w => over_not (x * y / 18446744073709551616) (x * y % 18446744073709551616) 1000 (by omega) w)
    clear hx hy e1 e2 hh
    generalize x * y / 18446744073709551616 = hi at *
    generalize x * y % 18446744073709551616 = lo at *
    go_enter Tryd.func34, Tryd.ntmps34
    go_wp2_with fail
    refine (T.out _).mono ?_
    rintro e w' ⟨rfl, o1, o2, rfl⟩
    go_wp2_with fail
    refine (D.out _).mono ?_
    rintro e w' ⟨rfl, o3, rfl⟩
    go_wp2
    go_ret2
    exact ⟨rfl, below_three _ _ _ _⟩

end Go.Proofs.YtbeegcpmpgdbnaaDoor
