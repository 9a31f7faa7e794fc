/-
  What the document's Part, Need and Cmp (pappusref01) answer at this program, whatever the numbers; and calc's, in the same words.
-/
import Derived.Test.YtggekibapfhcdaaPart
import Derived.Test.YtggekibapfhcdaaOver
import Derived.WalkSmall
namespace Go.Proofs.Ytggekibapfhcdaa
open Go.RowKit Go.Shelf

/-- A part, and whether it is one. -/
def partV (x num den : Nat) : Nat := if den = 0 then 0 else if x * num / den < 18446744073709551616 then x * num / den else 0
def partE (x num den : Nat) : Int := if den = 0 then 2 else if x * num / den < 18446744073709551616 then 0 else 3
theorem part_zeroV (x num : Nat) : partV x num 0 = 0 ∧ partE x num 0 = 2 := by simp [partV, partE]
theorem part_okV {x num den : Nat} (h0 : 0 < den) (hf : x * num / den < 18446744073709551616) : partV x num den = x * num / den ∧ partE x num den = 0 := by
  have h : ¬ den = 0 := by omega
  simp [partV, partE, h, hf]
theorem part_rangeV {x num den : Nat} (h0 : 0 < den) (hf : 18446744073709551616 ≤ x * num / den) : partV x num den = 0 ∧ partE x num den = 3 := by
  have h : ¬ den = 0 := by omega
  have h1 : ¬ x * num / den < 18446744073709551616 := by omega
  simp [partV, partE, h, h1]
theorem part_all (x num den : Nat) (hx : x < 18446744073709551616) (hn : num < 18446744073709551616) (hd : den < 18446744073709551616) (w : World) :
    Calls Try.prog 14 #[.int .u64 x, .int .u64 num, .int .u64 den] w fun e w' => e = .returned (.tuple #[.int .u64 (partV x num den : Nat), .int .i64 (partE x num den)]) ∧ Below w.heap.size w w' := by
  rcases Nat.eq_zero_or_pos den with h | h
  · subst h
    obtain ⟨e1, e2⟩ := part_zeroV x num
    rw [e1, e2]
    exact (part_zero x num w).mono fun e w' h => ⟨h.1, by rw [h.2]; exact Below.refl _ _⟩
  · by_cases hf : x * num / den < 18446744073709551616
    · obtain ⟨e1, e2⟩ := part_okV h hf
      rw [e1, e2]
      exact (part_ok x num den hx hn hd h hf w).mono fun e w' h => ⟨h.1, by obtain ⟨n, hw⟩ := h.2; rw [hw]; exact below_drewN (Below.refl _ _) _⟩
    · obtain ⟨e1, e2⟩ := part_rangeV h (by omega : 18446744073709551616 ≤ x * num / den)
      rw [e1, e2]
      exact (part_range x num den hx hn h (by omega) w).mono fun e w' h => ⟨h.1, by rw [h.2]; exact Below.refl _ _⟩

theorem below_three (w : World) (a b c : Obj) : Below w.heap.size w (((w.alloc a).alloc b).alloc c) :=
  (((Below.refl _ _).alloc (Nat.le_refl _) _).alloc (by simp) _).alloc (by simp; omega) _
theorem hi_lt {P den : Nat} (h0 : 0 < den) (hf : P / den < 18446744073709551616) : P / 18446744073709551616 < den := by
  rw [Nat.div_lt_iff_lt_mul (by omega)] at hf ⊢
  rw [Nat.mul_comm den]; exact hf
theorem hi_ge {P den : Nat} (h0 : 0 < den) (hf : 18446744073709551616 ≤ P / den) : den ≤ P / 18446744073709551616 := by
  rw [Nat.le_div_iff_mul_le (by omega)] at hf ⊢
  rw [Nat.mul_comm den]; exact hf
theorem halves_of (P : Nat) : P / 18446744073709551616 * 18446744073709551616 + P % 18446744073709551616 = P := by omega

set_option maxHeartbeats 1000000 in
theorem rpart_all (x num den : Nat) (hx : x < 18446744073709551616) (hn : num < 18446744073709551616) (hd : den < 18446744073709551616) (w : World) :
    Calls Try.prog 15 #[.int .u64 x, .int .u64 num, .int .u64 den] w fun e w' => e = .returned (.tuple #[.int .u64 (partV x num den : Nat), .int .i64 (partE x num den)]) ∧ Below w.heap.size w w' := by
  rcases Nat.eq_zero_or_pos den with h | h
  · subst h
    obtain ⟨e1, e2⟩ := part_zeroV x num
    rw [e1, e2]
    clear hx hn hd e1 e2
    go_enter Try.func15, Try.ntmps15
    go_wp2
    go_ret2
    exact ⟨rfl, Below.refl _ _⟩
  · have hz : ((den : Int) == 0) = false := by rw [beq_eq_false_iff_ne]; omega
    have T := hide (fun w => times_any x num hx hn w)
    by_cases hf : x * num / den < 18446744073709551616
    · obtain ⟨e1, e2⟩ := part_okV h hf
      rw [e1, e2]
      have D := hide (fun w => over_fits (x * num / 18446744073709551616) (x * num % 18446744073709551616) den (hi_lt h hf) (by omega) hd w)
      rw [halves_of] at D
      clear hx hn hd e1 e2 hf h
      generalize x * num / den = q at *
      generalize x * num % den = r at *
      generalize x * num / 18446744073709551616 = hi at *
      generalize x * num % 18446744073709551616 = lo at *
      go_enter Try.func15, Try.ntmps15
      go_wp2_with fail
      refine (T.out _).mono ?_
      rintro e w' ⟨rfl, o1, o2, rfl⟩
      go_wp2_with fail
      refine (D.out _).mono ?_
      rintro e w' ⟨rfl, o3, rfl⟩
      go_wp2
      go_ret2
      exact ⟨rfl, below_three _ _ _ _⟩
    · obtain ⟨e1, e2⟩ := part_rangeV h (by omega : 18446744073709551616 ≤ x * num / den)
      rw [e1, e2]
      have D := hide (fun w => over_not (x * num / 18446744073709551616) (x * num % 18446744073709551616) den (hi_ge h (by omega)) w)
      clear hx hn hd e1 e2 hf h
      generalize x * num / 18446744073709551616 = hi at *
      generalize x * num % 18446744073709551616 = lo at *
      go_enter Try.func15, Try.ntmps15
      go_wp2_with fail
      refine (T.out _).mono ?_
      rintro e w' ⟨rfl, o1, o2, rfl⟩
      go_wp2_with fail
      refine (D.out _).mono ?_
      rintro e w' ⟨rfl, o3, rfl⟩
      go_wp2
      go_ret2
      exact ⟨rfl, below_three _ _ _ _⟩

/-- What bytes cost, and whether it is a number. -/
def needV (x y : Nat) : Nat := if (x * y + 999) / 1000 < 18446744073709551616 then (x * y + 999) / 1000 else 0
def needE (x y : Nat) : Int := if (x * y + 999) / 1000 < 18446744073709551616 then 0 else 3
theorem need_okV {x y : Nat} (h : (x * y + 999) / 1000 < 18446744073709551616) : needV x y = (x * y + 999) / 1000 ∧ needE x y = 0 := by simp [needV, needE, h]
theorem need_rangeV {x y : Nat} (h : 18446744073709551616 ≤ (x * y + 999) / 1000) : needV x y = 0 ∧ needE x y = 3 := by
  have : ¬ (x * y + 999) / 1000 < 18446744073709551616 := by omega
  simp [needV, needE, this]
theorem need_all (x y : Nat) (hx : x < 18446744073709551616) (hy : y < 18446744073709551616) (w : World) :
    Calls Try.prog 16 #[.int .u64 x, .int .u64 y] w fun e w' => e = .returned (.tuple #[.int .u64 (needV x y : Nat), .int .i64 (needE x y)]) ∧ Below w.heap.size w w' := by
  by_cases hf : (x * y + 999) / 1000 < 18446744073709551616
  · obtain ⟨e1, e2⟩ := need_okV hf
    rw [e1, e2]
    exact (need_ok x y hx hy hf w).mono fun e w' h => ⟨h.1, by obtain ⟨n, hw⟩ := h.2; rw [hw]; exact below_drewN (Below.refl _ _) _⟩
  · obtain ⟨e1, e2⟩ := need_rangeV (x := x) (y := y) (by omega)
    rw [e1, e2]
    exact (need_range x y hx hy (by omega) w).mono fun e w' h => ⟨h.1, by rw [h.2]; exact Below.refl _ _⟩

set_option maxHeartbeats 2000000 in
theorem rneed_all (x y : Nat) (hx : x < 18446744073709551616) (hy : y < 18446744073709551616) (w : World) :
    Calls Try.prog 17 #[.int .u64 x, .int .u64 y] w fun e w' => e = .returned (.tuple #[.int .u64 (needV x y : Nat), .int .i64 (needE x y)]) ∧ Below w.heap.size w w' := by
  have T := hide (fun w => times_any x y hx hy w)
  by_cases hh : x * y / 18446744073709551616 < 1000
  · have D := hide (fun w => over_fits (x * y / 18446744073709551616) (x * y % 18446744073709551616) 1000 hh (by omega) (by omega) w)
    rw [halves_of] at D
    have hq : x * y / 1000 < 18446744073709551616 := by omega
    by_cases hr : x * y % 1000 = 0
    · obtain ⟨e1, e2⟩ := need_okV (x := x) (y := y) (by omega)
      rw [e1, e2, show (x * y + 999) / 1000 = x * y / 1000 by omega]
      rw [hr] at D
      clear hx hy e1 e2 hh hr hq
      generalize x * y / 1000 = q at *
      generalize x * y / 18446744073709551616 = hi at *
      generalize x * y % 18446744073709551616 = lo at *
      go_enter Try.func17, Try.ntmps17
      go_wp2_with fail
      refine (T.out _).mono ?_
      rintro e w' ⟨rfl, o1, o2, rfl⟩
      go_wp2_with fail
      refine (D.out _).mono ?_
      rintro e w' ⟨rfl, o3, rfl⟩
      go_wp2
      go_ret2
      exact ⟨rfl, below_three _ _ _ _⟩
    · by_cases ht : x * y / 1000 = 18446744073709551615
      · obtain ⟨e1, e2⟩ := need_rangeV (x := x) (y := y) (by omega)
        rw [e1, e2]
        rw [ht] at D
        have hr1 : (0 : Int) < ((x * y % 1000 : Nat) : Int) := by omega
        clear hx hy e1 e2 hh hr hq ht
        generalize x * y % 1000 = r at *
        generalize x * y / 18446744073709551616 = hi at *
        generalize x * y % 18446744073709551616 = lo at *
        go_enter Try.func17, Try.ntmps17
        go_wp2_with fail
        refine (T.out _).mono ?_
        rintro e w' ⟨rfl, o1, o2, rfl⟩
        go_wp2_with fail
        refine (D.out _).mono ?_
        rintro e w' ⟨rfl, o3, rfl⟩
        go_wp2
        go_ret2
        exact ⟨rfl, below_three _ _ _ _⟩
      · obtain ⟨e1, e2⟩ := need_okV (x := x) (y := y) (by omega)
        rw [e1, e2, show (x * y + 999) / 1000 = x * y / 1000 + 1 by omega]
        have hr1 : (0 : Int) < ((x * y % 1000 : Nat) : Int) := by omega
        have ht1 : (((x * y / 1000 : Nat) : Int) == 18446744073709551615) = false := by rw [beq_eq_false_iff_ne]; omega
        have ht2 : ((x * y / 1000 : Nat) : Int) < 18446744073709551615 := by omega
        have ht3 : (0 : Int) ≤ ((x * y / 1000 : Nat) : Int) := by omega
        rw [show ((x * y / 1000 + 1 : Nat) : Int) = ((x * y / 1000 : Nat) : Int) + 1 from by omega]
        clear hx hy e1 e2 hh hr hq ht
        generalize x * y % 1000 = r at *
        generalize ((x * y / 1000 : Nat) : Int) = q at *
        generalize x * y / 18446744073709551616 = hi at *
        generalize x * y % 18446744073709551616 = lo at *
        go_enter Try.func17, Try.ntmps17
        go_wp2_with fail
        refine (T.out _).mono ?_
        rintro e w' ⟨rfl, o1, o2, rfl⟩
        go_wp2_with fail
        refine (D.out _).mono ?_
        rintro e w' ⟨rfl, o3, rfl⟩
        go_wp2
        go_ret2
        exact ⟨rfl, below_three _ _ _ _⟩
  · obtain ⟨e1, e2⟩ := need_rangeV (x := x) (y := y) (by omega)
    rw [e1, e2]
    have D := hide (fun w => over_not (x * y / 18446744073709551616) (x * y % 18446744073709551616) 1000 (by omega) w)
    clear hx hy e1 e2 hh
    generalize x * y / 18446744073709551616 = hi at *
    generalize x * y % 18446744073709551616 = lo at *
    go_enter Try.func17, Try.ntmps17
    go_wp2_with fail
    refine (T.out _).mono ?_
    rintro e w' ⟨rfl, o1, o2, rfl⟩
    go_wp2_with fail
    refine (D.out _).mono ?_
    rintro e w' ⟨rfl, o3, rfl⟩
    go_wp2
    go_ret2
    exact ⟨rfl, below_three _ _ _ _⟩

end Go.Proofs.Ytggekibapfhcdaa
