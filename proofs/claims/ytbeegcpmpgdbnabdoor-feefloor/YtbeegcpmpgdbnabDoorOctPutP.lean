/-
  What octet.Put answers at this program.
-/
import Derived.Test.YtbeegcpmpgdbnabDoorOctW
import Derived.Laws.BitsAllLaws
namespace Go.Proofs.YtbeegcpmpgdbnabDoor
open Go.RowKit

/-- octet.Put. -/
theorem put_any (x n : Int) (w : World) (hx : Word x) :
    Calls Tryd.prog 47 #[.int .u64 x, .int .i64 n] w fun e w' => ∃ v', e = .returned (.tuple #[v', .int .i64 (putE x n)]) ∧ Own w' w.heap.size v' (putL x n) ∧ Below w.heap.size w w' := by
  have C := hide (fun w => width_any n w)
  unfold putL putE
  by_cases hw : wideB n = true
  · have A := hide (fun k => add_any w w.heap.size (.slice none 0 0) [] x k hx (Own.nil _ _) (Nat.le_refl _))
    rw [hw] at C ⊢
    simp only [true_and, if_true]
    obtain ⟨hx0, hx1⟩ := hx
    rcases wide_cases hw with rfl | rfl | rfl | rfl
    · clear hw
      have e : (256 : Int) ^ (Int.toNat 1) = 256 := by decide
      rw [e]
      clear e
      by_cases hlt : x < 256
      · have hd : x / 256 = 0 := by omega
        have A := hide (A.out 1 (by simp))
        rw [if_pos hlt, if_pos hlt]
        clear hlt
        go_enter Tryd.func47, Tryd.ntmps47
        go_wp2_with fail
        refine (C.out _).mono ?_
        rintro e w' ⟨rfl, rfl⟩
        go_wp2_with fail
        refine A.out.mono ?_
        rintro e w1 ⟨v1, rfl, R⟩
        have R := hide R
        go_wp2
        go_ret2
        exact ⟨_, rfl, R.out⟩
      · have hd : (x / 256 == 0) = false := by simp; omega
        rw [if_neg hlt, if_neg hlt]
        clear hlt A
        go_enter Tryd.func47, Tryd.ntmps47
        go_wp2_with fail
        refine (C.out _).mono ?_
        rintro e w' ⟨rfl, rfl⟩
        go_wp2
        go_ret2
        exact ⟨_, rfl, Own.nil _ _, Below.refl _ _⟩
    · clear hw
      have e : (256 : Int) ^ (Int.toNat 2) = 65536 := by decide
      rw [e]
      clear e
      by_cases hlt : x < 65536
      · have hd : x / 65536 = 0 := by omega
        have A := hide (A.out 2 (by simp))
        rw [if_pos hlt, if_pos hlt]
        clear hlt
        go_enter Tryd.func47, Tryd.ntmps47
        go_wp2_with fail
        refine (C.out _).mono ?_
        rintro e w' ⟨rfl, rfl⟩
        go_wp2_with fail
        refine A.out.mono ?_
        rintro e w1 ⟨v1, rfl, R⟩
        have R := hide R
        go_wp2
        go_ret2
        exact ⟨_, rfl, R.out⟩
      · have hd : (x / 65536 == 0) = false := by simp; omega
        rw [if_neg hlt, if_neg hlt]
        clear hlt A
        go_enter Tryd.func47, Tryd.ntmps47
        go_wp2_with fail
        refine (C.out _).mono ?_
        rintro e w' ⟨rfl, rfl⟩
        go_wp2
        go_ret2
        exact ⟨_, rfl, Own.nil _ _, Below.refl _ _⟩
    · clear hw
      have e : (256 : Int) ^ (Int.toNat 4) = 4294967296 := by decide
      rw [e]
      clear e
      by_cases hlt : x < 4294967296
      · have hd : x / 4294967296 = 0 := by omega
        have A := hide (A.out 4 (by simp))
        rw [if_pos hlt, if_pos hlt]
        clear hlt
        go_enter Tryd.func47, Tryd.ntmps47
        go_wp2_with fail
        refine (C.out _).mono ?_
        rintro e w' ⟨rfl, rfl⟩
        go_wp2_with fail
        refine A.out.mono ?_
        rintro e w1 ⟨v1, rfl, R⟩
        have R := hide R
        go_wp2
        go_ret2
        exact ⟨_, rfl, R.out⟩
      · have hd : (x / 4294967296 == 0) = false := by simp; omega
        rw [if_neg hlt, if_neg hlt]
        clear hlt A
        go_enter Tryd.func47, Tryd.ntmps47
        go_wp2_with fail
        refine (C.out _).mono ?_
        rintro e w' ⟨rfl, rfl⟩
        go_wp2
        go_ret2
        exact ⟨_, rfl, Own.nil _ _, Below.refl _ _⟩
    · clear hw
      have e : (256 : Int) ^ (Int.toNat 8) = 18446744073709551616 := by decide
      rw [e]
      clear e
      have hlt : x < 18446744073709551616 := hx1
      have hd : x / 18446744073709551616 = 0 := by omega
      have A := hide (A.out 8 (by simp))
      rw [if_pos hlt, if_pos hlt]
      clear hlt
      go_enter Tryd.func47, Tryd.ntmps47
      go_wp2_with fail
      refine (C.out _).mono ?_
      rintro e w' ⟨rfl, rfl⟩
      go_wp2_with fail
      refine A.out.mono ?_
      rintro e w1 ⟨v1, rfl, R⟩
      have R := hide R
      go_wp2
      go_ret2
      exact ⟨_, rfl, R.out⟩
  · have hw : wideB n = false := by simpa using hw
    rw [hw] at C ⊢
    simp only [Bool.false_eq_true, if_false, false_and]
    clear hw
    go_enter Tryd.func47, Tryd.ntmps47
    go_wp2_with fail
    refine (C.out _).mono ?_
    rintro e w' ⟨rfl, rfl⟩
    go_wp2
    go_ret2
    exact ⟨_, rfl, Own.nil _ _, Below.refl _ _⟩

end Go.Proofs.YtbeegcpmpgdbnabDoor
