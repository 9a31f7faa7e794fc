/-
  What octet.number and octet.Put answer at this program, whatever the bytes.
-/
import Derived.Test.YtjmifgdjmaelfaaDoorOctW
import Derived.Laws.BitsAllLaws
namespace Go.Proofs.YtjmifgdjmaelfaaDoor
open Go.RowKit

theorem wraps_word (n : Int) (h₀ : 0 ≤ n) (h₁ : n < 2 ^ 64) : IntKind.u64.wrap n = n := by
  simp [IntKind.wrap, IntKind.bits, IntKind.signed]
  omega
theorem or_num (k : Nat) (hk : k ≤ 7) (X z : Int) (h0 : 0 ≤ X) (h1 : X < 256 ^ k) (hz : Byte z) : bits .or .u64 X (IntKind.u64.wrap (z * 2 ^ (8 * k))) = X + z * 256 ^ k := by
  obtain ⟨hz0, hz1⟩ := hz
  have e : (2 : Int) ^ (8 * k) = 256 ^ k := by rw [Int.pow_mul]; rfl
  have hp : (256 : Int) ^ k ≤ 72057594037927936 ∧ (0 : Int) < 256 ^ k := by
    rcases (show k = 0 ∨ k = 1 ∨ k = 2 ∨ k = 3 ∨ k = 4 ∨ k = 5 ∨ k = 6 ∨ k = 7 by omega) with rfl | rfl | rfl | rfl | rfl | rfl | rfl | rfl <;> decide
  have hm0 : 0 ≤ z * 256 ^ k := Int.mul_nonneg hz0 (by omega)
  have hm1 : z * 256 ^ k ≤ 255 * 72057594037927936 := Int.mul_le_mul (by omega) hp.1 (by omega) (by omega)
  have hw : IntKind.u64.wrap (z * 2 ^ (8 * k)) = z * 256 ^ k := by
    rw [e]
    simp [IntKind.wrap, IntKind.bits, IntKind.signed]
    omega
  rw [hw]
  have hc : bits .or .u64 X (z * 256 ^ k) = bits .or .u64 (z * 256 ^ k) X := by simp only [bits, BitVec.or_comm]
  rw [hc, bits_join .u64 64 (by decide) wraps_word (8 * k) (z * 256 ^ k) X hm0 (by rw [e]; simp) (by omega) h0 (by rw [e]; exact h1) (by omega)]
  omega
/-- What holds at the head of a round of number. -/
def Numbered (l : List Int) (x i : Value) : Prop := ∃ k : Nat, k ≤ l.length ∧ i = .int .i64 k ∧ x = .int .u64 (num (l.take k))

set_option maxHeartbeats 1000000 in
theorem number_some (l : List Int) (b off cap : Nat) (w : World) (hl : ∀ z ∈ l, Byte z) (hn : l.length ≤ 8)
    (hc : ∀ i, i < l.length → w.cell? ⟨b, off + i, none⟩ = some (.int .u8 (l.getD i 0))) :
    Calls Tryd.prog 101 #[.slice (some ⟨b, off, none⟩) l.length cap] w fun e w' => e = .returned (.int .u64 (num l)) ∧ w' = w := by
  have HC := hide hc
  have HL := hide hl
  clear hc hl
  go_enter Tryd.func101, Tryd.ntmps101
  go_wp2
  go_loop [3, 8] (fun x i => Numbered l x i) (fun _ i => l.length - (intOf i).toNat)
  case atStart => exact ⟨0, Nat.zero_le _, rfl, rfl⟩
  case round =>
    obtain ⟨k, hk, rfl, rfl⟩ := hrel
    by_cases hlt : k < l.length
    · have hcell := HC.out k hlt
      obtain ⟨hz0, hz1⟩ := HL.out (l.getD k 0) (by simp [List.getD, hlt])
      have hbk : ∀ z ∈ l.take k, Byte z := fun z hz => HL.out z (List.mem_of_mem_take hz)
      have hlk : (l.take k).length = k := by simp; omega
      have hor := or_num k (by omega) (num (l.take k)) (l.getD k 0) (num_nonneg _ hbk) (by have := num_lt _ hbk; rw [hlk] at this; exact this) ⟨hz0, hz1⟩
      have hnx : num (l.take (k + 1)) = num (l.take k) + l.getD k 0 * 256 ^ k := by
        rw [List.take_succ_eq_append_getElem hlt, num_snoc, hlk]
        simp [List.getD, hlt]
      have R := hide (hor.trans hnx.symm)
      clear hor hnx hbk hlk
      generalize l.getD k 0 = z at *
      generalize num (l.take k) = X at *
      go_wp2
      rw [R.out]
      go_round
      case rel => exact ⟨k + 1, hlt, by go_num, rfl⟩
      case measure => simp [intOf]; omega
    · have hkl : l.take k = l := List.take_of_length_le (by omega)
      rw [hkl]
      clear hkl
      go_wp2
      go_ret
      exact ⟨rfl, rfl⟩

theorem number_any (l : List Int) (v : Value) (w : World) (hv : Bytes w v l) (hl : ∀ z ∈ l, Byte z) (hn : l.length ≤ 8) (hp : 0 < l.length) :
    Calls Tryd.prog 101 #[v] w fun e w' => e = .returned (.int .u64 (num l)) ∧ w' = w := by
  obtain ⟨b, off, cap, rfl, _, _, hc⟩ := hv.lies hp
  exact number_some l b off cap w hl hn hc

/-- octet.Put. -/
theorem put_any (x n : Int) (w : World) (hx : Word x) :
    Calls Tryd.prog 68 #[.int .u64 x, .int .i64 n] w fun e w' => ∃ v', e = .returned (.tuple #[v', .int .i64 (putE x n)]) ∧ Own w' w.heap.size v' (putL x n) ∧ Below w.heap.size w w' := by
  have C := hide (fun w => width_any n w)
  unfold putL putE
  by_cases hw : wideB n = true
  · have A := hide (fun k => add_any w w.heap.size (.slice none 0 0) [] x k hx (Own.nil _ _) (Nat.le_refl _))
    rw [hw] at C ⊢
    simp only [true_and, if_true]
    obtain ⟨hx0, hx1⟩ := hx
    rcases wide_cases hw with rfl | rfl | rfl | rfl
    · clear hw
      have e : (256 : Int) ^ (Int.toNat 1) = 256 := by decide
      rw [e]
      clear e
      by_cases hlt : x < 256
      · have hd : x / 256 = 0 := by omega
        have A := hide (A.out 1 (by simp))
        rw [if_pos hlt, if_pos hlt]
        clear hlt
        go_enter Tryd.func68, Tryd.ntmps68
        go_wp2_with fail
        refine (C.out _).mono ?_
        rintro e w' ⟨rfl, rfl⟩
        go_wp2_with fail
        refine A.out.mono ?_
        rintro e w1 ⟨v1, rfl, R⟩
        have R := hide R
        go_wp2
        go_ret2
        exact ⟨_, rfl, R.out⟩
      · have hd : (x / 256 == 0) = false := by simp; omega
        rw [if_neg hlt, if_neg hlt]
        clear hlt A
        go_enter Tryd.func68, Tryd.ntmps68
        go_wp2_with fail
        refine (C.out _).mono ?_
        rintro e w' ⟨rfl, rfl⟩
        go_wp2
        go_ret2
        exact ⟨_, rfl, Own.nil _ _, Below.refl _ _⟩
    · clear hw
      have e : (256 : Int) ^ (Int.toNat 2) = 65536 := by decide
      rw [e]
      clear e
      by_cases hlt : x < 65536
      · have hd : x / 65536 = 0 := by omega
        have A := hide (A.out 2 (by simp))
        rw [if_pos hlt, if_pos hlt]
        clear hlt
        go_enter Tryd.func68, Tryd.ntmps68
        go_wp2_with fail
        refine (C.out _).mono ?_
        rintro e w' ⟨rfl, rfl⟩
        go_wp2_with fail
        refine A.out.mono ?_
        rintro e w1 ⟨v1, rfl, R⟩
        have R := hide R
        go_wp2
        go_ret2
        exact ⟨_, rfl, R.out⟩
      · have hd : (x / 65536 == 0) = false := by simp; omega
        rw [if_neg hlt, if_neg hlt]
        clear hlt A
        go_enter Tryd.func68, Tryd.ntmps68
        go_wp2_with fail
        refine (C.out _).mono ?_
        rintro e w' ⟨rfl, rfl⟩
        go_wp2
        go_ret2
        exact ⟨_, rfl, Own.nil _ _, Below.refl _ _⟩
    · clear hw
      have e : (256 : Int) ^ (Int.toNat 4) = 4294967296 := by decide
      rw [e]
      clear e
      by_cases hlt : x < 4294967296
      · have hd : x / 4294967296 = 0 := by omega
        have A := hide (A.out 4 (by simp))
        rw [if_pos hlt, if_pos hlt]
        clear hlt
        go_enter Tryd.func68, Tryd.ntmps68
        go_wp2_with fail
        refine (C.out _).mono ?_
        rintro e w' ⟨rfl, rfl⟩
        go_wp2_with fail
        refine A.out.mono ?_
        rintro e w1 ⟨v1, rfl, R⟩
        have R := hide R
        go_wp2
        go_ret2
        exact ⟨_, rfl, R.out⟩
      · have hd : (x / 4294967296 == 0) = false := by simp; omega
        rw [if_neg hlt, if_neg hlt]
        clear hlt A
        go_enter Tryd.func68, Tryd.ntmps68
        go_wp2_with fail
        refine (C.out _).mono ?_
        rintro e w' ⟨rfl, rfl⟩
        go_wp2
        go_ret2
        exact ⟨_, rfl, Own.nil _ _, Below.refl _ _⟩
    · clear hw
      have e : (256 : Int) ^ (Int.toNat 8) = 18446744073709551616 := by decide
      rw [e]
      clear e
      have hlt : x < 18446744073709551616 := hx1
      have hd : x / 18446744073709551616 = 0 := by omega
      have A := hide (A.out 8 (by simp))
      rw [if_pos hlt, if_pos hlt]
      clear hlt
      go_enter Tryd.func68, Tryd.ntmps68
      go_wp2_with fail
      refine (C.out _).mono ?_
      rintro e w' ⟨rfl, rfl⟩
      go_wp2_with fail
      refine A.out.mono ?_
      rintro e w1 ⟨v1, rfl, R⟩
      have R := hide R
      go_wp2
      go_ret2
      exact ⟨_, rfl, R.out⟩
  · have hw : wideB n = false := by simpa using hw
    rw [hw] at C ⊢
    simp only [Bool.false_eq_true, if_false, false_and]
    clear hw
    go_enter Tryd.func68, Tryd.ntmps68
    go_wp2_with fail
    refine (C.out _).mono ?_
    rintro e w' ⟨rfl, rfl⟩
    go_wp2
    go_ret2
    exact ⟨_, rfl, Own.nil _ _, Below.refl _ _⟩
end Go.Proofs.YtjmifgdjmaelfaaDoor
