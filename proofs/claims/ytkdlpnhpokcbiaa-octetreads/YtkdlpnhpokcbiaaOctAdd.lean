/-
  What octet.width, Size, behind, add, addVar, Var and Put answer at this program, whatever the numbers.
-/
import Derived.Test.YtkdlpnhpokcbiaaOwn
namespace Go.Proofs.Ytkdlpnhpokcbiaa
open Go.RowKit

/-- May a number have just n bytes? -/
def wideB (n : Int) : Bool := n == 1 || n == 2 || n == 4 || n == 8
theorem width_any (n : Int) (w : World) : Calls Try.prog 26 #[.int .i64 n] w fun e w' => e = .returned (.bool (wideB n)) ∧ w' = w := by
  rcases (show n = 1 ∨ n = 2 ∨ n = 4 ∨ n = 8 ∨ (n ≠ 1 ∧ n ≠ 2 ∧ n ≠ 4 ∧ n ≠ 8) by omega) with rfl | rfl | rfl | rfl | ⟨h1, h2, h3, h4⟩
  all_goals go_enter Try.func26, Try.ntmps26
  all_goals go_wp2
  all_goals go_ret
  all_goals exact ⟨rfl, rfl⟩

theorem size_any (x : Int) (w : World) : Calls Try.prog 19 #[.int .u64 x] w fun e w' => e = .returned (.int .i64 (size x)) ∧ w' = w := by
  rcases size_cases x with ⟨h1, h⟩ | ⟨h1, h2, h⟩ | ⟨h1, h2, h⟩ | ⟨h1, h⟩
  all_goals rw [h]
  all_goals clear h
  · go_enter Try.func19, Try.ntmps19
    go_wp2
    go_ret
    exact ⟨rfl, rfl⟩
  · have h3 : ¬ x < 253 := by omega
    go_enter Try.func19, Try.ntmps19
    go_wp2
    go_ret
    exact ⟨rfl, rfl⟩
  · have h3 : ¬ x < 253 := by omega
    have h4 : ¬ x ≤ 65535 := by omega
    go_enter Try.func19, Try.ntmps19
    go_wp2
    go_ret
    exact ⟨rfl, rfl⟩
  · have h3 : ¬ x < 253 := by omega
    have h4 : ¬ x ≤ 65535 := by omega
    have h5 : ¬ x ≤ 4294967295 := by omega
    go_enter Try.func19, Try.ntmps19
    go_wp2
    go_ret
    exact ⟨rfl, rfl⟩

theorem behind_any (c : Int) (w : World) : Calls Try.prog 30 #[.int .u8 c] w fun e w' => e = .returned (.int .i64 (behind c)) ∧ w' = w := by
  rcases behind_cases c with ⟨rfl, h⟩ | ⟨rfl, h⟩ | ⟨rfl, h⟩ | ⟨h1, h2, h3, h⟩
  all_goals rw [h]
  all_goals clear h
  all_goals go_enter Try.func30, Try.ntmps30
  all_goals go_wp2
  all_goals go_ret
  all_goals exact ⟨rfl, rfl⟩

/-- What holds at the head of a round of add. -/
def Adding (w : World) (base : Nat) (l : List Int) (x : Int) (n : Nat) (v xv i : Value) (wr : World) : Prop :=
  ∃ (k m : Nat) (y : Int) (l' : List Int), k + m = n ∧ i = .int .i64 k ∧ xv = .int .u64 y ∧ Word y ∧ Own wr base v l' ∧ l'.length + m = l.length + n ∧ l' ++ put m y = l ++ put n x ∧ Below base w wr

set_option maxHeartbeats 1000000 in
theorem add_any (w : World) (base : Nat) (v : Value) (l : List Int) (x : Int) (n : Nat) (hx : Word x) (hown : Own w base v l) (hb : base ≤ w.heap.size) (hn : l.length + n ≤ 900000) :
    Calls Try.prog 27 #[v, .int .u64 x, .int .i64 n] w fun e w' => ∃ v', e = .returned v' ∧ Own w' base v' (l ++ put n x) ∧ Below base w w' := by
  have HO := hide hown
  have HX := hide hx
  clear hown hx
  go_enter Try.func27, Try.ntmps27
  go_wp2_with fail
  go_loopw [0, 1, 8] (fun v xv i wr => Adding w base l x n v xv i wr) (fun _ _ i _ => n - (intOf i).toNat)
  case atStart => exact ⟨0, n, x, l, by omega, rfl, rfl, HX.out, HO.out, rfl, rfl, Below.refl _ _⟩
  case round =>
    obtain ⟨k, m, y, l', hkm, rfl, rfl, ⟨hy0, hy1⟩, hown, hlen, heq, hbel⟩ := hrel
    have HO := hide hown
    have HE := hide heq
    have HL := hide hlen
    have HB := hide hbel
    clear hown heq hlen hbel
    by_cases hlt : k < n
    · obtain ⟨m, rfl⟩ : ∃ j, m = j + 1 := ⟨m - 1, by omega⟩
      go_wp2_with (at_builtin; refine wp_append rfl _ _ rfl base _ l' rfl (HO.out.alloc _) _ [y % 256] rfl (Bytes.one _ _) ?c1 ?c2 ?_)
      case c1 => have := HL.out; simp; omega
      case c2 => have := HB.out.size; simp; omega
      intro v' w' hown' hbel'
      have R : Hid (Adding w base l x n v' (.int .u64 (y / 256)) (.int .i64 (k + 1 : Nat)) w') := by
        refine ⟨k + 1, m, y / 256, l' ++ [y % 256], by omega, rfl, rfl, ⟨by omega, by omega⟩, hown', by have := HL.out; simp; omega, ?_, (HB.out.alloc (by have := HB.out.size; omega) _).trans hbel'⟩
        rw [← HE.out]
        simp [put]
      clear hown' hbel'
      go_wp2
      go_roundw
      case rel => exact R.out
      case measure => simp [intOf]; omega
    · obtain rfl : m = 0 := by omega
      go_wp2
      go_ret
      refine ⟨_, rfl, ?_, HB.out⟩
      have h := HE.out
      simp only [put, List.append_nil] at h
      rw [← h]
      exact HO.out

set_option maxHeartbeats 1000000 in
theorem addVar_any (w : World) (base : Nat) (v : Value) (l : List Int) (x : Int) (hx : Word x) (hown : Own w base v l) (hb : base ≤ w.heap.size) (hn : l.length + 9 ≤ 900000) :
    Calls Try.prog 29 #[v, .int .u64 x] w fun e w' => ∃ v', e = .returned v' ∧ Own w' base v' (l ++ var x) ∧ Below base w w' := by
  have HO := hide hown
  clear hown
  rcases size_cases x with ⟨h1, h⟩ | ⟨h1, h2, h⟩ | ⟨h1, h2, h⟩ | ⟨h1, h⟩
  all_goals
    have C := hide (fun w => size_any x w)
    rw [h] at C
    clear h
  · have e : var x = [x] := by
      unfold var
      rw [if_pos h1]
    rw [e]
    clear e
    obtain ⟨hx0, hx1⟩ := hx
    have hmod : x % 256 = x := by omega
    go_enter Try.func29, Try.ntmps29
    go_wp2_with fail
    refine (C.out _).mono ?_
    rintro e w' ⟨rfl, rfl⟩
    go_wp2_with (at_builtin; refine wp_append rfl _ _ rfl base _ l rfl (HO.out.alloc _) _ [x] rfl (Bytes.one _ _) ?c1 ?c2 ?_)
    case c1 => simp; omega
    case c2 => simp; omega
    intro v1 w1 hown1 hbel1
    have R : Hid (Own w1 base v1 (l ++ [x]) ∧ Below base w' w1) := ⟨hown1, ((Below.refl base _).alloc hb _).trans hbel1⟩
    clear hown1 hbel1
    go_wp2
    go_ret
    exact ⟨_, rfl, R.out⟩
  · have e : var x = 253 :: put 2 x := by
      unfold var
      rw [if_neg (by omega), if_pos (by omega)]
    rw [e]
    clear e
    have HA := hide (fun w v h hb => add_any w base v (l ++ [253]) x 2 hx h hb (by simp; omega))
    clear hx
    go_enter Try.func29, Try.ntmps29
    go_wp2_with fail
    refine (C.out _).mono ?_
    rintro e w' ⟨rfl, rfl⟩
    go_wp2_with (at_builtin; refine wp_append rfl _ _ rfl base _ l rfl (HO.out.alloc _) _ [253] rfl (Bytes.one _ _) ?c1 ?c2 ?_)
    case c1 => simp; omega
    case c2 => simp; omega
    intro v1 w1 hown1 hbel1
    have H1 := hide hown1
    have HB : Hid (Below base w' w1) := ((Below.refl base _).alloc hb _).trans hbel1
    clear hown1 hbel1
    go_wp2_with fail
    refine (HA.out _ _ H1.out (Nat.le_trans hb HB.out.size)).mono ?_
    rintro e w2 ⟨v2, rfl, hown2, hbel2⟩
    have R : Hid (Own w2 base v2 (l ++ 253 :: put 2 x) ∧ Below base w' w2) := ⟨by rw [List.append_cons]; exact hown2, HB.out.trans hbel2⟩
    clear hown2 hbel2
    go_wp2
    go_ret
    exact ⟨_, rfl, R.out⟩
  · have e : var x = 254 :: put 4 x := by
      unfold var
      rw [if_neg (by omega), if_neg (by omega), if_pos (by omega)]
    rw [e]
    clear e
    have HA := hide (fun w v h hb => add_any w base v (l ++ [254]) x 4 hx h hb (by simp; omega))
    clear hx
    go_enter Try.func29, Try.ntmps29
    go_wp2_with fail
    refine (C.out _).mono ?_
    rintro e w' ⟨rfl, rfl⟩
    go_wp2_with (at_builtin; refine wp_append rfl _ _ rfl base _ l rfl (HO.out.alloc _) _ [254] rfl (Bytes.one _ _) ?c1 ?c2 ?_)
    case c1 => simp; omega
    case c2 => simp; omega
    intro v1 w1 hown1 hbel1
    have H1 := hide hown1
    have HB : Hid (Below base w' w1) := ((Below.refl base _).alloc hb _).trans hbel1
    clear hown1 hbel1
    go_wp2_with fail
    refine (HA.out _ _ H1.out (Nat.le_trans hb HB.out.size)).mono ?_
    rintro e w2 ⟨v2, rfl, hown2, hbel2⟩
    have R : Hid (Own w2 base v2 (l ++ 254 :: put 4 x) ∧ Below base w' w2) := ⟨by rw [List.append_cons]; exact hown2, HB.out.trans hbel2⟩
    clear hown2 hbel2
    go_wp2
    go_ret
    exact ⟨_, rfl, R.out⟩
  · have e : var x = 255 :: put 8 x := by
      unfold var
      rw [if_neg (by omega), if_neg (by omega), if_neg (by omega)]
    rw [e]
    clear e
    have HA := hide (fun w v h hb => add_any w base v (l ++ [255]) x 8 hx h hb (by simp; omega))
    clear hx
    go_enter Try.func29, Try.ntmps29
    go_wp2_with fail
    refine (C.out _).mono ?_
    rintro e w' ⟨rfl, rfl⟩
    go_wp2_with (at_builtin; refine wp_append rfl _ _ rfl base _ l rfl (HO.out.alloc _) _ [255] rfl (Bytes.one _ _) ?c1 ?c2 ?_)
    case c1 => simp; omega
    case c2 => simp; omega
    intro v1 w1 hown1 hbel1
    have H1 := hide hown1
    have HB : Hid (Below base w' w1) := ((Below.refl base _).alloc hb _).trans hbel1
    clear hown1 hbel1
    go_wp2_with fail
    refine (HA.out _ _ H1.out (Nat.le_trans hb HB.out.size)).mono ?_
    rintro e w2 ⟨v2, rfl, hown2, hbel2⟩
    have R : Hid (Own w2 base v2 (l ++ 255 :: put 8 x) ∧ Below base w' w2) := ⟨by rw [List.append_cons]; exact hown2, HB.out.trans hbel2⟩
    clear hown2 hbel2
    go_wp2
    go_ret
    exact ⟨_, rfl, R.out⟩

theorem octVar_any (w : World) (x : Int) (hx : Word x) :
    Calls Try.prog 15 #[.int .u64 x] w fun e w' => ∃ v', e = .returned v' ∧ Own w' w.heap.size v' (var x) ∧ Below w.heap.size w w' := by
  have C := hide (addVar_any w w.heap.size (.slice none 0 0) [] x hx (Own.nil _ _) (Nat.le_refl _) (by simp))
  rw [List.nil_append] at C
  go_enter Try.func15, Try.ntmps15
  go_wp2_with fail
  refine C.out.mono ?_
  rintro e w' ⟨v', rfl, R⟩
  have R := hide R
  go_wp2
  go_ret
  exact ⟨_, rfl, R.out⟩

/-- What Put answers: the bytes, and the word for how it went. -/
def putL (x n : Int) : List Int := if wideB n = true ∧ x < 256 ^ n.toNat then put n.toNat x else []
def putE (x n : Int) : Int := if wideB n = true then (if x < 256 ^ n.toNat then 0 else 3) else 2
theorem wide_cases {n : Int} (h : wideB n = true) : n = 1 ∨ n = 2 ∨ n = 4 ∨ n = 8 := by
  simp [wideB] at h
  omega
end Go.Proofs.Ytkdlpnhpokcbiaa
