/-
  What octet.width, Size, behind, add, addVar, Var and Put answer at this program, whatever the numbers.
-/
import Derived.Test.YtbeegcpmpgdbnabDoorOctW
namespace Go.Proofs.YtbeegcpmpgdbnabDoor
open Go.RowKit

theorem size_any (x : Int) (w : World) : Calls Tryd.prog 65 #[.int .u64 x] w fun e w' => e = .returned (.int .i64 (size x)) ∧ w' = w := by
  rcases size_cases x with ⟨h1, h⟩ | ⟨h1, h2, h⟩ | ⟨h1, h2, h⟩ | ⟨h1, h⟩
  all_goals rw [h]
  all_goals clear h
  · go_enter Tryd.func65, Tryd.ntmps65
    go_wp2
    go_ret
    exact ⟨rfl, rfl⟩
  · have h3 : ¬ x < 253 := by omega
    go_enter Tryd.func65, Tryd.ntmps65
    go_wp2
    go_ret
    exact ⟨rfl, rfl⟩
  · have h3 : ¬ x < 253 := by omega
    have h4 : ¬ x ≤ 65535 := by omega
    go_enter Tryd.func65, Tryd.ntmps65
    go_wp2
    go_ret
    exact ⟨rfl, rfl⟩
  · have h3 : ¬ x < 253 := by omega
    have h4 : ¬ x ≤ 65535 := by omega
    have h5 : ¬ x ≤ 4294967295 := by omega
    go_enter Tryd.func65, Tryd.ntmps65
    go_wp2
    go_ret
    exact ⟨rfl, rfl⟩
set_option maxHeartbeats 1000000 in
theorem addVar_any (w : World) (base : Nat) (v : Value) (l : List Int) (x : Int) (hx : Word x) (hown : Own w base v l) (hb : base ≤ w.heap.size) (hn : l.length + 9 ≤ 900000) :
    Calls Tryd.prog 60 #[v, .int .u64 x] w fun e w' => ∃ v', e = .returned v' ∧ Own w' base v' (l ++ var x) ∧ Below base w w' := by
  have HO := hide hown
  clear hown
  rcases size_cases x with ⟨h1, h⟩ | ⟨h1, h2, h⟩ | ⟨h1, h2, h⟩ | ⟨h1, h⟩
  all_goals
    have C := hide (fun w => size_any x w)
    rw [h] at C
    clear h
  · have e : var x = [x] := by
      unfold var
      rw [if_pos h1]
    rw [e]
    clear e
    obtain ⟨hx0, hx1⟩ := hx
    have hmod : x % 256 = x := by omega
    go_enter Tryd.func60, Tryd.ntmps60
    go_wp2_with fail
    refine (C.out _).mono ?_
    rintro e w' ⟨rfl, rfl⟩
    go_wp2_with (at_builtin; refine wp_append rfl _ _ rfl base _ l rfl (HO.out.alloc _) _ [x] rfl (Bytes.one _ _) ?c1 ?c2 ?_)
    case c1 => simp; omega
    case c2 => simp; omega
    intro v1 w1 hown1 hbel1
    have R : Hid (Own w1 base v1 (l ++ [x]) ∧ Below base w' w1) := ⟨hown1, ((Below.refl base _).alloc hb _).trans hbel1⟩
    clear hown1 hbel1
    go_wp2
    go_ret
    exact ⟨_, rfl, R.out⟩
  · have e : var x = 253 :: put 2 x := by
      unfold var
      rw [if_neg (by omega), if_pos (by omega)]
    rw [e]
    clear e
    have HA := hide (fun w v h hb => add_any w base v (l ++ [253]) x 2 hx h hb (by simp; omega))
    clear hx
    go_enter Tryd.func60, Tryd.ntmps60
    go_wp2_with fail
    refine (C.out _).mono ?_
    rintro e w' ⟨rfl, rfl⟩
    go_wp2_with (at_builtin; refine wp_append rfl _ _ rfl base _ l rfl (HO.out.alloc _) _ [253] rfl (Bytes.one _ _) ?c1 ?c2 ?_)
    case c1 => simp; omega
    case c2 => simp; omega
    intro v1 w1 hown1 hbel1
    have H1 := hide hown1
    have HB : Hid (Below base w' w1) := ((Below.refl base _).alloc hb _).trans hbel1
    clear hown1 hbel1
    go_wp2_with fail
    refine (HA.out _ _ H1.out (Nat.le_trans hb HB.out.size)).mono ?_
    rintro e w2 ⟨v2, rfl, hown2, hbel2⟩
    have R : Hid (Own w2 base v2 (l ++ 253 :: put 2 x) ∧ Below base w' w2) := ⟨by rw [List.append_cons]; exact hown2, HB.out.trans hbel2⟩
    clear hown2 hbel2
    go_wp2
    go_ret
    exact ⟨_, rfl, R.out⟩
  · have e : var x = 254 :: put 4 x := by
      unfold var
      rw [if_neg (by omega), if_neg (by omega), if_pos (by omega)]
    rw [e]
    clear e
    have HA := hide (fun w v h hb => add_any w base v (l ++ [254]) x 4 hx h hb (by simp; omega))
    clear hx
    go_enter Tryd.func60, Tryd.ntmps60
    go_wp2_with fail
    refine (C.out _).mono ?_
    rintro e w' ⟨rfl, rfl⟩
    go_wp2_with (at_builtin; refine wp_append rfl _ _ rfl base _ l rfl (HO.out.alloc _) _ [254] rfl (Bytes.one _ _) ?c1 ?c2 ?_)
    case c1 => simp; omega
    case c2 => simp; omega
    intro v1 w1 hown1 hbel1
    have H1 := hide hown1
    have HB : Hid (Below base w' w1) := ((Below.refl base _).alloc hb _).trans hbel1
    clear hown1 hbel1
    go_wp2_with fail
    refine (HA.out _ _ H1.out (Nat.le_trans hb HB.out.size)).mono ?_
    rintro e w2 ⟨v2, rfl, hown2, hbel2⟩
    have R : Hid (Own w2 base v2 (l ++ 254 :: put 4 x) ∧ Below base w' w2) := ⟨by rw [List.append_cons]; exact hown2, HB.out.trans hbel2⟩
    clear hown2 hbel2
    go_wp2
    go_ret
    exact ⟨_, rfl, R.out⟩
  · have e : var x = 255 :: put 8 x := by
      unfold var
      rw [if_neg (by omega), if_neg (by omega), if_neg (by omega)]
    rw [e]
    clear e
    have HA := hide (fun w v h hb => add_any w base v (l ++ [255]) x 8 hx h hb (by simp; omega))
    clear hx
    go_enter Tryd.func60, Tryd.ntmps60
    go_wp2_with fail
    refine (C.out _).mono ?_
    rintro e w' ⟨rfl, rfl⟩
    go_wp2_with (at_builtin; refine wp_append rfl _ _ rfl base _ l rfl (HO.out.alloc _) _ [255] rfl (Bytes.one _ _) ?c1 ?c2 ?_)
    case c1 => simp; omega
    case c2 => simp; omega
    intro v1 w1 hown1 hbel1
    have H1 := hide hown1
    have HB : Hid (Below base w' w1) := ((Below.refl base _).alloc hb _).trans hbel1
    clear hown1 hbel1
    go_wp2_with fail
    refine (HA.out _ _ H1.out (Nat.le_trans hb HB.out.size)).mono ?_
    rintro e w2 ⟨v2, rfl, hown2, hbel2⟩
    have R : Hid (Own w2 base v2 (l ++ 255 :: put 8 x) ∧ Below base w' w2) := ⟨by rw [List.append_cons]; exact hown2, HB.out.trans hbel2⟩
    clear hown2 hbel2
    go_wp2
    go_ret
    exact ⟨_, rfl, R.out⟩
theorem octVar_any (w : World) (x : Int) (hx : Word x) :
    Calls Tryd.prog 48 #[.int .u64 x] w fun e w' => ∃ v', e = .returned v' ∧ Own w' w.heap.size v' (var x) ∧ Below w.heap.size w w' := by
  have C := hide (addVar_any w w.heap.size (.slice none 0 0) [] x hx (Own.nil _ _) (Nat.le_refl _) (by simp))
  rw [List.nil_append] at C
  go_enter Tryd.func48, Tryd.ntmps48
  go_wp2_with fail
  refine C.out.mono ?_
  rintro e w' ⟨v', rfl, R⟩
  have R := hide R
  go_wp2
  go_ret
  exact ⟨_, rfl, R.out⟩

end Go.Proofs.YtbeegcpmpgdbnabDoor
