/-
  What pappusref02.Var and Read answer at this program: the very same as the program's own.
-/
import Derived.Test.YtjmifgdjmaelfaaRefWide
import Derived.Deep.RegionHeld3
namespace Go.Proofs.Ytjmifgdjmaelfaa
open Go.RowKit

set_option maxHeartbeats 2000000 in
theorem rvar_any (w : World) (x : Int) (hx : Word x) :
    Calls Try.prog 55 #[.int .u64 x] w fun e w' => ∃ v', e = .returned v' ∧ Own w' w.heap.size v' (var x) ∧ Below w.heap.size w w' := by
  obtain ⟨hx0, hx1⟩ := id hx
  rcases size_cases x with ⟨h1, -⟩ | ⟨h1, h2, -⟩ | ⟨h1, h2, -⟩ | ⟨h1, -⟩
  · have e : var x = [x] := by
      unfold var
      rw [if_pos h1]
    rw [e]
    clear e
    have hmod : x % 256 = x := by omega
    go_enter Try.func55, Try.ntmps55
    go_wp2
    go_ret
    exact ⟨_, rfl, Own.made1 _ _ (Nat.le_refl _) _, (Below.refl _ _).alloc (Nat.le_refl _) _⟩
  · have e : var x = [253] ++ put 2 x := by
      unfold var
      rw [if_neg (by omega), if_pos (by omega)]
      rfl
    have e2 : putL x 2 = put 2 x := by
      unfold putL
      rw [if_pos ⟨rfl, by simp; omega⟩]
      rfl
    have W := hide (fun w => wide_any 253 w)
    have e3 : behind 253 = 2 := rfl
    rw [e3] at W
    have P := hide (fun w => rput_any x 2 w hx)
    rw [e2] at P
    generalize putE x 2 = pe at *
    rw [e]
    clear e e2 e3 hx
    go_enter Try.func55, Try.ntmps55
    go_wp2_with fail
    refine (W.out _).mono ?_
    rintro e w' ⟨rfl, rfl⟩
    go_wp2_with fail
    refine (P.out _).mono ?_
    rintro e w1 ⟨v1, rfl, hown, hbel⟩
    have HO := hide hown
    have HB := hide hbel
    clear hown hbel
    go_wp2_with (at_builtin; refine wp_append rfl _ _ rfl w'.heap.size _ [253] rfl (Own.made1 _ _ ?c0 _) _ (put 2 x) rfl (HO.out.bytes.alloc _) ?c1 ?c2 ?_)
    case c0 => exact HB.out.size
    case c1 => simp [put_length]
    case c2 => have := HB.out.size; simp; omega
    intro v2 w2 hown2 hbel2
    have R : Hid (Own w2 w'.heap.size v2 ([253] ++ put 2 x) ∧ Below w'.heap.size w' w2) := ⟨hown2, (HB.out.alloc HB.out.size _).trans hbel2⟩
    clear hown2 hbel2
    go_wp2
    go_ret
    exact ⟨_, rfl, R.out⟩
  · have e : var x = [254] ++ put 4 x := by
      unfold var
      rw [if_neg (by omega), if_neg (by omega), if_pos (by omega)]
      rfl
    have e2 : putL x 4 = put 4 x := by
      unfold putL
      rw [if_pos ⟨rfl, by simp; omega⟩]
      rfl
    have W := hide (fun w => wide_any 254 w)
    have e3 : behind 254 = 4 := rfl
    rw [e3] at W
    have P := hide (fun w => rput_any x 4 w hx)
    rw [e2] at P
    generalize putE x 4 = pe at *
    rw [e]
    clear e e2 e3 hx
    go_enter Try.func55, Try.ntmps55
    go_wp2_with fail
    refine (W.out _).mono ?_
    rintro e w' ⟨rfl, rfl⟩
    go_wp2_with fail
    refine (P.out _).mono ?_
    rintro e w1 ⟨v1, rfl, hown, hbel⟩
    have HO := hide hown
    have HB := hide hbel
    clear hown hbel
    go_wp2_with (at_builtin; refine wp_append rfl _ _ rfl w'.heap.size _ [254] rfl (Own.made1 _ _ ?c0 _) _ (put 4 x) rfl (HO.out.bytes.alloc _) ?c1 ?c2 ?_)
    case c0 => exact HB.out.size
    case c1 => simp [put_length]
    case c2 => have := HB.out.size; simp; omega
    intro v2 w2 hown2 hbel2
    have R : Hid (Own w2 w'.heap.size v2 ([254] ++ put 4 x) ∧ Below w'.heap.size w' w2) := ⟨hown2, (HB.out.alloc HB.out.size _).trans hbel2⟩
    clear hown2 hbel2
    go_wp2
    go_ret
    exact ⟨_, rfl, R.out⟩
  · have e : var x = [255] ++ put 8 x := by
      unfold var
      rw [if_neg (by omega), if_neg (by omega), if_neg (by omega)]
      rfl
    have e2 : putL x 8 = put 8 x := by
      unfold putL
      rw [if_pos ⟨rfl, by simp; omega⟩]
      rfl
    have W := hide (fun w => wide_any 255 w)
    have e3 : behind 255 = 8 := rfl
    rw [e3] at W
    have P := hide (fun w => rput_any x 8 w hx)
    rw [e2] at P
    generalize putE x 8 = pe at *
    rw [e]
    clear e e2 e3 hx
    go_enter Try.func55, Try.ntmps55
    go_wp2_with fail
    refine (W.out _).mono ?_
    rintro e w' ⟨rfl, rfl⟩
    go_wp2_with fail
    refine (P.out _).mono ?_
    rintro e w1 ⟨v1, rfl, hown, hbel⟩
    have HO := hide hown
    have HB := hide hbel
    clear hown hbel
    go_wp2_with (at_builtin; refine wp_append rfl _ _ rfl w'.heap.size _ [255] rfl (Own.made1 _ _ ?c0 _) _ (put 8 x) rfl (HO.out.bytes.alloc _) ?c1 ?c2 ?_)
    case c0 => exact HB.out.size
    case c1 => simp [put_length]
    case c2 => have := HB.out.size; simp; omega
    intro v2 w2 hown2 hbel2
    have R : Hid (Own w2 w'.heap.size v2 ([255] ++ put 8 x) ∧ Below w'.heap.size w' w2) := ⟨hown2, (HB.out.alloc HB.out.size _).trans hbel2⟩
    clear hown2 hbel2
    go_wp2
    go_ret
    exact ⟨_, rfl, R.out⟩
end Go.Proofs.Ytjmifgdjmaelfaa
