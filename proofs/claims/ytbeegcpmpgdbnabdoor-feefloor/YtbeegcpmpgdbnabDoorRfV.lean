import Derived.Test.YtbeegcpmpgdbnabDoorOctPutP
import Derived.Test.YtbeegcpmpgdbnabDoorKit
import Derived.Deep.RegionHeld3
/-
  What pappusref02.Put answers at this program: the very same as the program's own.
-/
namespace Go.Proofs.YtbeegcpmpgdbnabDoor
open Go.RowKit

/-- What holds at the head of a round of Put. -/
def OPutting (w : World) (x : Int) (n : Nat) (xv v i : Value) (wr : World) : Prop :=
  ∃ (k m : Nat) (y : Int) (l' : List Int), k + m = n ∧ i = .int .i64 k ∧ xv = .int .u64 y ∧ Word y ∧ Own wr w.heap.size v l' ∧ l'.length = k ∧ l' ++ put m y = put n x ∧ y = x / 256 ^ k ∧ Below w.heap.size w wr
theorem pow_next (x : Int) (k : Nat) : x / 256 ^ k / 256 = x / 256 ^ (k + 1) := by
  have h : ¬ ((256 : Int) ^ k < 0) := by
    have := Int.pow_pos (n := 256) (m := k) (by omega)
    omega
  rw [Int.ediv_ediv, if_neg (fun q => h q.1), Int.pow_succ]
  omega
/-- What Put comes to. -/
def OPutDone (w : World) (x : Int) (n : Nat) (e : Ending) (w' : World) : Prop :=
  ∃ v', e = .returned (.tuple #[v', .int .i64 (putE x n)]) ∧ Own w' w.heap.size v' (putL x n) ∧ Below w.heap.size w w'
theorem putDone_fits {w w' : World} {x : Int} {n : Nat} {v : Value} (hx : 0 ≤ x) (hw : wideB n = true) (h : x / 256 ^ n = 0) (ho : Own w' w.heap.size v (put n x)) (hb : Below w.heap.size w w') :
    OPutDone w x n (.returned (.tuple #[v, .int .i64 0])) w' := by
  have e : ((n : Int)).toNat = n := by simp
  have h' := (put_rest n x hx).1 h
  unfold OPutDone putE putL
  rw [hw, e]
  simp only [true_and, if_true, if_pos h']
  exact ⟨v, rfl, ho, hb⟩
theorem putDone_over {w w' : World} {x : Int} {n : Nat} (hx : 0 ≤ x) (hw : wideB n = true) (h : ¬ x / 256 ^ n = 0) (hb : Below w.heap.size w w') :
    OPutDone w x n (.returned (.tuple #[.slice none 0 0, .int .i64 3])) w' := by
  have e : ((n : Int)).toNat = n := by simp
  have h' : ¬ x < 256 ^ n := fun q => h ((put_rest n x hx).2 q)
  unfold OPutDone putE putL
  rw [hw, e]
  simp only [true_and, if_true, if_neg h']
  exact ⟨_, rfl, Own.nil _ _, hb⟩

set_option maxHeartbeats 4000000 in
theorem rput_wide (x : Int) (n : Nat) (w : World) (hx : Word x) (hn : n = 1 ∨ n = 2 ∨ n = 4 ∨ n = 8) :
    Calls Tryd.prog 49 #[.int .u64 x, .int .i64 n] w fun e w' => OPutDone w x n e w' := by
  have HX := hide hx
  have HW : Hid (wideB n = true) := by rcases hn with rfl | rfl | rfl | rfl <;> rfl
  clear hx
  rcases hn with rfl | rfl | rfl | rfl
  · go_enter Tryd.func49, Tryd.ntmps49
    go_wp2_with fail
    go_loopw [0, 6, 22] (fun xv v i wr => OPutting w x 1 xv v i wr) (fun _ _ i _ => 1 - (intOf i).toNat)
    case atStart => exact ⟨0, 1, x, [], by omega, rfl, rfl, HX.out, Own.nil _ _, rfl, rfl, by simp, Below.refl _ _⟩
    case round =>
      obtain ⟨k, m, y, l', hkm, rfl, rfl, ⟨hy0, hy1⟩, hown, hlen, heq, hdiv, hbel⟩ := hrel
      have HO := hide hown
      have HE := hide heq
      have HL := hide hlen
      have HB := hide hbel
      have HD := hide hdiv
      clear hown heq hlen hbel hdiv
      by_cases hlt : k < 1
      · obtain ⟨m, rfl⟩ : ∃ j, m = j + 1 := ⟨m - 1, by omega⟩
        have ht : y.tmod 256 = y % 256 := Int.tmod_eq_emod_of_nonneg hy0
        have hq : y.tdiv 256 = y / 256 := Int.tdiv_eq_ediv_of_nonneg hy0
        go_wp2_with (at_builtin; refine wp_append rfl _ _ rfl w.heap.size _ l' rfl (HO.out.alloc _) _ [y % 256] rfl (Bytes.one _ _) ?c1 ?c2 ?_)
        case c1 => have := HL.out; simp; omega
        case c2 => have := HB.out.size; simp; omega
        intro v' w' hown' hbel'
        have R : Hid (OPutting w x 1 (.int .u64 (y / 256)) v' (.int .i64 (k + 1 : Nat)) w') := by
          refine ⟨k + 1, m, y / 256, l' ++ [y % 256], by omega, rfl, rfl, ⟨by omega, by omega⟩, hown', by have := HL.out; simp; omega, ?_, ?_, (HB.out.alloc (by have := HB.out.size; omega) _).trans hbel'⟩
          · rw [← HE.out]
            simp [put]
          · rw [HD.out, pow_next]
        clear hown' hbel'
        go_wp2
        go_roundw
        case rel => first | exact R.out | ((repeat apply Exists.intro); exact ⟨R.out, rfl⟩)
        case measure => first | (simp [intOf]; done) | (simp [intOf]; omega)
      · obtain rfl : m = 0 := by omega
        obtain rfl : k = 1 := by omega
        have h := HE.out
        simp only [put, List.append_nil] at h
        by_cases hy : y = 0
        · have R := hide (putDone_fits HX.out.1 HW.out (HD.out.symm.trans hy) (h ▸ HO.out) HB.out)
          subst hy
          clear h
          go_wp2
          go_ret2
          exact R.out
        · have R := hide (putDone_over HX.out.1 HW.out (fun q => hy (HD.out.trans q)) HB.out)
          have hy' : (0 : Int) < y := by omega
          clear h
          go_wp2
          go_ret2
          exact R.out
  · go_enter Tryd.func49, Tryd.ntmps49
    go_wp2_with fail
    go_loopw [0, 6, 22] (fun xv v i wr => OPutting w x 2 xv v i wr) (fun _ _ i _ => 2 - (intOf i).toNat)
    case atStart => exact ⟨0, 2, x, [], by omega, rfl, rfl, HX.out, Own.nil _ _, rfl, rfl, by simp, Below.refl _ _⟩
    case round =>
      obtain ⟨k, m, y, l', hkm, rfl, rfl, ⟨hy0, hy1⟩, hown, hlen, heq, hdiv, hbel⟩ := hrel
      have HO := hide hown
      have HE := hide heq
      have HL := hide hlen
      have HB := hide hbel
      have HD := hide hdiv
      clear hown heq hlen hbel hdiv
      by_cases hlt : k < 2
      · obtain ⟨m, rfl⟩ : ∃ j, m = j + 1 := ⟨m - 1, by omega⟩
        have ht : y.tmod 256 = y % 256 := Int.tmod_eq_emod_of_nonneg hy0
        have hq : y.tdiv 256 = y / 256 := Int.tdiv_eq_ediv_of_nonneg hy0
        go_wp2_with (at_builtin; refine wp_append rfl _ _ rfl w.heap.size _ l' rfl (HO.out.alloc _) _ [y % 256] rfl (Bytes.one _ _) ?c1 ?c2 ?_)
        case c1 => have := HL.out; simp; omega
        case c2 => have := HB.out.size; simp; omega
        intro v' w' hown' hbel'
        have R : Hid (OPutting w x 2 (.int .u64 (y / 256)) v' (.int .i64 (k + 1 : Nat)) w') := by
          refine ⟨k + 1, m, y / 256, l' ++ [y % 256], by omega, rfl, rfl, ⟨by omega, by omega⟩, hown', by have := HL.out; simp; omega, ?_, ?_, (HB.out.alloc (by have := HB.out.size; omega) _).trans hbel'⟩
          · rw [← HE.out]
            simp [put]
          · rw [HD.out, pow_next]
        clear hown' hbel'
        go_wp2
        go_roundw
        case rel => first | exact R.out | ((repeat apply Exists.intro); exact ⟨R.out, rfl⟩)
        case measure => first | (simp [intOf]; done) | (simp [intOf]; omega)
      · obtain rfl : m = 0 := by omega
        obtain rfl : k = 2 := by omega
        have h := HE.out
        simp only [put, List.append_nil] at h
        by_cases hy : y = 0
        · have R := hide (putDone_fits HX.out.1 HW.out (HD.out.symm.trans hy) (h ▸ HO.out) HB.out)
          subst hy
          clear h
          go_wp2
          go_ret2
          exact R.out
        · have R := hide (putDone_over HX.out.1 HW.out (fun q => hy (HD.out.trans q)) HB.out)
          have hy' : (0 : Int) < y := by omega
          clear h
          go_wp2
          go_ret2
          exact R.out
  · go_enter Tryd.func49, Tryd.ntmps49
    go_wp2_with fail
    go_loopw [0, 6, 22] (fun xv v i wr => OPutting w x 4 xv v i wr) (fun _ _ i _ => 4 - (intOf i).toNat)
    case atStart => exact ⟨0, 4, x, [], by omega, rfl, rfl, HX.out, Own.nil _ _, rfl, rfl, by simp, Below.refl _ _⟩
    case round =>
      obtain ⟨k, m, y, l', hkm, rfl, rfl, ⟨hy0, hy1⟩, hown, hlen, heq, hdiv, hbel⟩ := hrel
      have HO := hide hown
      have HE := hide heq
      have HL := hide hlen
      have HB := hide hbel
      have HD := hide hdiv
      clear hown heq hlen hbel hdiv
      by_cases hlt : k < 4
      · obtain ⟨m, rfl⟩ : ∃ j, m = j + 1 := ⟨m - 1, by omega⟩
        have ht : y.tmod 256 = y % 256 := Int.tmod_eq_emod_of_nonneg hy0
        have hq : y.tdiv 256 = y / 256 := Int.tdiv_eq_ediv_of_nonneg hy0
        go_wp2_with (at_builtin; refine wp_append rfl _ _ rfl w.heap.size _ l' rfl (HO.out.alloc _) _ [y % 256] rfl (Bytes.one _ _) ?c1 ?c2 ?_)
        case c1 => have := HL.out; simp; omega
        case c2 => have := HB.out.size; simp; omega
        intro v' w' hown' hbel'
        have R : Hid (OPutting w x 4 (.int .u64 (y / 256)) v' (.int .i64 (k + 1 : Nat)) w') := by
          refine ⟨k + 1, m, y / 256, l' ++ [y % 256], by omega, rfl, rfl, ⟨by omega, by omega⟩, hown', by have := HL.out; simp; omega, ?_, ?_, (HB.out.alloc (by have := HB.out.size; omega) _).trans hbel'⟩
          · rw [← HE.out]
            simp [put]
          · rw [HD.out, pow_next]
        clear hown' hbel'
        go_wp2
        go_roundw
        case rel => first | exact R.out | ((repeat apply Exists.intro); exact ⟨R.out, rfl⟩)
        case measure => first | (simp [intOf]; done) | (simp [intOf]; omega)
      · obtain rfl : m = 0 := by omega
        obtain rfl : k = 4 := by omega
        have h := HE.out
        simp only [put, List.append_nil] at h
        by_cases hy : y = 0
        · have R := hide (putDone_fits HX.out.1 HW.out (HD.out.symm.trans hy) (h ▸ HO.out) HB.out)
          subst hy
          clear h
          go_wp2
          go_ret2
          exact R.out
        · have R := hide (putDone_over HX.out.1 HW.out (fun q => hy (HD.out.trans q)) HB.out)
          have hy' : (0 : Int) < y := by omega
          clear h
          go_wp2
          go_ret2
          exact R.out
  · go_enter Tryd.func49, Tryd.ntmps49
    go_wp2_with fail
    go_loopw [0, 6, 22] (fun xv v i wr => OPutting w x 8 xv v i wr) (fun _ _ i _ => 8 - (intOf i).toNat)
    case atStart => exact ⟨0, 8, x, [], by omega, rfl, rfl, HX.out, Own.nil _ _, rfl, rfl, by simp, Below.refl _ _⟩
    case round =>
      obtain ⟨k, m, y, l', hkm, rfl, rfl, ⟨hy0, hy1⟩, hown, hlen, heq, hdiv, hbel⟩ := hrel
      have HO := hide hown
      have HE := hide heq
      have HL := hide hlen
      have HB := hide hbel
      have HD := hide hdiv
      clear hown heq hlen hbel hdiv
      by_cases hlt : k < 8
      · obtain ⟨m, rfl⟩ : ∃ j, m = j + 1 := ⟨m - 1, by omega⟩
        have ht : y.tmod 256 = y % 256 := Int.tmod_eq_emod_of_nonneg hy0
        have hq : y.tdiv 256 = y / 256 := Int.tdiv_eq_ediv_of_nonneg hy0
        go_wp2_with (at_builtin; refine wp_append rfl _ _ rfl w.heap.size _ l' rfl (HO.out.alloc _) _ [y % 256] rfl (Bytes.one _ _) ?c1 ?c2 ?_)
        case c1 => have := HL.out; simp; omega
        case c2 => have := HB.out.size; simp; omega
        intro v' w' hown' hbel'
        have R : Hid (OPutting w x 8 (.int .u64 (y / 256)) v' (.int .i64 (k + 1 : Nat)) w') := by
          refine ⟨k + 1, m, y / 256, l' ++ [y % 256], by omega, rfl, rfl, ⟨by omega, by omega⟩, hown', by have := HL.out; simp; omega, ?_, ?_, (HB.out.alloc (by have := HB.out.size; omega) _).trans hbel'⟩
          · rw [← HE.out]
            simp [put]
          · rw [HD.out, pow_next]
        clear hown' hbel'
        go_wp2
        go_roundw
        case rel => first | exact R.out | ((repeat apply Exists.intro); exact ⟨R.out, rfl⟩)
        case measure => first | (simp [intOf]; done) | (simp [intOf]; omega)
      · obtain rfl : m = 0 := by omega
        obtain rfl : k = 8 := by omega
        have h := HE.out
        simp only [put, List.append_nil] at h
        by_cases hy : y = 0
        · have R := hide (putDone_fits HX.out.1 HW.out (HD.out.symm.trans hy) (h ▸ HO.out) HB.out)
          subst hy
          clear h
          go_wp2
          go_ret2
          exact R.out
        · have R := hide (putDone_over HX.out.1 HW.out (fun q => hy (HD.out.trans q)) HB.out)
          have hy' : (0 : Int) < y := by omega
          clear h
          go_wp2
          go_ret2
          exact R.out

theorem rput_any (x n : Int) (w : World) (hx : Word x) :
    Calls Tryd.prog 49 #[.int .u64 x, .int .i64 n] w fun e w' => ∃ v', e = .returned (.tuple #[v', .int .i64 (putE x n)]) ∧ Own w' w.heap.size v' (putL x n) ∧ Below w.heap.size w w' := by
  rcases (show n = 1 ∨ n = 2 ∨ n = 4 ∨ n = 8 ∨ (n ≠ 1 ∧ n ≠ 2 ∧ n ≠ 4 ∧ n ≠ 8) by omega) with rfl | rfl | rfl | rfl | ⟨h1, h2, h3, h4⟩
  · exact rput_wide x 1 w hx (by omega)
  · exact rput_wide x 2 w hx (by omega)
  · exact rput_wide x 4 w hx (by omega)
  · exact rput_wide x 8 w hx (by omega)
  · have hw : wideB n = false := by simp [wideB, h1, h2, h3, h4]
    have h1' : (n != 1) = true := by simpa using h1
    have h2' : (n != 2) = true := by simpa using h2
    have h3' : (n != 4) = true := by simpa using h3
    have h4' : (n != 8) = true := by simpa using h4
    unfold putE putL
    rw [hw]
    simp only [Bool.false_eq_true, if_false, false_and]
    clear hw h1 h2 h3 h4
    go_enter Tryd.func49, Tryd.ntmps49
    go_wp2
    go_ret2
    exact ⟨_, rfl, Own.nil _ _, Below.refl _ _⟩

end Go.Proofs.YtbeegcpmpgdbnabDoor

/-
  What pappusref02.wide answers at this program.
-/
namespace Go.Proofs.YtbeegcpmpgdbnabDoor
open Go.RowKit

theorem wide_any (c : Int) (w : World) : Calls Tryd.prog 50 #[.int .u8 c] w fun e w' => e = .returned (.int .i64 (behind c)) ∧ w' = w := by
  rcases behind_cases c with ⟨rfl, h⟩ | ⟨rfl, h⟩ | ⟨rfl, h⟩ | ⟨h1, h2, h3, h⟩
  all_goals rw [h]
  all_goals clear h
  all_goals go_enter Tryd.func50, Tryd.ntmps50
  all_goals go_wp2
  all_goals go_ret
  all_goals exact ⟨rfl, rfl⟩

end Go.Proofs.YtbeegcpmpgdbnabDoor

/-
  What pappusref02.Var and Read answer at this program: the very same as the program's own.
-/
namespace Go.Proofs.YtbeegcpmpgdbnabDoor
open Go.RowKit

set_option maxHeartbeats 2000000 in
theorem rvar_any (w : World) (x : Int) (hx : Word x) :
    Calls Tryd.prog 38 #[.int .u64 x] w fun e w' => ∃ v', e = .returned v' ∧ Own w' w.heap.size v' (var x) ∧ Below w.heap.size w w' := by
  obtain ⟨hx0, hx1⟩ := id hx
  rcases size_cases x with ⟨h1, -⟩ | ⟨h1, h2, -⟩ | ⟨h1, h2, -⟩ | ⟨h1, -⟩
  · have e : var x = [x] := by
      unfold var
      rw [if_pos h1]
    rw [e]
    clear e
    have hmod : x % 256 = x := by omega
    go_enter Tryd.func38, Tryd.ntmps38
    go_wp2
    go_ret
    exact ⟨_, rfl, Own.made1 _ _ (Nat.le_refl _) _, (Below.refl _ _).alloc (Nat.le_refl _) _⟩
  · have e : var x = [253] ++ put 2 x := by
      unfold var
      rw [if_neg (by omega), if_pos (by omega)]
      rfl
    have e2 : putL x 2 = put 2 x := by
      unfold putL
      rw [if_pos ⟨rfl, by simp; omega⟩]
      rfl
    have W := hide (fun w => wide_any 253 w)
    have e3 : behind 253 = 2 := rfl
    rw [e3] at W
    have P := hide (fun w => rput_any x 2 w hx)
    rw [e2] at P
    generalize putE x 2 = pe at *
    rw [e]
    clear e e2 e3 hx
    go_enter Tryd.func38, Tryd.ntmps38
    go_wp2_with fail
    refine (W.out _).mono ?_
    rintro e w' ⟨rfl, rfl⟩
    go_wp2_with fail
    refine (P.out _).mono ?_
    rintro e w1 ⟨v1, rfl, hown, hbel⟩
    have HO := hide hown
    have HB := hide hbel
    clear hown hbel
    go_wp2_with (at_builtin; refine wp_append rfl _ _ rfl w'.heap.size _ [253] rfl (Own.made1 _ _ ?c0 _) _ (put 2 x) rfl (HO.out.bytes.alloc _) ?c1 ?c2 ?_)
    case c0 => exact HB.out.size
    case c1 => simp [put_length]
    case c2 => have := HB.out.size; simp; omega
    intro v2 w2 hown2 hbel2
    have R : Hid (Own w2 w'.heap.size v2 ([253] ++ put 2 x) ∧ Below w'.heap.size w' w2) := ⟨hown2, (HB.out.alloc HB.out.size _).trans hbel2⟩
    clear hown2 hbel2
    go_wp2
    go_ret
    exact ⟨_, rfl, R.out⟩
  · have e : var x = [254] ++ put 4 x := by
      unfold var
      rw [if_neg (by omega), if_neg (by omega), if_pos (by omega)]
      rfl
    have e2 : putL x 4 = put 4 x := by
      unfold putL
      rw [if_pos ⟨rfl, by simp; omega⟩]
      rfl
    have W := hide (fun w => wide_any 254 w)
    have e3 : behind 254 = 4 := rfl
    rw [e3] at W
    have P := hide (fun w => rput_any x 4 w hx)
    rw [e2] at P
    generalize putE x 4 = pe at *
    rw [e]
    clear e e2 e3 hx
    go_enter Tryd.func38, Tryd.ntmps38
    go_wp2_with fail
    refine (W.out _).mono ?_
    rintro e w' ⟨rfl, rfl⟩
    go_wp2_with fail
    refine (P.out _).mono ?_
    rintro e w1 ⟨v1, rfl, hown, hbel⟩
    have HO := hide hown
    have HB := hide hbel
    clear hown hbel
    go_wp2_with (at_builtin; refine wp_append rfl _ _ rfl w'.heap.size _ [254] rfl (Own.made1 _ _ ?c0 _) _ (put 4 x) rfl (HO.out.bytes.alloc _) ?c1 ?c2 ?_)
    case c0 => exact HB.out.size
    case c1 => simp [put_length]
    case c2 => have := HB.out.size; simp; omega
    intro v2 w2 hown2 hbel2
    have R : Hid (Own w2 w'.heap.size v2 ([254] ++ put 4 x) ∧ Below w'.heap.size w' w2) := ⟨hown2, (HB.out.alloc HB.out.size _).trans hbel2⟩
    clear hown2 hbel2
    go_wp2
    go_ret
    exact ⟨_, rfl, R.out⟩
  · have e : var x = [255] ++ put 8 x := by
      unfold var
      rw [if_neg (by omega), if_neg (by omega), if_neg (by omega)]
      rfl
    have e2 : putL x 8 = put 8 x := by
      unfold putL
      rw [if_pos ⟨rfl, by simp; omega⟩]
      rfl
    have W := hide (fun w => wide_any 255 w)
    have e3 : behind 255 = 8 := rfl
    rw [e3] at W
    have P := hide (fun w => rput_any x 8 w hx)
    rw [e2] at P
    generalize putE x 8 = pe at *
    rw [e]
    clear e e2 e3 hx
    go_enter Tryd.func38, Tryd.ntmps38
    go_wp2_with fail
    refine (W.out _).mono ?_
    rintro e w' ⟨rfl, rfl⟩
    go_wp2_with fail
    refine (P.out _).mono ?_
    rintro e w1 ⟨v1, rfl, hown, hbel⟩
    have HO := hide hown
    have HB := hide hbel
    clear hown hbel
    go_wp2_with (at_builtin; refine wp_append rfl _ _ rfl w'.heap.size _ [255] rfl (Own.made1 _ _ ?c0 _) _ (put 8 x) rfl (HO.out.bytes.alloc _) ?c1 ?c2 ?_)
    case c0 => exact HB.out.size
    case c1 => simp [put_length]
    case c2 => have := HB.out.size; simp; omega
    intro v2 w2 hown2 hbel2
    have R : Hid (Own w2 w'.heap.size v2 ([255] ++ put 8 x) ∧ Below w'.heap.size w' w2) := ⟨hown2, (HB.out.alloc HB.out.size _).trans hbel2⟩
    clear hown2 hbel2
    go_wp2
    go_ret
    exact ⟨_, rfl, R.out⟩
end Go.Proofs.YtbeegcpmpgdbnabDoor
