/-
  What pappusref02.Put and Get answer at this program: the very same as the program's own.
-/
import Derived.Test.YtbhninaaeeoamaaDoorOctGet
import Derived.Test.YtbhninaaeeoamaaDoorSame
namespace Go.Proofs.YtbhninaaeeoamaaDoor
open Go.RowKit

/-- What holds at the head of a round of Put. -/
def Putting (w : World) (x : Int) (n : Nat) (xv v i : Value) (wr : World) : Prop :=
  ∃ (k m : Nat) (y : Int) (l' : List Int), k + m = n ∧ i = .int .i64 k ∧ xv = .int .u64 y ∧ Word y ∧ Own wr w.heap.size v l' ∧ l'.length = k ∧ l' ++ put m y = put n x ∧ y = x / 256 ^ k ∧ Below w.heap.size w wr
theorem pow_next (x : Int) (k : Nat) : x / 256 ^ k / 256 = x / 256 ^ (k + 1) := by
  have h : ¬ ((256 : Int) ^ k < 0) := by
    have := Int.pow_pos (n := 256) (m := k) (by omega)
    omega
  rw [Int.ediv_ediv, if_neg (fun q => h q.1), Int.pow_succ]
  omega
/-- What Put comes to. -/
def PutDone (w : World) (x : Int) (n : Nat) (e : Ending) (w' : World) : Prop :=
  ∃ v', e = .returned (.tuple #[v', .int .i64 (putE x n)]) ∧ Own w' w.heap.size v' (putL x n) ∧ Below w.heap.size w w'
theorem putDone_fits {w w' : World} {x : Int} {n : Nat} {v : Value} (hx : 0 ≤ x) (hw : wideB n = true) (h : x / 256 ^ n = 0) (ho : Own w' w.heap.size v (put n x)) (hb : Below w.heap.size w w') :
    PutDone w x n (.returned (.tuple #[v, .int .i64 0])) w' := by
  have e : ((n : Int)).toNat = n := by simp
  have h' := (put_rest n x hx).1 h
  unfold PutDone putE putL
  rw [hw, e]
  simp only [true_and, if_true, if_pos h']
  exact ⟨v, rfl, ho, hb⟩
theorem putDone_over {w w' : World} {x : Int} {n : Nat} (hx : 0 ≤ x) (hw : wideB n = true) (h : ¬ x / 256 ^ n = 0) (hb : Below w.heap.size w w') :
    PutDone w x n (.returned (.tuple #[.slice none 0 0, .int .i64 3])) w' := by
  have e : ((n : Int)).toNat = n := by simp
  have h' : ¬ x < 256 ^ n := fun q => h ((put_rest n x hx).2 q)
  unfold PutDone putE putL
  rw [hw, e]
  simp only [true_and, if_true, if_neg h']
  exact ⟨_, rfl, Own.nil _ _, hb⟩

set_option maxHeartbeats 4000000 in
theorem rput_wide (x : Int) (n : Nat) (w : World) (hx : Word x) (hn : n = 1 ∨ n = 2 ∨ n = 4 ∨ n = 8) :
    Calls Tryd.prog 22 #[.int .u64 x, .int .i64 n] w fun e w' => PutDone w x n e w' := by
  have HX := hide hx
  have HW : Hid (wideB n = true) := by rcases hn with rfl | rfl | rfl | rfl <;> rfl
  clear hx
  rcases hn with rfl | rfl | rfl | rfl
  · go_enter Tryd.func22, Tryd.ntmps22
    go_wp2_with fail
    go_loopw [0, 6, 22] (fun xv v i wr => Putting w x 1 xv v i wr) (fun _ _ i _ => 1 - (intOf i).toNat)
    case atStart => exact ⟨0, 1, x, [], by omega, rfl, rfl, HX.out, Own.nil _ _, rfl, rfl, by simp, Below.refl _ _⟩
    case round =>
      obtain ⟨k, m, y, l', hkm, rfl, rfl, ⟨hy0, hy1⟩, hown, hlen, heq, hdiv, hbel⟩ := hrel
      have HO := hide hown
      have HE := hide heq
      have HL := hide hlen
      have HB := hide hbel
      have HD := hide hdiv
      clear hown heq hlen hbel hdiv
      by_cases hlt : k < 1
      · obtain ⟨m, rfl⟩ : ∃ j, m = j + 1 := ⟨m - 1, by omega⟩
        have ht : y.tmod 256 = y % 256 := Int.tmod_eq_emod_of_nonneg hy0
        have hq : y.tdiv 256 = y / 256 := Int.tdiv_eq_ediv_of_nonneg hy0
        go_wp2_with (at_builtin; refine wp_append rfl _ _ rfl w.heap.size _ l' rfl (HO.out.alloc _) _ [y % 256] rfl (Bytes.one _ _) ?c1 ?c2 ?_)
        case c1 => have := HL.out; simp; omega
        case c2 => have := HB.out.size; simp; omega
        intro v' w' hown' hbel'
        have R : Hid (Putting w x 1 (.int .u64 (y / 256)) v' (.int .i64 (k + 1 : Nat)) w') := by
          refine ⟨k + 1, m, y / 256, l' ++ [y % 256], by omega, rfl, rfl, ⟨by omega, by omega⟩, hown', by have := HL.out; simp; omega, ?_, ?_, (HB.out.alloc (by have := HB.out.size; omega) _).trans hbel'⟩
          · rw [← HE.out]
            simp [put]
          · rw [HD.out, pow_next]
        clear hown' hbel'
        go_wp2
        go_roundw
        case rel => first | exact R.out | ((repeat apply Exists.intro); exact ⟨R.out, rfl⟩)
        case measure => first | (simp [intOf]; done) | (simp [intOf]; omega)
      · obtain rfl : m = 0 := by omega
        obtain rfl : k = 1 := by omega
        have h := HE.out
        simp only [put, List.append_nil] at h
        by_cases hy : y = 0
        · have R := hide (putDone_fits HX.out.1 HW.out (HD.out.symm.trans hy) (h ▸ HO.out) HB.out)
          subst hy
          clear h
          go_wp2
          go_ret2
          exact R.out
        · have R := hide (putDone_over HX.out.1 HW.out (fun q => hy (HD.out.trans q)) HB.out)
          have hy' : (0 : Int) < y := by omega
          clear h
          go_wp2
          go_ret2
          exact R.out
  · go_enter Tryd.func22, Tryd.ntmps22
    go_wp2_with fail
    go_loopw [0, 6, 22] (fun xv v i wr => Putting w x 2 xv v i wr) (fun _ _ i _ => 2 - (intOf i).toNat)
    case atStart => exact ⟨0, 2, x, [], by omega, rfl, rfl, HX.out, Own.nil _ _, rfl, rfl, by simp, Below.refl _ _⟩
    case round =>
      obtain ⟨k, m, y, l', hkm, rfl, rfl, ⟨hy0, hy1⟩, hown, hlen, heq, hdiv, hbel⟩ := hrel
      have HO := hide hown
      have HE := hide heq
      have HL := hide hlen
      have HB := hide hbel
      have HD := hide hdiv
      clear hown heq hlen hbel hdiv
      by_cases hlt : k < 2
      · obtain ⟨m, rfl⟩ : ∃ j, m = j + 1 := ⟨m - 1, by omega⟩
        have ht : y.tmod 256 = y % 256 := Int.tmod_eq_emod_of_nonneg hy0
        have hq : y.tdiv 256 = y / 256 := Int.tdiv_eq_ediv_of_nonneg hy0
        go_wp2_with (at_builtin; refine wp_append rfl _ _ rfl w.heap.size _ l' rfl (HO.out.alloc _) _ [y % 256] rfl (Bytes.one _ _) ?c1 ?c2 ?_)
        case c1 => have := HL.out; simp; omega
        case c2 => have := HB.out.size; simp; omega
        intro v' w' hown' hbel'
        have R : Hid (Putting w x 2 (.int .u64 (y / 256)) v' (.int .i64 (k + 1 : Nat)) w') := by
          refine ⟨k + 1, m, y / 256, l' ++ [y % 256], by omega, rfl, rfl, ⟨by omega, by omega⟩, hown', by have := HL.out; simp; omega, ?_, ?_, (HB.out.alloc (by have := HB.out.size; omega) _).trans hbel'⟩
          · rw [← HE.out]
            simp [put]
          · rw [HD.out, pow_next]
        clear hown' hbel'
        go_wp2
        go_roundw
        case rel => first | exact R.out | ((repeat apply Exists.intro); exact ⟨R.out, rfl⟩)
        case measure => first | (simp [intOf]; done) | (simp [intOf]; omega)
      · obtain rfl : m = 0 := by omega
        obtain rfl : k = 2 := by omega
        have h := HE.out
        simp only [put, List.append_nil] at h
        by_cases hy : y = 0
        · have R := hide (putDone_fits HX.out.1 HW.out (HD.out.symm.trans hy) (h ▸ HO.out) HB.out)
          subst hy
          clear h
          go_wp2
          go_ret2
          exact R.out
        · have R := hide (putDone_over HX.out.1 HW.out (fun q => hy (HD.out.trans q)) HB.out)
          have hy' : (0 : Int) < y := by omega
          clear h
          go_wp2
          go_ret2
          exact R.out
  · go_enter Tryd.func22, Tryd.ntmps22
    go_wp2_with fail
    go_loopw [0, 6, 22] (fun xv v i wr => Putting w x 4 xv v i wr) (fun _ _ i _ => 4 - (intOf i).toNat)
    case atStart => exact ⟨0, 4, x, [], by omega, rfl, rfl, HX.out, Own.nil _ _, rfl, rfl, by simp, Below.refl _ _⟩
    case round =>
      obtain ⟨k, m, y, l', hkm, rfl, rfl, ⟨hy0, hy1⟩, hown, hlen, heq, hdiv, hbel⟩ := hrel
      have HO := hide hown
      have HE := hide heq
      have HL := hide hlen
      have HB := hide hbel
      have HD := hide hdiv
      clear hown heq hlen hbel hdiv
      by_cases hlt : k < 4
      · obtain ⟨m, rfl⟩ : ∃ j, m = j + 1 := ⟨m - 1, by omega⟩
        have ht : y.tmod 256 = y % 256 := Int.tmod_eq_emod_of_nonneg hy0
        have hq : y.tdiv 256 = y / 256 := Int.tdiv_eq_ediv_of_nonneg hy0
        go_wp2_with (at_builtin; refine wp_append rfl _ _ rfl w.heap.size _ l' rfl (HO.out.alloc _) _ [y % 256] rfl (Bytes.one _ _) ?c1 ?c2 ?_)
        case c1 => have := HL.out; simp; omega
        case c2 => have := HB.out.size; simp; omega
        intro v' w' hown' hbel'
        have R : Hid (Putting w x 4 (.int .u64 (y / 256)) v' (.int .i64 (k + 1 : Nat)) w') := by
          refine ⟨k + 1, m, y / 256, l' ++ [y % 256], by omega, rfl, rfl, ⟨by omega, by omega⟩, hown', by have := HL.out; simp; omega, ?_, ?_, (HB.out.alloc (by have := HB.out.size; omega) _).trans hbel'⟩
          · rw [← HE.out]
            simp [put]
          · rw [HD.out, pow_next]
        clear hown' hbel'
        go_wp2
        go_roundw
        case rel => first | exact R.out | ((repeat apply Exists.intro); exact ⟨R.out, rfl⟩)
        case measure => first | (simp [intOf]; done) | (simp [intOf]; omega)
      · obtain rfl : m = 0 := by omega
        obtain rfl : k = 4 := by omega
        have h := HE.out
        simp only [put, List.append_nil] at h
        by_cases hy : y = 0
        · have R := hide (putDone_fits HX.out.1 HW.out (HD.out.symm.trans hy) (h ▸ HO.out) HB.out)
          subst hy
          clear h
          go_wp2
          go_ret2
          exact R.out
        · have R := hide (putDone_over HX.out.1 HW.out (fun q => hy (HD.out.trans q)) HB.out)
          have hy' : (0 : Int) < y := by omega
          clear h
          go_wp2
          go_ret2
          exact R.out
  · go_enter Tryd.func22, Tryd.ntmps22
    go_wp2_with fail
    go_loopw [0, 6, 22] (fun xv v i wr => Putting w x 8 xv v i wr) (fun _ _ i _ => 8 - (intOf i).toNat)
    case atStart => exact ⟨0, 8, x, [], by omega, rfl, rfl, HX.out, Own.nil _ _, rfl, rfl, by simp, Below.refl _ _⟩
    case round =>
      obtain ⟨k, m, y, l', hkm, rfl, rfl, ⟨hy0, hy1⟩, hown, hlen, heq, hdiv, hbel⟩ := hrel
      have HO := hide hown
      have HE := hide heq
      have HL := hide hlen
      have HB := hide hbel
      have HD := hide hdiv
      clear hown heq hlen hbel hdiv
      by_cases hlt : k < 8
      · obtain ⟨m, rfl⟩ : ∃ j, m = j + 1 := ⟨m - 1, by omega⟩
        have ht : y.tmod 256 = y % 256 := Int.tmod_eq_emod_of_nonneg hy0
        have hq : y.tdiv 256 = y / 256 := Int.tdiv_eq_ediv_of_nonneg hy0
        go_wp2_with (at_builtin; refine wp_append rfl _ _ rfl w.heap.size _ l' rfl (HO.out.alloc _) _ [y % 256] rfl (Bytes.one _ _) ?c1 ?c2 ?_)
        case c1 => have := HL.out; simp; omega
        case c2 => have := HB.out.size; simp; omega
        intro v' w' hown' hbel'
        have R : Hid (Putting w x 8 (.int .u64 (y / 256)) v' (.int .i64 (k + 1 : Nat)) w') := by
          refine ⟨k + 1, m, y / 256, l' ++ [y % 256], by omega, rfl, rfl, ⟨by omega, by omega⟩, hown', by have := HL.out; simp; omega, ?_, ?_, (HB.out.alloc (by have := HB.out.size; omega) _).trans hbel'⟩
          · rw [← HE.out]
            simp [put]
          · rw [HD.out, pow_next]
        clear hown' hbel'
        go_wp2
        go_roundw
        case rel => first | exact R.out | ((repeat apply Exists.intro); exact ⟨R.out, rfl⟩)
        case measure => first | (simp [intOf]; done) | (simp [intOf]; omega)
      · obtain rfl : m = 0 := by omega
        obtain rfl : k = 8 := by omega
        have h := HE.out
        simp only [put, List.append_nil] at h
        by_cases hy : y = 0
        · have R := hide (putDone_fits HX.out.1 HW.out (HD.out.symm.trans hy) (h ▸ HO.out) HB.out)
          subst hy
          clear h
          go_wp2
          go_ret2
          exact R.out
        · have R := hide (putDone_over HX.out.1 HW.out (fun q => hy (HD.out.trans q)) HB.out)
          have hy' : (0 : Int) < y := by omega
          clear h
          go_wp2
          go_ret2
          exact R.out

theorem rput_any (x n : Int) (w : World) (hx : Word x) :
    Calls Tryd.prog 22 #[.int .u64 x, .int .i64 n] w fun e w' => ∃ v', e = .returned (.tuple #[v', .int .i64 (putE x n)]) ∧ Own w' w.heap.size v' (putL x n) ∧ Below w.heap.size w w' := by
  rcases (show n = 1 ∨ n = 2 ∨ n = 4 ∨ n = 8 ∨ (n ≠ 1 ∧ n ≠ 2 ∧ n ≠ 4 ∧ n ≠ 8) by omega) with rfl | rfl | rfl | rfl | ⟨h1, h2, h3, h4⟩
  · exact rput_wide x 1 w hx (by omega)
  · exact rput_wide x 2 w hx (by omega)
  · exact rput_wide x 4 w hx (by omega)
  · exact rput_wide x 8 w hx (by omega)
  · have hw : wideB n = false := by simp [wideB, h1, h2, h3, h4]
    have h1' : (n != 1) = true := by simpa using h1
    have h2' : (n != 2) = true := by simpa using h2
    have h3' : (n != 4) = true := by simpa using h3
    have h4' : (n != 8) = true := by simpa using h4
    unfold putE putL
    rw [hw]
    simp only [Bool.false_eq_true, if_false, false_and]
    clear hw h1 h2 h3 h4
    go_enter Tryd.func22, Tryd.ntmps22
    go_wp2
    go_ret2
    exact ⟨_, rfl, Own.nil _ _, Below.refl _ _⟩

/-- What holds at the head of a round of Get. -/
def Getting (l : List Int) (x i : Value) : Prop := ∃ k : Nat, k ≤ l.length ∧ i = .int .i64 ((k : Int) - 1) ∧ x = .int .u64 (num (l.drop k))
theorem num_step (l : List Int) (k : Nat) (hk : k < l.length) : num (l.drop k) = num (l.drop (k + 1)) * 256 + l.getD k 0 := by
  rw [List.drop_eq_getElem_cons hk]
  simp [num, List.getD, hk]
  omega
theorem rnum_word (l : List Int) (hl : ∀ z ∈ l, Byte z) (hn : l.length ≤ 8) : Word (num l) := by
  have h1 := num_nonneg l hl
  have h2 := num_lt l hl
  refine ⟨h1, ?_⟩
  rcases (show l.length = 0 ∨ l.length = 1 ∨ l.length = 2 ∨ l.length = 3 ∨ l.length = 4 ∨ l.length = 5 ∨ l.length = 6 ∨ l.length = 7 ∨ l.length = 8 by omega) with h | h | h | h | h | h | h | h | h <;> rw [h] at h2 <;> simp at h2 <;> omega
theorem getting_next {l : List Int} {j : Nat} {X z : Int} (hj : j + 1 ≤ l.length) (hX : num (l.drop (j + 1)) = X) (hz : l.getD j 0 = z) : Getting l (.int .u64 (X * 256 + z)) (.int .i64 ((j : Int) - 1)) :=
  ⟨j, by omega, rfl, by rw [num_step l j (by omega), hX, hz]⟩

set_option maxHeartbeats 2000000 in
theorem rget_some (l : List Int) (n b off cap : Nat) (w : World) (hlen : l.length = n) (hl : ∀ z ∈ l, Byte z) (hn : n = 1 ∨ n = 2 ∨ n = 4 ∨ n = 8)
    (hc : ∀ i, i < n → w.cell? ⟨b, off + i, none⟩ = some (.int .u8 (l.getD i 0))) :
    Calls Tryd.prog 29 #[.slice (some ⟨b, off, none⟩) n cap] w fun e w' => e = .returned (.tuple #[.int .u64 (num l), .int .i64 0]) ∧ w' = w := by
  have HC := hide hc
  have HL := hide hl
  have HW : Hid (∀ k, Word (num (l.drop k))) := fun k => rnum_word _ (fun z hz => hl z (List.mem_of_mem_drop hz)) (by simp; omega)
  have HZ : Hid (num (l.drop n) = 0) := by rw [← hlen]; simp [Hid, num]
  have HN := hide hlen
  clear hc hl hlen
  rcases hn with rfl | rfl | rfl | rfl
  · go_enter Tryd.func29, Tryd.ntmps29
    go_wp2_with fail
    go_loop [4, 5] (fun x i => Getting l x i) (fun _ i => (intOf i + 1).toNat)
    case atStart => exact ⟨1, by rw [HN.out]; omega, rfl, by rw [HZ.out]⟩
    case round =>
      obtain ⟨k, hk, rfl, rfl⟩ := hrel
      rw [HN.out] at hk
      cases k with
      | zero =>
        have e : (((0 : Nat) : Int) - 1) = -1 := rfl
        rw [e]
        clear e
        go_wp2
        go_ret2
        exact ⟨rfl, rfl⟩
      | succ j =>
        have e : (((j + 1 : Nat) : Int) - 1) = j := by omega
        rw [e]
        clear e
        have hcell := HC.out j (by omega)
        obtain ⟨hz0, hz1⟩ := HL.out (l.getD j 0) (by have := HN.out; simp [List.getD, show j < l.length by omega])
        obtain ⟨hX0, hX1⟩ := HW.out (j + 1)
        have hY := (HW.out j).2
        rw [num_step l j (by have := HN.out; omega)] at hY
        generalize hz : l.getD j 0 = z at *
        generalize hX : num (l.drop (j + 1)) = X at *
        have R := hide (getting_next (by rw [HN.out]; exact hk) hX hz)
        clear hz hX
        have w1 : IntKind.u64.wrap (X * 256) = X * 256 := wraps_word _ (by omega) (by omega)
        have w2 : IntKind.u64.wrap (X * 256 + z) = X * 256 + z := wraps_word _ (by omega) (by omega)
        go_wp2
        go_round
        case rel => exact R.out
        case measure => first | (simp [intOf]; done) | (simp [intOf]; omega)
  · go_enter Tryd.func29, Tryd.ntmps29
    go_wp2_with fail
    go_loop [4, 5] (fun x i => Getting l x i) (fun _ i => (intOf i + 1).toNat)
    case atStart => exact ⟨2, by rw [HN.out]; omega, rfl, by rw [HZ.out]⟩
    case round =>
      obtain ⟨k, hk, rfl, rfl⟩ := hrel
      rw [HN.out] at hk
      cases k with
      | zero =>
        have e : (((0 : Nat) : Int) - 1) = -1 := rfl
        rw [e]
        clear e
        go_wp2
        go_ret2
        exact ⟨rfl, rfl⟩
      | succ j =>
        have e : (((j + 1 : Nat) : Int) - 1) = j := by omega
        rw [e]
        clear e
        have hcell := HC.out j (by omega)
        obtain ⟨hz0, hz1⟩ := HL.out (l.getD j 0) (by have := HN.out; simp [List.getD, show j < l.length by omega])
        obtain ⟨hX0, hX1⟩ := HW.out (j + 1)
        have hY := (HW.out j).2
        rw [num_step l j (by have := HN.out; omega)] at hY
        generalize hz : l.getD j 0 = z at *
        generalize hX : num (l.drop (j + 1)) = X at *
        have R := hide (getting_next (by rw [HN.out]; exact hk) hX hz)
        clear hz hX
        have w1 : IntKind.u64.wrap (X * 256) = X * 256 := wraps_word _ (by omega) (by omega)
        have w2 : IntKind.u64.wrap (X * 256 + z) = X * 256 + z := wraps_word _ (by omega) (by omega)
        go_wp2
        go_round
        case rel => exact R.out
        case measure => first | (simp [intOf]; done) | (simp [intOf]; omega)
  · go_enter Tryd.func29, Tryd.ntmps29
    go_wp2_with fail
    go_loop [4, 5] (fun x i => Getting l x i) (fun _ i => (intOf i + 1).toNat)
    case atStart => exact ⟨4, by rw [HN.out]; omega, rfl, by rw [HZ.out]⟩
    case round =>
      obtain ⟨k, hk, rfl, rfl⟩ := hrel
      rw [HN.out] at hk
      cases k with
      | zero =>
        have e : (((0 : Nat) : Int) - 1) = -1 := rfl
        rw [e]
        clear e
        go_wp2
        go_ret2
        exact ⟨rfl, rfl⟩
      | succ j =>
        have e : (((j + 1 : Nat) : Int) - 1) = j := by omega
        rw [e]
        clear e
        have hcell := HC.out j (by omega)
        obtain ⟨hz0, hz1⟩ := HL.out (l.getD j 0) (by have := HN.out; simp [List.getD, show j < l.length by omega])
        obtain ⟨hX0, hX1⟩ := HW.out (j + 1)
        have hY := (HW.out j).2
        rw [num_step l j (by have := HN.out; omega)] at hY
        generalize hz : l.getD j 0 = z at *
        generalize hX : num (l.drop (j + 1)) = X at *
        have R := hide (getting_next (by rw [HN.out]; exact hk) hX hz)
        clear hz hX
        have w1 : IntKind.u64.wrap (X * 256) = X * 256 := wraps_word _ (by omega) (by omega)
        have w2 : IntKind.u64.wrap (X * 256 + z) = X * 256 + z := wraps_word _ (by omega) (by omega)
        go_wp2
        go_round
        case rel => exact R.out
        case measure => first | (simp [intOf]; done) | (simp [intOf]; omega)
  · go_enter Tryd.func29, Tryd.ntmps29
    go_wp2_with fail
    go_loop [4, 5] (fun x i => Getting l x i) (fun _ i => (intOf i + 1).toNat)
    case atStart => exact ⟨8, by rw [HN.out]; omega, rfl, by rw [HZ.out]⟩
    case round =>
      obtain ⟨k, hk, rfl, rfl⟩ := hrel
      rw [HN.out] at hk
      cases k with
      | zero =>
        have e : (((0 : Nat) : Int) - 1) = -1 := rfl
        rw [e]
        clear e
        go_wp2
        go_ret2
        exact ⟨rfl, rfl⟩
      | succ j =>
        have e : (((j + 1 : Nat) : Int) - 1) = j := by omega
        rw [e]
        clear e
        have hcell := HC.out j (by omega)
        obtain ⟨hz0, hz1⟩ := HL.out (l.getD j 0) (by have := HN.out; simp [List.getD, show j < l.length by omega])
        obtain ⟨hX0, hX1⟩ := HW.out (j + 1)
        have hY := (HW.out j).2
        rw [num_step l j (by have := HN.out; omega)] at hY
        generalize hz : l.getD j 0 = z at *
        generalize hX : num (l.drop (j + 1)) = X at *
        have R := hide (getting_next (by rw [HN.out]; exact hk) hX hz)
        clear hz hX
        have w1 : IntKind.u64.wrap (X * 256) = X * 256 := wraps_word _ (by omega) (by omega)
        have w2 : IntKind.u64.wrap (X * 256 + z) = X * 256 + z := wraps_word _ (by omega) (by omega)
        go_wp2
        go_round
        case rel => exact R.out
        case measure => first | (simp [intOf]; done) | (simp [intOf]; omega)

theorem rget_any (l : List Int) (v : Value) (w : World) (hv : Bytes w v l) (hl : ∀ z ∈ l, Byte z) :
    Calls Tryd.prog 29 #[v] w fun e w' => e = .returned (.tuple #[.int .u64 (getX l), .int .i64 (getE l)]) ∧ w' = w := by
  unfold getX getE
  by_cases hw : wideB l.length = true
  · have hlen := wide_cases hw
    rw [if_pos hw, if_pos hw]
    obtain ⟨b, off, cap, rfl, _, _, hc⟩ := hv.lies (by omega)
    exact rget_some l l.length b off cap w rfl hl (by omega) hc
  · have hw : wideB l.length = false := by simpa using hw
    obtain ⟨a, cap, rfl, hcap, hmax⟩ := hv.form
    rw [hw]
    simp only [Bool.false_eq_true, if_false]
    have h1 : ((l.length : Int) != 1) = true := by simp [wideB] at hw; simp; omega
    have h2 : ((l.length : Int) != 2) = true := by simp [wideB] at hw; simp; omega
    have h3 : ((l.length : Int) != 4) = true := by simp [wideB] at hw; simp; omega
    have h4 : ((l.length : Int) != 8) = true := by simp [wideB] at hw; simp; omega
    clear hw hv hl
    generalize l.length = n at *
    go_enter Tryd.func29, Tryd.ntmps29
    go_wp2
    go_ret2
    exact ⟨rfl, rfl⟩
end Go.Proofs.YtbhninaaeeoamaaDoor
