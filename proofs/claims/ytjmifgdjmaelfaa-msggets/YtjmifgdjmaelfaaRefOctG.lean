/-
  What pappusref02.Get answers at this program: the very same as the program's own.
-/
import Derived.Test.YtjmifgdjmaelfaaOctGet
import Derived.Test.YtjmifgdjmaelfaaSame
namespace Go.Proofs.Ytjmifgdjmaelfaa
open Go.RowKit

/-- What holds at the head of a round of Get. -/
def Getting (l : List Int) (x i : Value) : Prop := ∃ k : Nat, k ≤ l.length ∧ i = .int .i64 ((k : Int) - 1) ∧ x = .int .u64 (num (l.drop k))
theorem num_step (l : List Int) (k : Nat) (hk : k < l.length) : num (l.drop k) = num (l.drop (k + 1)) * 256 + l.getD k 0 := by
  rw [List.drop_eq_getElem_cons hk]
  simp [num, List.getD, hk]
  omega
theorem rnum_word (l : List Int) (hl : ∀ z ∈ l, Byte z) (hn : l.length ≤ 8) : Word (num l) := by
  have h1 := num_nonneg l hl
  have h2 := num_lt l hl
  refine ⟨h1, ?_⟩
  rcases (show l.length = 0 ∨ l.length = 1 ∨ l.length = 2 ∨ l.length = 3 ∨ l.length = 4 ∨ l.length = 5 ∨ l.length = 6 ∨ l.length = 7 ∨ l.length = 8 by omega) with h | h | h | h | h | h | h | h | h <;> rw [h] at h2 <;> simp at h2 <;> omega
theorem getting_next {l : List Int} {j : Nat} {X z : Int} (hj : j + 1 ≤ l.length) (hX : num (l.drop (j + 1)) = X) (hz : l.getD j 0 = z) : Getting l (.int .u64 (X * 256 + z)) (.int .i64 ((j : Int) - 1)) :=
  ⟨j, by omega, rfl, by rw [num_step l j (by omega), hX, hz]⟩

set_option maxHeartbeats 2000000 in
theorem rget_some (l : List Int) (n b off cap : Nat) (w : World) (hlen : l.length = n) (hl : ∀ z ∈ l, Byte z) (hn : n = 1 ∨ n = 2 ∨ n = 4 ∨ n = 8)
    (hc : ∀ i, i < n → w.cell? ⟨b, off + i, none⟩ = some (.int .u8 (l.getD i 0))) :
    Calls Try.prog 23 #[.slice (some ⟨b, off, none⟩) n cap] w fun e w' => e = .returned (.tuple #[.int .u64 (num l), .int .i64 0]) ∧ w' = w := by
  have HC := hide hc
  have HL := hide hl
  have HW : Hid (∀ k, Word (num (l.drop k))) := fun k => rnum_word _ (fun z hz => hl z (List.mem_of_mem_drop hz)) (by simp; omega)
  have HZ : Hid (num (l.drop n) = 0) := by rw [← hlen]; simp [Hid, num]
  have HN := hide hlen
  clear hc hl hlen
  rcases hn with rfl | rfl | rfl | rfl
  · go_enter Try.func23, Try.ntmps23
    go_wp2_with fail
    go_loop [4, 5] (fun x i => Getting l x i) (fun _ i => (intOf i + 1).toNat)
    case atStart => exact ⟨1, by rw [HN.out]; omega, rfl, by rw [HZ.out]⟩
    case round =>
      obtain ⟨k, hk, rfl, rfl⟩ := hrel
      rw [HN.out] at hk
      cases k with
      | zero =>
        have e : (((0 : Nat) : Int) - 1) = -1 := rfl
        rw [e]
        clear e
        go_wp2
        go_ret2
        exact ⟨rfl, rfl⟩
      | succ j =>
        have e : (((j + 1 : Nat) : Int) - 1) = j := by omega
        rw [e]
        clear e
        have hcell := HC.out j (by omega)
        obtain ⟨hz0, hz1⟩ := HL.out (l.getD j 0) (by have := HN.out; simp [List.getD, show j < l.length by omega])
        obtain ⟨hX0, hX1⟩ := HW.out (j + 1)
        have hY := (HW.out j).2
        rw [num_step l j (by have := HN.out; omega)] at hY
        generalize hz : l.getD j 0 = z at *
        generalize hX : num (l.drop (j + 1)) = X at *
        have R := hide (getting_next (by rw [HN.out]; exact hk) hX hz)
        clear hz hX
        have w1 : IntKind.u64.wrap (X * 256) = X * 256 := wraps_word _ (by omega) (by omega)
        have w2 : IntKind.u64.wrap (X * 256 + z) = X * 256 + z := wraps_word _ (by omega) (by omega)
        go_wp2
        go_round
        case rel => exact R.out
        case measure => first | (simp [intOf]; done) | (simp [intOf]; omega)
  · go_enter Try.func23, Try.ntmps23
    go_wp2_with fail
    go_loop [4, 5] (fun x i => Getting l x i) (fun _ i => (intOf i + 1).toNat)
    case atStart => exact ⟨2, by rw [HN.out]; omega, rfl, by rw [HZ.out]⟩
    case round =>
      obtain ⟨k, hk, rfl, rfl⟩ := hrel
      rw [HN.out] at hk
      cases k with
      | zero =>
        have e : (((0 : Nat) : Int) - 1) = -1 := rfl
        rw [e]
        clear e
        go_wp2
        go_ret2
        exact ⟨rfl, rfl⟩
      | succ j =>
        have e : (((j + 1 : Nat) : Int) - 1) = j := by omega
        rw [e]
        clear e
        have hcell := HC.out j (by omega)
        obtain ⟨hz0, hz1⟩ := HL.out (l.getD j 0) (by have := HN.out; simp [List.getD, show j < l.length by omega])
        obtain ⟨hX0, hX1⟩ := HW.out (j + 1)
        have hY := (HW.out j).2
        rw [num_step l j (by have := HN.out; omega)] at hY
        generalize hz : l.getD j 0 = z at *
        generalize hX : num (l.drop (j + 1)) = X at *
        have R := hide (getting_next (by rw [HN.out]; exact hk) hX hz)
        clear hz hX
        have w1 : IntKind.u64.wrap (X * 256) = X * 256 := wraps_word _ (by omega) (by omega)
        have w2 : IntKind.u64.wrap (X * 256 + z) = X * 256 + z := wraps_word _ (by omega) (by omega)
        go_wp2
        go_round
        case rel => exact R.out
        case measure => first | (simp [intOf]; done) | (simp [intOf]; omega)
  · go_enter Try.func23, Try.ntmps23
    go_wp2_with fail
    go_loop [4, 5] (fun x i => Getting l x i) (fun _ i => (intOf i + 1).toNat)
    case atStart => exact ⟨4, by rw [HN.out]; omega, rfl, by rw [HZ.out]⟩
    case round =>
      obtain ⟨k, hk, rfl, rfl⟩ := hrel
      rw [HN.out] at hk
      cases k with
      | zero =>
        have e : (((0 : Nat) : Int) - 1) = -1 := rfl
        rw [e]
        clear e
        go_wp2
        go_ret2
        exact ⟨rfl, rfl⟩
      | succ j =>
        have e : (((j + 1 : Nat) : Int) - 1) = j := by omega
        rw [e]
        clear e
        have hcell := HC.out j (by omega)
        obtain ⟨hz0, hz1⟩ := HL.out (l.getD j 0) (by have := HN.out; simp [List.getD, show j < l.length by omega])
        obtain ⟨hX0, hX1⟩ := HW.out (j + 1)
        have hY := (HW.out j).2
        rw [num_step l j (by have := HN.out; omega)] at hY
        generalize hz : l.getD j 0 = z at *
        generalize hX : num (l.drop (j + 1)) = X at *
        have R := hide (getting_next (by rw [HN.out]; exact hk) hX hz)
        clear hz hX
        have w1 : IntKind.u64.wrap (X * 256) = X * 256 := wraps_word _ (by omega) (by omega)
        have w2 : IntKind.u64.wrap (X * 256 + z) = X * 256 + z := wraps_word _ (by omega) (by omega)
        go_wp2
        go_round
        case rel => exact R.out
        case measure => first | (simp [intOf]; done) | (simp [intOf]; omega)
  · go_enter Try.func23, Try.ntmps23
    go_wp2_with fail
    go_loop [4, 5] (fun x i => Getting l x i) (fun _ i => (intOf i + 1).toNat)
    case atStart => exact ⟨8, by rw [HN.out]; omega, rfl, by rw [HZ.out]⟩
    case round =>
      obtain ⟨k, hk, rfl, rfl⟩ := hrel
      rw [HN.out] at hk
      cases k with
      | zero =>
        have e : (((0 : Nat) : Int) - 1) = -1 := rfl
        rw [e]
        clear e
        go_wp2
        go_ret2
        exact ⟨rfl, rfl⟩
      | succ j =>
        have e : (((j + 1 : Nat) : Int) - 1) = j := by omega
        rw [e]
        clear e
        have hcell := HC.out j (by omega)
        obtain ⟨hz0, hz1⟩ := HL.out (l.getD j 0) (by have := HN.out; simp [List.getD, show j < l.length by omega])
        obtain ⟨hX0, hX1⟩ := HW.out (j + 1)
        have hY := (HW.out j).2
        rw [num_step l j (by have := HN.out; omega)] at hY
        generalize hz : l.getD j 0 = z at *
        generalize hX : num (l.drop (j + 1)) = X at *
        have R := hide (getting_next (by rw [HN.out]; exact hk) hX hz)
        clear hz hX
        have w1 : IntKind.u64.wrap (X * 256) = X * 256 := wraps_word _ (by omega) (by omega)
        have w2 : IntKind.u64.wrap (X * 256 + z) = X * 256 + z := wraps_word _ (by omega) (by omega)
        go_wp2
        go_round
        case rel => exact R.out
        case measure => first | (simp [intOf]; done) | (simp [intOf]; omega)

theorem rget_any (l : List Int) (v : Value) (w : World) (hv : Bytes w v l) (hl : ∀ z ∈ l, Byte z) :
    Calls Try.prog 23 #[v] w fun e w' => e = .returned (.tuple #[.int .u64 (getX l), .int .i64 (getE l)]) ∧ w' = w := by
  unfold getX getE
  by_cases hw : wideB l.length = true
  · have hlen := wide_cases hw
    rw [if_pos hw, if_pos hw]
    obtain ⟨b, off, cap, rfl, _, _, hc⟩ := hv.lies (by omega)
    exact rget_some l l.length b off cap w rfl hl (by omega) hc
  · have hw : wideB l.length = false := by simpa using hw
    obtain ⟨a, cap, rfl, hcap, hmax⟩ := hv.form
    rw [hw]
    simp only [Bool.false_eq_true, if_false]
    have h1 : ((l.length : Int) != 1) = true := by simp [wideB] at hw; simp; omega
    have h2 : ((l.length : Int) != 2) = true := by simp [wideB] at hw; simp; omega
    have h3 : ((l.length : Int) != 4) = true := by simp [wideB] at hw; simp; omega
    have h4 : ((l.length : Int) != 8) = true := by simp [wideB] at hw; simp; omega
    clear hw hv hl
    generalize l.length = n at *
    go_enter Try.func23, Try.ntmps23
    go_wp2
    go_ret2
    exact ⟨rfl, rfl⟩
end Go.Proofs.Ytjmifgdjmaelfaa
