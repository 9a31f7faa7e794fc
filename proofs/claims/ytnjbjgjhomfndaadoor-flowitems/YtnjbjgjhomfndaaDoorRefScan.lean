/-
  The document's way through a head's twelve bytes: with no word of the program's memory.
-/
import Derived.Test.YtnjbjgjhomfndaaDoorFrPure
namespace Go.Proofs.YtnjbjgjhomfndaaDoor

theorem scan_end : ∀ (t : List Int) (j : Nat), j ≤ t.length → (∀ i, i < j → ¬ t.getD i 0 = 0) → (j = t.length ∨ t.getD j 0 = 0) → t.takeWhile (fun z => !(z == 0)) = t.take j
  | [], j, h, _, _ => by simp
  | a :: t, 0, _, _, h2 => by
    rcases h2 with h2 | h2
    · simp at h2
    · have ha : a = 0 := by simpa using h2
      simp [ha]
  | a :: t, j + 1, h, h1, h2 => by
    have ha : ¬ a = 0 := by simpa using h1 0 (by omega)
    have := scan_end t j (by simpa using h) (fun i hi => by simpa using h1 (i + 1) (by omega)) (by
      rcases h2 with h2 | h2
      · left; simpa using h2
      · right; simpa using h2)
    rw [List.takeWhile_cons]
    simp [ha, this]
/-- The name so far: the letters up to place j, unless something stands behind them, up to place m. -/
def soFar (t : List Int) (j m : Nat) : List Int := if (((t.take m).drop j).all fun z => z == 0) = true then t.take j else []
theorem soFar_start (t : List Int) (j : Nat) : soFar t j j = t.take j := by
  unfold soFar
  rw [show (t.take j).drop j = [] from List.drop_eq_nil_of_le (by simp; omega)]
  rfl
theorem drop_next {t : List Int} {j m : Nat} (hj : j ≤ m) (hm : m < t.length) : (t.take (m + 1)).drop j = (t.take m).drop j ++ [t.getD m 0] := by
  rw [List.take_succ_eq_append_getElem hm, List.drop_append_of_le_length (by simp; omega)]
  simp [List.getD, hm]
theorem soFar_zero {t : List Int} {j m : Nat} (hj : j ≤ m) (hm : m < t.length) (h : t.getD m 0 = 0) : soFar t j (m + 1) = soFar t j m := by
  unfold soFar
  rw [drop_next hj hm, h, List.all_append]
  simp
theorem soFar_other {t : List Int} {j m : Nat} (hj : j ≤ m) (hm : m < t.length) (h : ¬ t.getD m 0 = 0) : soFar t j (m + 1) = [] := by
  unfold soFar
  rw [drop_next hj hm, List.all_append]
  have : ([t.getD m 0].all fun z => z == 0) = false := by simpa using h
  rw [this, Bool.and_false]
  rfl
theorem soFar_end {t : List Int} {j : Nat} (hj : j ≤ t.length) (h1 : ∀ i, i < j → ¬ t.getD i 0 = 0) (h2 : j = t.length ∨ t.getD j 0 = 0) : soFar t j t.length = rcutL t := by
  unfold soFar rcutL
  rw [scan_end t j hj h1 h2, List.take_length, List.length_take, Nat.min_eq_left hj]
theorem soFar_rcut (t : List Int) : soFar t (t.takeWhile (fun z => !(z == 0))).length t.length = rcutL t := by
  have hw := List.takeWhile_append_dropWhile (p := fun z : Int => !(z == 0)) (l := t)
  have hp : t.take (t.takeWhile (fun z => !(z == 0))).length = t.takeWhile (fun z => !(z == 0)) := by
    conv => lhs; rw [← hw]
    rw [List.take_append]
    simp
  unfold soFar rcutL
  rw [List.take_length, hp]
theorem soFar_byte {t : List Int} (hb : ∀ z ∈ t, Byte z) (j m : Nat) : ∀ z ∈ soFar t j m, Byte z := by
  unfold soFar
  split
  · exact fun z hz => hb z (List.mem_of_mem_take hz)
  · intro z hz; cases hz
theorem soFar_length (t : List Int) (j m : Nat) : (soFar t j m).length ≤ t.length := by
  unfold soFar
  split
  · simp
    omega
  · simp

end Go.Proofs.YtnjbjgjhomfndaaDoor
