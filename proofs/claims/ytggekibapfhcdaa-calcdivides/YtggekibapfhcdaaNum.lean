/-
  Plain numbers, with no word of the program: the comparison of two products, the two steps of a long division by halves, sums that stop.
-/
namespace Go.Proofs.Ytggekibapfhcdaa

/-- How two numbers compare. -/
def cmpI (x y : Int) : Int := if x < y then -1 else if y < x then 1 else 0
theorem cmpI_lt {x y : Int} (h : x < y) : cmpI x y = -1 := by simp [cmpI, h]
theorem cmpI_gt {x y : Int} (h : y < x) : cmpI x y = 1 := by
  have : ¬ x < y := by omega
  simp [cmpI, h, this]
theorem cmpI_eq {x y : Int} (h : x = y) : cmpI x y = 0 := by
  subst h; simp [cmpI]
theorem cmpI_cases (x y : Int) : (x < y ∧ cmpI x y = -1) ∨ (x = y ∧ cmpI x y = 0) ∨ (y < x ∧ cmpI x y = 1) := by
  rcases Int.lt_trichotomy x y with h | h | h
  · exact Or.inl ⟨h, cmpI_lt h⟩
  · exact Or.inr (Or.inl ⟨h, cmpI_eq h⟩)
  · exact Or.inr (Or.inr ⟨h, cmpI_gt h⟩)
theorem cmpI_hi {x y : Nat} (h : x / 18446744073709551616 ≠ y / 18446744073709551616) :
    cmpI ((x / 18446744073709551616 : Nat) : Int) ((y / 18446744073709551616 : Nat) : Int) = cmpI (x : Int) (y : Int) := by
  rcases Nat.lt_trichotomy (x / 18446744073709551616) (y / 18446744073709551616) with g | g | g
  · rw [cmpI_lt (by omega), cmpI_lt (by omega)]
  · exact absurd g h
  · rw [cmpI_gt (by omega), cmpI_gt (by omega)]
theorem cmpI_lo {x y : Nat} (h : x / 18446744073709551616 = y / 18446744073709551616) :
    cmpI ((x % 18446744073709551616 : Nat) : Int) ((y % 18446744073709551616 : Nat) : Int) = cmpI (x : Int) (y : Int) := by
  rcases Nat.lt_trichotomy (x % 18446744073709551616) (y % 18446744073709551616) with g | g | g
  · rw [cmpI_lt (by omega), cmpI_lt (by omega)]
  · rw [cmpI_eq (by omega), cmpI_eq (by omega)]
  · rw [cmpI_gt (by omega), cmpI_gt (by omega)]

/-! One digit of a long division: U and u over a and b (a whole number of two halves over one that is at least half full), in base B. -/
theorem dig_top {a b U B : Nat} (hb : b < B) (hU : U < a * B + b) (ha : B ≤ 2 * a) : U / a ≤ B + 1 := by
  have h : U < a * (B + 2) := by rw [Nat.mul_add]; omega
  have := Nat.div_lt_of_lt_mul h
  omega
theorem dig_lt {a b U u B : Nat} (hU : U < a * B + b) (hu : u < B) : (U * B + u) / (a * B + b) < B := by
  apply Nat.div_lt_of_lt_mul
  have h1 : (U + 1) * B ≤ (a * B + b) * B := Nat.mul_le_mul_right B hU
  rw [Nat.add_mul] at h1
  omega
theorem dig_ge {a b U u B : Nat} (ha : 0 < a) (hu : u < B) : (U * B + u) / (a * B + b) ≤ U / a := by
  rw [Nat.le_div_iff_mul_le ha]
  have hB : 0 < B := by omega
  generalize hQ : (U * B + u) / (a * B + b) = Q
  have h1 : Q * (a * B + b) ≤ U * B + u := by rw [← hQ]; exact Nat.div_mul_le_self _ _
  rw [Nat.mul_add, ← Nat.mul_assoc] at h1
  have h2 : Q * a * B < (U + 1) * B := by rw [Nat.add_mul]; omega
  have := Nat.lt_of_mul_lt_mul_right h2
  omega
theorem dig_down {a b U u B q r : Nat} (hY : 0 < a * B + b) (hU : U < a * B + b) (hu : u < B) (h : q * a + r = U) (ht : B ≤ q ∨ B * r + u < q * b) :
    (U * B + u) / (a * B + b) < q := by
  rcases ht with ht | ht
  · exact Nat.lt_of_lt_of_le (dig_lt hU hu) ht
  · rw [Nat.div_lt_iff_lt_mul hY, ← h, Nat.mul_add, Nat.add_mul, ← Nat.mul_assoc, Nat.mul_comm r B]
    omega
theorem dig_end {a b U u B q r : Nat} (hY : 0 < a * B + b) (h : q * a + r = U) (hQ : (U * B + u) / (a * B + b) ≤ q) (ht : q * b ≤ B * r + u) :
    (U * B + u) / (a * B + b) = q := by
  refine Nat.le_antisymm hQ ?_
  rw [Nat.le_div_iff_mul_le hY, ← h, Nat.mul_add, Nat.add_mul, ← Nat.mul_assoc, Nat.mul_comm r B]
  omega
theorem dig_full {b u B q r : Nat} (hb : b < B) (hq : q ≤ B) (hr : B ≤ r) : q * b ≤ B * r + u := by
  have h1 : q * b ≤ B * b := Nat.mul_le_mul_right b hq
  have h2 : B * b ≤ B * r := Nat.mul_le_mul_left B (by omega)
  omega
theorem dig_two {X Y B u : Nat} (hY : 0 < Y) : (X * B + u) / Y = X / Y * B + (X % Y * B + u) / Y := by
  have h : X * B + u = Y * (X / Y * B) + (X % Y * B + u) := by
    have e := Nat.div_add_mod X Y
    have e2 : X * B = (Y * (X / Y) + X % Y) * B := by rw [e]
    rw [e2, Nat.add_mul, Nat.mul_assoc]
    omega
  rw [h, Nat.mul_add_div hY]

/-- A guess of a digit that isn't too low. -/
def Guess (a b U u B q r : Nat) : Prop := q * a + r = U ∧ q ≤ B + 1 ∧ (U * B + u) / (a * B + b) ≤ q
theorem guess_start {a b U u B : Nat} (hb : b < B) (hU : U < a * B + b) (ha : B ≤ 2 * a) (hu : u < B) : Guess a b U u B (U / a) (U % a) :=
  ⟨by rw [Nat.mul_comm]; exact Nat.div_add_mod U a, dig_top hb hU ha, dig_ge (by omega) hu⟩
/-- A round: the guess is lowered by one and goes on, or is lowered and done, or is done as it is. -/
theorem guess_round {a b U u B q r : Nat} (hb : b < B) (hU : U < a * B + b) (hu : u < B) (h : Guess a b U u B q r) :
    (∃ k, q = k + 1 ∧ r + a < B ∧ B ≤ k + 1 ∧ Guess a b U u B k (r + a)) ∨
    (∃ k, q = k + 1 ∧ r + a < B ∧ k + 1 < B ∧ B * r + u < (k + 1) * b ∧ Guess a b U u B k (r + a)) ∨
    (∃ k, q = k + 1 ∧ B ≤ r + a ∧ B ≤ k + 1 ∧ k ≤ B ∧ (U * B + u) / (a * B + b) = k) ∨
    (∃ k, q = k + 1 ∧ B ≤ r + a ∧ k + 1 < B ∧ B * r + u < (k + 1) * b ∧ (U * B + u) / (a * B + b) = k) ∨
    (∃ k, q = k ∧ k < B ∧ k * b ≤ B * r + u ∧ (U * B + u) / (a * B + b) = k) := by
  obtain ⟨h1, h2, h3⟩ := h
  have hY : 0 < a * B + b := by omega
  by_cases c1 : B ≤ q
  · obtain ⟨k, rfl⟩ : ∃ k, q = k + 1 := ⟨q - 1, by omega⟩
    have hd := dig_down hY hU hu h1 (Or.inl c1)
    have hs : k * a + (r + a) = U := by rw [Nat.add_mul] at h1; omega
    by_cases c2 : r + a < B
    · exact Or.inl ⟨k, rfl, c2, c1, hs, by omega, by omega⟩
    · exact Or.inr (Or.inr (Or.inl ⟨k, rfl, by omega, c1, by omega, dig_end hY hs (by omega) (dig_full hb (by omega) (by omega))⟩))
  · by_cases c3 : B * r + u < q * b
    · obtain ⟨k, rfl⟩ : ∃ k, q = k + 1 := ⟨q - 1, by
        rcases Nat.eq_zero_or_pos q with e | e
        · rw [e, Nat.zero_mul] at c3; omega
        · omega⟩
      have hd := dig_down hY hU hu h1 (Or.inr c3)
      have hs : k * a + (r + a) = U := by rw [Nat.add_mul] at h1; omega
      by_cases c2 : r + a < B
      · exact Or.inr (Or.inl ⟨k, rfl, c2, by omega, c3, hs, by omega, by omega⟩)
      · exact Or.inr (Or.inr (Or.inr (Or.inl ⟨k, rfl, by omega, by omega, c3, dig_end hY hs (by omega) (dig_full hb (by omega) (by omega))⟩)))
    · exact Or.inr (Or.inr (Or.inr (Or.inr ⟨q, rfl, by omega, by omega, dig_end hY h1 h3 (by omega)⟩)))

/-! Sums. -/
def tot : List Int → Int
  | [] => 0
  | x :: l => x + tot l
theorem tot_append (a b : List Int) : tot (a ++ b) = tot a + tot b := by
  induction a with
  | nil => simp [tot]
  | cons x l ih => simp only [List.cons_append, tot, ih]; omega
theorem tot_snoc (l : List Int) (k : Nat) (h : k < l.length) : tot (l.take (k + 1)) = tot (l.take k) + l.getD k 0 := by
  rw [List.take_succ_eq_append_getElem h, tot_append]
  simp [tot, List.getD, h]
theorem tot_nonneg (l : List Int) (h : ∀ z ∈ l, 0 ≤ z) : 0 ≤ tot l := by
  induction l with
  | nil => simp [tot]
  | cons x l ih =>
    have h1 := h x (by simp)
    have h2 := ih (fun z hz => h z (by simp [hz]))
    simp only [tot]; omega
theorem tot_take (l : List Int) (k : Nat) (h : ∀ z ∈ l, 0 ≤ z) : tot (l.take k) ≤ tot l := by
  have e : tot l = tot (l.take k) + tot (l.drop k) := by rw [← tot_append, List.take_append_drop]
  have := tot_nonneg (l.drop k) (fun z hz => h z (List.mem_of_mem_drop hz))
  omega
/-- What adding comes to, and whether it fits. -/
def addV (t : Int) (l : List Int) : Int := if t + tot l < 18446744073709551616 then t + tot l else 0
def addB (t : Int) (l : List Int) : Bool := decide (t + tot l < 18446744073709551616)
theorem addV_fits {t : Int} {l : List Int} (h : t + tot l < 18446744073709551616) : addV t l = t + tot l := by simp [addV, h]
theorem addB_fits {t : Int} {l : List Int} (h : t + tot l < 18446744073709551616) : addB t l = true := by simp [addB, h]
theorem addV_over {t : Int} {l : List Int} (h : 18446744073709551616 ≤ t + tot l) : addV t l = 0 := by
  have : ¬ t + tot l < 18446744073709551616 := by omega
  simp [addV, this]
theorem addB_over {t : Int} {l : List Int} (h : 18446744073709551616 ≤ t + tot l) : addB t l = false := by
  have : ¬ t + tot l < 18446744073709551616 := by omega
  simp [addB, this]

end Go.Proofs.Ytggekibapfhcdaa
