/-
  Plain numbers and lists, with no word of the program: a number as n bytes, a number as short as may be, what is read of bytes.
-/
namespace Go.Proofs.YtbhninaaeeoamabDoor

def Byte (x : Int) : Prop := 0 ≤ x ∧ x < 256
/-- x as n bytes, the lowest first. -/
def put : Nat → Int → List Int
  | 0, _ => []
  | n + 1, x => x % 256 :: put n (x / 256)
/-- The number that bytes are. -/
def num : List Int → Int
  | [] => 0
  | c :: l => c + 256 * num l
theorem put_length : ∀ (n : Nat) (x : Int), (put n x).length = n
  | 0, _ => rfl
  | n + 1, x => by simp [put, put_length n]
theorem put_byte : ∀ (n : Nat) (x : Int), ∀ z ∈ put n x, Byte z
  | 0, _ => by simp [put]
  | n + 1, x => by
    intro z hz
    simp only [put, List.mem_cons] at hz
    rcases hz with rfl | hz
    · exact ⟨by omega, by omega⟩
    · exact put_byte n _ z hz
theorem num_put : ∀ (n : Nat) (x : Int), 0 ≤ x → x < 256 ^ n → num (put n x) = x
  | 0, x, h0, h1 => by simp at h1; simp [put, num]; omega
  | n + 1, x, h0, h1 => by
    rw [Int.pow_succ] at h1
    have := num_put n (x / 256) (by omega) (by omega)
    simp only [put, num, this]
    omega
theorem put_num : ∀ (l : List Int), (∀ z ∈ l, Byte z) → put l.length (num l) = l
  | [], _ => rfl
  | c :: l, h => by
    have hc := h c (by simp)
    obtain ⟨h0, h1⟩ := hc
    have e1 : (c + 256 * num l) % 256 = c := by omega
    have e2 : (c + 256 * num l) / 256 = num l := by omega
    simp only [List.length_cons, num, put, e1, e2]
    rw [put_num l (fun z hz => h z (by simp [hz]))]
theorem num_nonneg : ∀ (l : List Int), (∀ z ∈ l, Byte z) → 0 ≤ num l
  | [], _ => by simp [num]
  | c :: l, h => by
    have hc := (h c (by simp)).1
    have := num_nonneg l (fun z hz => h z (by simp [hz]))
    simp only [num]; omega
theorem num_lt : ∀ (l : List Int), (∀ z ∈ l, Byte z) → num l < 256 ^ l.length
  | [], _ => by simp [num]
  | c :: l, h => by
    have hc := (h c (by simp)).2
    have := num_lt l (fun z hz => h z (by simp [hz]))
    simp only [num, List.length_cons, Int.pow_succ]; omega
theorem num_snoc : ∀ (l : List Int) (c : Int), num (l ++ [c]) = num l + c * 256 ^ l.length
  | [], c => by simp [num]
  | a :: l, c => by
    simp only [List.cons_append, num, num_snoc l c, List.length_cons, Int.pow_succ, Int.mul_add]
    have : 256 * (c * 256 ^ l.length) = c * (256 ^ l.length * 256) := by
      rw [Int.mul_comm 256, Int.mul_assoc]
    omega
/-- Put's test: is the number greater than n bytes can hold? -/
theorem put_rest : ∀ (n : Nat) (x : Int), 0 ≤ x → (x / 256 ^ n = 0 ↔ x < 256 ^ n) := by
  intro n x h0
  have hp : (0 : Int) < 256 ^ n := Int.pow_pos (by omega)
  constructor
  · intro h
    have := Int.lt_ediv_add_one_mul_self x hp
    rw [h] at this
    omega
  · intro h
    exact Int.ediv_eq_zero_of_lt h0 h

/-- How many bytes a number has, as short as may be. -/
def size (x : Int) : Int := if x < 253 then 1 else if x ≤ 65535 then 3 else if x ≤ 4294967295 then 5 else 9
/-- How many bytes stand behind the first one. -/
def behind (c : Int) : Int := if c = 253 then 2 else if c = 254 then 4 else if c = 255 then 8 else 0
/-- A number as short as may be. -/
def var (x : Int) : List Int := if x < 253 then [x] else if x ≤ 65535 then 253 :: put 2 x else if x ≤ 4294967295 then 254 :: put 4 x else 255 :: put 8 x
theorem var_length (x : Int) : ((var x).length : Int) = size x := by
  unfold var size
  split
  · rfl
  · split
    · simp [put_length]
    · split <;> simp [put_length]
theorem var_byte (x : Int) (h0 : 0 ≤ x) : ∀ z ∈ var x, Byte z := by
  unfold var
  intro z hz
  split at hz
  · simp at hz; subst hz; exact ⟨by omega, by omega⟩
  · split at hz
    · simp only [List.mem_cons] at hz
      rcases hz with rfl | hz
      · exact ⟨by omega, by omega⟩
      · exact put_byte _ _ z hz
    · split at hz
      · simp only [List.mem_cons] at hz
        rcases hz with rfl | hz
        · exact ⟨by omega, by omega⟩
        · exact put_byte _ _ z hz
      · simp only [List.mem_cons] at hz
        rcases hz with rfl | hz
        · exact ⟨by omega, by omega⟩
        · exact put_byte _ _ z hz
theorem size_cases (x : Int) : (x < 253 ∧ size x = 1) ∨ (253 ≤ x ∧ x ≤ 65535 ∧ size x = 3) ∨ (65535 < x ∧ x ≤ 4294967295 ∧ size x = 5) ∨ (4294967295 < x ∧ size x = 9) := by
  unfold size
  split
  · exact Or.inl ⟨by omega, rfl⟩
  · split
    · exact Or.inr (Or.inl ⟨by omega, by omega, rfl⟩)
    · split
      · exact Or.inr (Or.inr (Or.inl ⟨by omega, by omega, rfl⟩))
      · exact Or.inr (Or.inr (Or.inr ⟨by omega, rfl⟩))
theorem behind_cases (c : Int) : (c = 253 ∧ behind c = 2) ∨ (c = 254 ∧ behind c = 4) ∨ (c = 255 ∧ behind c = 8) ∨ (c ≠ 253 ∧ c ≠ 254 ∧ c ≠ 255 ∧ behind c = 0) := by
  unfold behind
  split
  · exact Or.inl ⟨by omega, rfl⟩
  · split
    · exact Or.inr (Or.inl ⟨by omega, rfl⟩)
    · split
      · exact Or.inr (Or.inr (Or.inl ⟨by omega, rfl⟩))
      · exact Or.inr (Or.inr (Or.inr ⟨by omega, by omega, by omega, rfl⟩))

/-- How many bytes the number has with which bytes begin, as its first byte says. -/
def lead (l : List Int) : Nat := 1 + (behind (l.getD 0 0)).toNat
/-- What stands behind the first byte, as a number. -/
def mid (l : List Int) : Int := num ((l.take (lead l)).drop 1)
/-- What is read: the number, how many bytes it has, and the word for how it went: 0, 4 (it ends early), 6 (it isn't as short as may be). -/
def readX (l : List Int) : Int := if l.length < lead l then 0 else if lead l = 1 then l.getD 0 0 else if size (mid l) ≠ lead l then 0 else mid l
def readN (l : List Int) : Int := if l.length < lead l then 0 else if lead l = 1 then 1 else if size (mid l) ≠ lead l then 0 else lead l
def readE (l : List Int) : Int := if l.length < lead l then 4 else if lead l = 1 then 0 else if size (mid l) ≠ lead l then 6 else 0
theorem lead_cases (l : List Int) : lead l = 1 ∨ lead l = 3 ∨ lead l = 5 ∨ lead l = 9 := by
  unfold lead
  rcases behind_cases (l.getD 0 0) with ⟨_, h⟩ | ⟨_, h⟩ | ⟨_, h⟩ | ⟨_, _, _, h⟩ <;> rw [h] <;> simp

end Go.Proofs.YtbhninaaeeoamabDoor
