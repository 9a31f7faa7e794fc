/-
  Plain lists, with no word of the program: what is written is read, cut off it is too short, what is read has been written so.
-/
import Derived.Test.YtjgainoplgojiabDoorKit
namespace Go.Proofs.YtjgainoplgojiabDoor

/-- What is read where the first byte says that more follow, and they are there. -/
theorem var_mid (l : List Int) (m : Nat) (hl : ∀ z ∈ l, Byte z) (hlead : lead l = m + 1) (hm : m = 2 ∨ m = 4 ∨ m = 8) (hlen : m + 1 ≤ l.length) (hc : (m = 2 → l.getD 0 0 = 253) ∧ (m = 4 → l.getD 0 0 = 254) ∧ (m = 8 → l.getD 0 0 = 255)) :
    var (mid l) = l.take (m + 1) ↔ size (mid l) = (m + 1 : Nat) := by
  have hq : (l.take (m + 1)).drop 1 = (l.drop 1).take m := by rw [List.drop_take]; simp
  have hql : ((l.drop 1).take m).length = m := by simp; omega
  have hqb : ∀ z ∈ (l.drop 1).take m, Byte z := fun z hz => hl z (List.mem_of_mem_drop (List.mem_of_mem_take hz))
  have hmid : mid l = num ((l.drop 1).take m) := by unfold mid; rw [hlead, hq]
  have hput : put m (mid l) = (l.drop 1).take m := by rw [hmid]; have := put_num _ hqb; rw [hql] at this; exact this
  have hhead : l.take (m + 1) = l.getD 0 0 :: (l.drop 1).take m := by
    cases l with
    | nil => simp at hlen
    | cons a l => simp [List.getD]
  constructor
  · intro h
    rw [← var_length, h]
    simp; omega
  · intro h
    rw [hhead, ← hput]
    rcases hm with rfl | rfl | rfl
    · rw [hc.1 rfl]
      rcases size_cases (mid l) with ⟨_, h'⟩ | ⟨h1, h2, h'⟩ | ⟨_, _, h'⟩ | ⟨_, h'⟩ <;> rw [h'] at h <;> simp at h
      unfold var
      rw [if_neg (by omega), if_pos h2]
    · rw [hc.2.1 rfl]
      rcases size_cases (mid l) with ⟨_, h'⟩ | ⟨_, _, h'⟩ | ⟨h1, h2, h'⟩ | ⟨_, h'⟩ <;> rw [h'] at h <;> simp at h
      unfold var
      rw [if_neg (by omega), if_neg (by omega), if_pos h2]
    · rw [hc.2.2 rfl]
      rcases size_cases (mid l) with ⟨_, h'⟩ | ⟨_, _, h'⟩ | ⟨_, _, h'⟩ | ⟨h1, h'⟩ <;> rw [h'] at h <;> simp at h
      unfold var
      rw [if_neg (by omega), if_neg (by omega), if_neg (by omega)]
theorem read_long (l : List Int) (m : Nat) (hl : ∀ z ∈ l, Byte z) (hlead : lead l = m + 1) (hm : m = 2 ∨ m = 4 ∨ m = 8) (hlen : m + 1 ≤ l.length) (hc : (m = 2 → l.getD 0 0 = 253) ∧ (m = 4 → l.getD 0 0 = 254) ∧ (m = 8 → l.getD 0 0 = 255)) :
    (decide (var (mid l) = l.take (m + 1)) = true ∧ readX l = mid l ∧ readN l = (m + 1 : Nat) ∧ readE l = 0) ∨
    (decide (var (mid l) = l.take (m + 1)) = false ∧ readX l = 0 ∧ readN l = 0 ∧ readE l = 6) := by
  have h := var_mid l m hl hlead hm hlen hc
  have h1 : ¬ l.length < m + 1 := by omega
  have h2 : ¬ m + 1 = 1 := by omega
  unfold readX readN readE
  rw [hlead, if_neg h1, if_neg h1, if_neg h1, if_neg h2, if_neg h2, if_neg h2]
  by_cases hs : size (mid l) = (m + 1 : Nat)
  · left
    refine ⟨decide_eq_true (h.2 hs), ?_, ?_, ?_⟩ <;> rw [if_neg (not_not_intro hs)]
  · right
    refine ⟨decide_eq_false fun q => hs (h.1 q), ?_, ?_, ?_⟩ <;> rw [if_pos hs]


theorem read_bad (l : List Int) (h : ¬ readE l = 0) : readX l = 0 ∧ readN l = 0 := by
  unfold readE at h
  unfold readX readN
  split at h
  · rename_i h1
    rw [if_pos h1, if_pos h1]
    exact ⟨rfl, rfl⟩
  · rename_i h1
    split at h
    · exact absurd rfl h
    · rename_i h2
      split at h
      · rename_i h3
        rw [if_neg h1, if_neg h1, if_neg h2, if_neg h2, if_pos h3, if_pos h3]
        exact ⟨rfl, rfl⟩
      · exact absurd rfl h
theorem head_cases (l : List Int) : (lead l = 1 ∧ l.getD 0 0 ≠ 253 ∧ l.getD 0 0 ≠ 254 ∧ l.getD 0 0 ≠ 255) ∨ (lead l = 2 + 1 ∧ l.getD 0 0 = 253) ∨ (lead l = 4 + 1 ∧ l.getD 0 0 = 254) ∨ (lead l = 8 + 1 ∧ l.getD 0 0 = 255) := by
  unfold lead
  rcases behind_cases (l.getD 0 0) with ⟨h1, h⟩ | ⟨h1, h⟩ | ⟨h1, h⟩ | ⟨h1, h2, h3, h⟩
  · rw [h]; exact Or.inr (Or.inl ⟨rfl, h1⟩)
  · rw [h]; exact Or.inr (Or.inr (Or.inl ⟨rfl, h1⟩))
  · rw [h]; exact Or.inr (Or.inr (Or.inr ⟨rfl, h1⟩))
  · rw [h]; exact Or.inl ⟨rfl, h1, h2, h3⟩
theorem mid_word (l : List Int) (hl : ∀ z ∈ l, Byte z) : 0 ≤ mid l ∧ mid l < 18446744073709551616 := by
  have hb : ∀ z ∈ (l.take (lead l)).drop 1, Byte z := fun z hz => hl z (List.mem_of_mem_take (List.mem_of_mem_drop hz))
  have h0 := num_nonneg _ hb
  have h1 := num_lt _ hb
  have hlen : ((l.take (lead l)).drop 1).length ≤ 8 := by
    have := lead_cases l
    simp
    omega
  unfold mid
  refine ⟨h0, ?_⟩
  generalize num ((l.take (lead l)).drop 1) = y at *
  generalize ((l.take (lead l)).drop 1).length = n at *
  rcases (show n = 0 ∨ n = 1 ∨ n = 2 ∨ n = 3 ∨ n = 4 ∨ n = 5 ∨ n = 6 ∨ n = 7 ∨ n = 8 by omega) with rfl | rfl | rfl | rfl | rfl | rfl | rfl | rfl | rfl <;> simp at h1 <;> omega
/-- What is read has been written so. -/
theorem read_ok (l : List Int) (hl : ∀ z ∈ l, Byte z) (h : readE l = 0) :
    ∃ n : Nat, readN l = n ∧ 1 ≤ n ∧ n ≤ l.length ∧ n ≤ 9 ∧ var (readX l) = l.take n ∧ 0 ≤ readX l ∧ readX l < 18446744073709551616 := by
  have hlen : ¬ l.length < lead l := by
    intro q
    unfold readE at h
    rw [if_pos q] at h
    simp at h
  rcases head_cases l with ⟨h1, h2, h3, h4⟩ | ⟨h1, h2⟩ | ⟨h1, h2⟩ | ⟨h1, h2⟩
  · have hp : 0 < l.length := by omega
    obtain ⟨hc0, hc1⟩ := hl (l.getD 0 0) (by simp [List.getD, hp])
    have ex : readX l = l.getD 0 0 := by unfold readX; rw [if_neg hlen, if_pos h1]
    have en : readN l = (1 : Nat) := by unfold readN; rw [if_neg hlen, if_pos h1]; rfl
    refine ⟨1, en, by omega, by omega, by omega, ?_, by omega, by omega⟩
    rw [ex]
    unfold var
    rw [if_pos (by omega)]
    cases l with
    | nil => simp at hp
    | cons a l => simp [List.getD]
  · rcases read_long l 2 hl h1 (by omega) (by omega) ⟨fun _ => h2, by omega, by omega⟩ with ⟨q1, q2, q3, q4⟩ | ⟨q1, q2, q3, q4⟩
    · exact ⟨2 + 1, q3, by omega, by omega, by omega, by rw [q2]; exact of_decide_eq_true q1, by rw [q2]; exact (mid_word l hl).1, by rw [q2]; exact (mid_word l hl).2⟩
    · omega
  · rcases read_long l 4 hl h1 (by omega) (by omega) ⟨by omega, fun _ => h2, by omega⟩ with ⟨q1, q2, q3, q4⟩ | ⟨q1, q2, q3, q4⟩
    · exact ⟨4 + 1, q3, by omega, by omega, by omega, by rw [q2]; exact of_decide_eq_true q1, by rw [q2]; exact (mid_word l hl).1, by rw [q2]; exact (mid_word l hl).2⟩
    · omega
  · rcases read_long l 8 hl h1 (by omega) (by omega) ⟨by omega, by omega, fun _ => h2⟩ with ⟨q1, q2, q3, q4⟩ | ⟨q1, q2, q3, q4⟩
    · exact ⟨8 + 1, q3, by omega, by omega, by omega, by rw [q2]; exact of_decide_eq_true q1, by rw [q2]; exact (mid_word l hl).1, by rw [q2]; exact (mid_word l hl).2⟩
    · omega
/-- The form of a number that is as short as may be. -/
theorem var_form (x : Int) (h0 : 0 ≤ x) (h1 : x < 18446744073709551616) : (x < 253 ∧ var x = [x]) ∨
    (∃ m : Nat, (m = 2 ∨ m = 4 ∨ m = 8) ∧ ∃ c : Int, behind c = m ∧ var x = c :: put m x ∧ size x = (m + 1 : Nat) ∧ x < 256 ^ m) := by
  rcases size_cases x with ⟨h, _⟩ | ⟨h, h', e⟩ | ⟨h, h', e⟩ | ⟨h, e⟩
  · exact Or.inl ⟨h, by unfold var; rw [if_pos h]⟩
  · exact Or.inr ⟨2, by omega, 253, rfl, by unfold var; rw [if_neg (by omega), if_pos h'], e, by simp; omega⟩
  · exact Or.inr ⟨4, by omega, 254, rfl, by unfold var; rw [if_neg (by omega), if_neg (by omega), if_pos h'], e, by simp; omega⟩
  · exact Or.inr ⟨8, by omega, 255, rfl, by unfold var; rw [if_neg (by omega), if_neg (by omega), if_neg (by omega)], e, by simp; omega⟩
/-- What is written is read, whatever stands behind it. -/
theorem read_var (x : Int) (h0 : 0 ≤ x) (h1 : x < 18446744073709551616) (r : List Int) : readX (var x ++ r) = x ∧ readN (var x ++ r) = ((var x).length : Int) ∧ readE (var x ++ r) = 0 := by
  rcases var_form x h0 h1 with ⟨h, e⟩ | ⟨m, hm, c, hc, e, hs, hx⟩
  · have hlead : lead ([x] ++ r) = 1 := by
      unfold lead
      have : behind (([x] ++ r).getD 0 0) = 0 := by
        simp only [List.getD, List.cons_append, List.nil_append, List.getElem?_cons_zero, Option.getD_some]
        rcases behind_cases x with ⟨q, _⟩ | ⟨q, _⟩ | ⟨q, _⟩ | ⟨_, _, _, q⟩ <;> omega
      rw [this]
      rfl
    rw [e]
    have hl : ¬ ([x] ++ r).length < 1 := by simp
    have h2 : (1 : Nat) = 1 := rfl
    unfold readX readN readE
    rw [hlead, if_neg hl, if_neg hl, if_neg hl, if_pos h2, if_pos h2, if_pos h2]
    exact ⟨rfl, rfl, rfl⟩
  · have hlead : lead (c :: put m x ++ r) = m + 1 := by
      unfold lead
      have : (c :: put m x ++ r).getD 0 0 = c := rfl
      rw [this, hc]
      simp
      omega
    have hmid : mid (c :: put m x ++ r) = x := by
      unfold mid
      rw [hlead]
      have : List.drop 1 (List.take (m + 1) (c :: put m x ++ r)) = put m x := by
        simp only [List.cons_append, List.take_succ_cons, List.drop_succ_cons, List.drop_zero]
        rw [List.take_left' (put_length _ _)]
      rw [this]
      exact num_put m x h0 hx
    have hl : ¬ (c :: put m x ++ r).length < m + 1 := by simp [put_length]
    have h2 : ¬ m + 1 = 1 := by omega
    rw [e]
    unfold readX readN readE
    rw [hlead, hmid, if_neg hl, if_neg hl, if_neg hl, if_neg h2, if_neg h2, if_neg h2, if_neg (not_not_intro hs), if_neg (not_not_intro hs), if_neg (not_not_intro hs)]
    refine ⟨rfl, ?_, rfl⟩
    simp [put_length]
/-- Cut off, it is too short. -/
theorem read_cut (x : Int) (h0 : 0 ≤ x) (h1 : x < 18446744073709551616) (i : Nat) (hi : i < (var x).length) : readE ((var x).take i) = 4 := by
  have hshort : ((var x).take i).length < lead ((var x).take i) := by
    rw [List.length_take]
    cases i with
    | zero => simp [lead]; omega
    | succ j =>
      rcases var_form x h0 h1 with ⟨h, e⟩ | ⟨m, hm, c, hc, e, hs, hx⟩
      · rw [e] at hi
        simp at hi
      · rw [e] at hi ⊢
        have : lead ((c :: put m x).take (j + 1)) = m + 1 := by
          unfold lead
          have : ((c :: put m x).take (j + 1)).getD 0 0 = c := rfl
          rw [this, hc]
          simp
          omega
        rw [this]
        simp [put_length] at hi ⊢
        omega
  unfold readE
  rw [if_pos hshort]
end Go.Proofs.YtjgainoplgojiabDoor
