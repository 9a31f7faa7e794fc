/-
  A frame whose name is written over by another one, and what is read of it: with no word of the program's memory.
-/
import Derived.Test.YtbhninaaeeoamabDoorFrTurn
namespace Go.Proofs.YtbhninaaeeoamabDoor

/-- What holds of a name so far. -/
def goodB (s : ByteArray) (k : Nat) : Bool := (decide (0 < s.size) && decide (s.size ≤ 12)) && ((strL s).take k).all letterB
theorem goodB_off {s : ByteArray} {k : Nat} (h : goodB s k = false) : goodB s (k + 1) = false := by
  unfold goodB at h ⊢
  cases hp : (decide (0 < s.size) && decide (s.size ≤ 12)) with
  | false => rfl
  | true =>
    rw [hp, Bool.true_and] at h
    rw [Bool.true_and]
    by_cases hk : k < (strL s).length
    · rw [List.take_succ_eq_append_getElem hk, List.all_append, h, Bool.false_and]
    · rw [List.take_of_length_le (by omega)] at h ⊢
      exact h
theorem goodB_on {s : ByteArray} {k : Nat} (h : goodB s k = true) : 0 < s.size ∧ s.size ≤ 12 := by
  unfold goodB at h
  simp only [Bool.and_eq_true, decide_eq_true_eq] at h
  exact h.1
theorem goodB_next {s : ByteArray} {k : Nat} (h : goodB s k = true) (hk : k < s.size) : goodB s (k + 1) = letterB ((strL s).getD k 0) := by
  have h' : k < (strL s).length := by rw [strL_length]; exact hk
  unfold goodB at h ⊢
  simp only [Bool.and_eq_true] at h
  rw [h.1.1, h.1.2, List.take_succ_eq_append_getElem h', List.all_append, h.2]
  simp [List.getD, h']
theorem goodB_end {s : ByteArray} {k : Nat} (h : s.size ≤ 12 → k = s.size) : goodB s k = namedL (strL s) := by
  unfold goodB namedL
  rw [strL_length]
  by_cases h12 : s.size ≤ 12
  · rw [h h12, List.take_of_length_le (by rw [strL_length]; omega)]
    simp [Nat.succ_le_iff]
  · simp [h12]
theorem goodB_zero (s : ByteArray) : goodB s 0 = (decide (0 < s.size) && decide (s.size ≤ 12)) := by simp [goodB]

/-- The name written over. -/
theorem over_name (c l : List Int) (hc : c.length ≤ 12) (x1 x2 : List Int) (h1 : x1 = (frameL [97] l).set 4 0) (h2 : x2 = x1.take 4 ++ (c ++ x1.drop (4 + c.length))) :
    x2 = headL c l.length (chk l) ++ l := by
  have e1 : x1 = magicL ++ (List.replicate 12 0 ++ (put 4 l.length ++ put 4 (chk l) ++ l)) := by
    rw [h1]
    unfold frameL headL
    simp only [List.append_assoc]
    rfl
  have hm : magicL.length = 4 := rfl
  rw [h2, e1, List.take_left' hm, List.drop_append, hm, List.drop_eq_nil_of_le (by rw [hm]; omega), List.nil_append, show 4 + c.length - 4 = c.length by omega,
    List.drop_append_of_le_length (by simpa using hc), List.drop_replicate]
  unfold headL
  simp only [List.append_assoc]
theorem names_get (c l : List Int) (hc : c.length ≤ 12) (hn : namedL c = false) (hl : l.length ≤ 2048) :
    geN (headL c l.length (chk l) ++ l) = 24 + l.length ∧
    ((nameL (c ++ List.replicate (12 - c.length) 0) = [] ∧ geE (headL c l.length (chk l) ++ l) = 8 ∧ geC (headL c l.length (chk l) ++ l) = [] ∧ geB (headL c l.length (chk l) ++ l) = []) ∨
     (geE (headL c l.length (chk l) ++ l) = 0 ∧ namedL (geC (headL c l.length (chk l) ++ l)) = true ∧ ¬ geC (headL c l.length (chk l) ++ l) = c ∧ geB (headL c l.length (chk l) ++ l) = l)) := by
  have hB : (c ++ List.replicate (12 - c.length) (0 : Int)).length = 12 := by simp; omega
  have hp : (headL c l.length (chk l)).length = 24 := headL_length hc _ _
  have hw := chk_word l
  have e1 : num (put 4 (l.length : Int)) = l.length := num_put 4 _ (by omega) (by simp; omega)
  have e2 : num (put 4 (chk l)) = chk l := num_put 4 _ hw.1 (by simpa using hw.2)
  obtain ⟨s1, s2, s3, s4⟩ := (head_says (A := magicL) rfl hB (put_length 4 (l.length : Int)) (put_length 4 (chk l))).2 rfl (by rw [e1]; omega)
  change hdE (headL c l.length (chk l)) = 0 at s1
  change hdC (headL c l.length (chk l)) = _ at s2
  change hdN (headL c l.length (chk l)) = _ at s3
  change hdS (headL c l.length (chk l)) = _ at s4
  rw [e1] at s3
  rw [e2] at s4
  have hbd : bodyL (headL c l.length (chk l) ++ l) = l := by
    rw [body_head hp, s3]
    simp
  have hE : geE (headL c l.length (chk l) ++ l) = if nameL (c ++ List.replicate (12 - c.length) 0) = [] then 8 else 0 := by
    unfold geE
    rw [List.length_append, hp, if_neg (by omega), take_head hp, hbd, s1, s2, s3, s4, if_pos rfl, if_neg (by omega)]
    split <;> simp
  have hN : geN (headL c l.length (chk l) ++ l) = 24 + l.length := by
    unfold geN
    rw [if_pos (by rw [hE]; split <;> simp), take_head hp, s3]
  refine ⟨hN, ?_⟩
  by_cases hnm : nameL (c ++ List.replicate (12 - c.length) 0) = []
  · left
    rw [if_pos hnm] at hE
    refine ⟨hnm, hE, ?_, ?_⟩
    · unfold geC; rw [if_neg (by omega)]
    · unfold geB; rw [if_neg (by omega)]
  · right
    rw [if_neg hnm] at hE
    have hC : geC (headL c l.length (chk l) ++ l) = nameL (c ++ List.replicate (12 - c.length) 0) := by
      unfold geC; rw [if_pos hE, take_head hp, s2]
    have hnn := name_named _ hnm
    refine ⟨hE, by rw [hC]; exact hnn, fun e => ?_, ?_⟩
    · rw [hC] at e
      rw [e, hn] at hnn
      cases hnn
    · unfold geB; rw [if_pos hE, hbd]
theorem a_named : namedL (strL ⟨#[97]⟩) = true := rfl
theorem a_str : strL ⟨#[97]⟩ = [97] := rfl

end Go.Proofs.YtbhninaaeeoamabDoor
