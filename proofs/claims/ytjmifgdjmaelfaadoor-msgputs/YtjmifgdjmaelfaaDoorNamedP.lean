/-
  A command's name. Nothing here speaks of one function.
-/
import Derived.Test.YtjmifgdjmaelfaaDoorKit
namespace Go.Proofs.YtjmifgdjmaelfaaDoor
open Go.RowKit

/-- A small letter. -/
def letterB (z : Int) : Bool := decide (97 ≤ z) && decide (z ≤ 122)
/-- Is it a command's name? -/
def namedL (l : List Int) : Bool := decide (1 ≤ l.length) && decide (l.length ≤ 12) && l.all letterB
theorem letter_not {z : Int} (h : letterB z = true) : ¬ z = 0 := by
  simp [letterB] at h
  omega
theorem named_all {c : List Int} (h : namedL c = true) : 1 ≤ c.length ∧ c.length ≤ 12 ∧ ∀ z ∈ c, letterB z = true := by
  simp only [namedL, Bool.and_eq_true, decide_eq_true_eq, List.all_eq_true] at h
  exact ⟨h.1.1, h.1.2, h.2⟩
theorem named_mk {c : List Int} (h1 : 1 ≤ c.length) (h2 : c.length ≤ 12) (h3 : ∀ z ∈ c, letterB z = true) : namedL c = true := by
  simp only [namedL, Bool.and_eq_true, decide_eq_true_eq, List.all_eq_true]
  exact ⟨⟨h1, h2⟩, h3⟩
/-- What holds at the head of a round. -/
def Naming (s : ByteArray) (i : Value) : Prop := ∃ k : Nat, k ≤ s.size ∧ i = .int .i64 k ∧ ((strL s).take k).all letterB = true
theorem named_next {s : ByteArray} {k : Nat} (h : k < s.size) (hk : ((strL s).take k).all letterB = true) (hz : letterB ((strL s).getD k 0) = true) : ((strL s).take (k + 1)).all letterB = true := by
  have h' : k < (strL s).length := by rw [strL_length]; exact h
  rw [List.take_succ_eq_append_getElem h', List.all_append, hk]
  simp only [List.getD, List.getElem?_eq_getElem h', Option.getD_some] at hz
  simp [hz]
theorem named_bad {s : ByteArray} {k : Nat} (h : k < s.size) (hz : letterB ((strL s).getD k 0) = false) : namedL (strL s) = false := by
  have h' : k < (strL s).length := by rw [strL_length]; exact h
  have hm : (strL s)[k] ∈ strL s := List.getElem_mem h'
  simp only [List.getD, List.getElem?_eq_getElem h', Option.getD_some] at hz
  cases hn : namedL (strL s) with
  | false => rfl
  | true => have := (named_all hn).2.2 _ hm; rw [hz] at this; cases this

end Go.Proofs.YtjmifgdjmaelfaaDoor
