/-
  A head whose told length is written anew, and what is read of it: with no word of the program's memory.
-/
import Derived.Test.YtbhninaaeeoamabDoorFrTurn
namespace Go.Proofs.YtbhninaaeeoamabDoor

def txB : ByteArray := ⟨#[116, 120]⟩
theorem tx_str : strL txB = [116, 120] := rfl
theorem tx_named : namedL (strL txB) = true := rfl
/-- The head when k bytes have been written. -/
def longL (x ck : Int) (k : Nat) : List Int := magicL ++ (strL txB ++ List.replicate 10 0) ++ ((put 4 x).take k ++ List.replicate (4 - k) 0) ++ put 4 ck
theorem longL_start (x ck : Int) : longL x ck 0 = headL (strL txB) 0 ck := rfl
theorem longL_end (x ck : Int) : longL x ck 4 = headL (strL txB) x ck := rfl
theorem longL_next (x ck : Int) (k : Nat) (hk : k < 4) : (longL x ck k).set (16 + k) ((put 4 x).getD k 0) = longL x ck (k + 1) := by
  rcases (show k = 0 ∨ k = 1 ∨ k = 2 ∨ k = 3 by omega) with rfl | rfl | rfl | rfl <;> rfl
theorem longL_length (x ck : Int) (k : Nat) (hk : k ≤ 4) : (longL x ck k).length = 24 := by
  rcases (show k = 0 ∨ k = 1 ∨ k = 2 ∨ k = 3 ∨ k = 4 by omega) with rfl | rfl | rfl | rfl | rfl <;> rfl
theorem long_big {x ck : Int} (hx : 0 ≤ x ∧ x < 4294967296) (h : 2048 < x) : hdE (headL (strL txB) x ck) = 5 ∧ hdC (headL (strL txB) x ck) = [] ∧ hdN (headL (strL txB) x ck) = 0 ∧ hdS (headL (strL txB) x ck) = 0 ∧ ∀ r, geE (headL (strL txB) x ck ++ r) = 5 := by
  obtain ⟨h1, h2, h3, h4⟩ := headL_parts (c := strL txB) (by decide) x ck
  have e1 : num (put 4 x) = x := num_put 4 x hx.1 (by simpa using hx.2)
  have hl : (headL (strL txB) x ck).length = 24 := headL_length (by decide) _ _
  have hE : hdE (headL (strL txB) x ck) = 5 := by
    unfold hdE
    rw [if_pos hl, if_pos h1, h3, e1, if_neg (by omega)]
  refine ⟨hE, ?_, ?_, ?_, fun r => ?_⟩
  · unfold hdC
    rw [if_neg (by omega)]
  · unfold hdN
    rw [if_neg (by omega)]
  · unfold hdS
    rw [if_neg (by omega)]
  · unfold geE
    rw [List.length_append, hl, if_neg (by omega), take_head hl, hE, if_neg (by omega)]
theorem long_small {x ck : Int} (hx : 0 ≤ x ∧ x < 4294967296) (h : x ≤ 2048) (hc : 0 ≤ ck ∧ ck < 4294967296) : hdE (headL (strL txB) x ck) = 0 ∧ hdC (headL (strL txB) x ck) = strL txB ∧ hdN (headL (strL txB) x ck) = x ∧
    ∀ r, ((r.length : Int) < x → geE (headL (strL txB) x ck ++ r) = 4) ∧ (¬ (r.length : Int) < x → ¬ geE (headL (strL txB) x ck ++ r) = 4) := by
  obtain ⟨h1, h2, h3, h4⟩ := head_back tx_named (n := x) (s := ck) ⟨hx.1, h⟩ hc
  have hl : (headL (strL txB) x ck).length = 24 := headL_length (by decide) _ _
  refine ⟨h1, h2, h3, fun r => ⟨fun hr => ?_, fun hr => ?_⟩⟩
  · unfold geE
    rw [List.length_append, hl, if_neg (by omega), take_head hl, h1, h3, if_pos rfl, if_pos (by omega)]
  · unfold geE
    rw [List.length_append, hl, if_neg (by omega), take_head hl, h1, h2, h3, if_pos rfl, if_neg (by omega), if_neg (by rw [tx_str]; simp)]
    split <;> omega

end Go.Proofs.YtbhninaaeeoamabDoor
