/-
  Strings as lists of numbers. Nothing here speaks of one function.
-/
import Derived.Test.YtbhninaaeeoamabDoorOct
import Derived.Laws.BytesArg
import Derived.Laws.Strings
namespace Go.Proofs.YtbhninaaeeoamabDoor

/-- A string's bytes. -/
def strL (s : ByteArray) : List Int := s.data.toList.map fun b => (b.toNat : Int)
theorem strL_length (s : ByteArray) : (strL s).length = s.size := by
  rw [strL, List.length_map, Array.length_toList]
  rfl
theorem strL_byte (s : ByteArray) : ∀ z ∈ strL s, Byte z := by
  intro z hz
  obtain ⟨b, _, rfl⟩ := List.mem_map.1 hz
  have := b.toNat_lt
  exact ⟨by omega, by omega⟩
theorem str_strL (s : ByteArray) : strOfNums (strL s) = s := by
  obtain ⟨d⟩ := s
  simp [strOfNums, strL, Function.comp_def]
theorem strL_str (l : List Int) (h : ∀ z ∈ l, Byte z) : strL (strOfNums l) = l := by
  unfold strL strOfNums
  simp only [List.map_map]
  conv => rhs; rw [← List.map_id l]
  refine List.map_congr_left fun z hz => ?_
  obtain ⟨h0, h1⟩ := h z hz
  have : z.toNat < 256 := by omega
  simp [Nat.mod_eq_of_lt this]
  omega
theorem strL_at (s : ByteArray) (i : Nat) (h : i < s.size) : ((s[i]'h).toNat : Int) = (strL s).getD i 0 := by
  have h' : i < s.data.size := h
  simp only [strL, List.getD_eq_getElem?_getD, List.getElem?_map, Array.getElem?_toList, Array.getElem?_eq_getElem h', Option.map_some, Option.getD_some]
  rfl
theorem str_beq (a b : ByteArray) : (a.toList == b.toList) = decide (strL a = strL b) := by
  rw [ByteArray.toList_eq, ByteArray.toList_eq]
  by_cases h : a.data.toList = b.data.toList
  · simp [h, strL]
  · have h1 : (a.data.toList == b.data.toList) = false := by simpa using h
    rw [h1]
    symm
    refine decide_eq_false fun e => h ?_
    have e1 := str_strL a
    rw [e, str_strL] at e1
    rw [e1]
theorem strL_inj {a b : ByteArray} (h : strL a = strL b) : a = b := by rw [← str_strL a, h, str_strL]
theorem str_nil : strOfNums [] = ⟨#[]⟩ := rfl

end Go.Proofs.YtbhninaaeeoamabDoor
