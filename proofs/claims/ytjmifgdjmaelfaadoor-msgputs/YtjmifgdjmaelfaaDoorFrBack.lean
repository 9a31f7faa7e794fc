/-
  What is read of a frame, whole, with bytes behind it, or cut off: with no word of the program's memory.
-/
import Derived.Test.YtjmifgdjmaelfaaDoorFrA
namespace Go.Proofs.YtjmifgdjmaelfaaDoor

theorem headL_parts {c : List Int} (hc : c.length ≤ 12) (n s : Int) :
    (headL c n s).take 4 = magicL ∧ ((headL c n s).drop 4).take 12 = c ++ List.replicate (12 - c.length) 0 ∧ ((headL c n s).drop 16).take 4 = put 4 n ∧ (headL c n s).drop 20 = put 4 s := by
  have hB : (c ++ List.replicate (12 - c.length) (0 : Int)).length = 12 := by simp; omega
  unfold headL
  generalize c ++ List.replicate (12 - c.length) (0 : Int) = B at *
  have hC := put_length 4 n
  have hD := put_length 4 s
  generalize put 4 n = C at *
  generalize put 4 s = D at *
  have hA : magicL.length = 4 := rfl
  generalize magicL = A at *
  have e4 : (A ++ B ++ C ++ D).drop 4 = B ++ C ++ D := by
    rw [List.append_assoc, List.append_assoc, ← hA, List.drop_left, List.append_assoc]
  have e16 : (A ++ B ++ C ++ D).drop 16 = C ++ D := by
    rw [List.append_assoc, show 16 = (A ++ B).length by simp; omega, List.drop_left]
  refine ⟨?_, ?_, ?_, ?_⟩
  · rw [List.append_assoc, List.append_assoc, ← hA, List.take_left]
  · rw [e4, List.append_assoc, ← hB, List.take_left]
  · rw [e16, ← hC, List.take_left]
  · rw [show 20 = (A ++ B ++ C).length by simp; omega, List.drop_left]
theorem head_back {c : List Int} (hc : namedL c = true) {n s : Int} (hn : 0 ≤ n ∧ n ≤ 2048) (hs : 0 ≤ s ∧ s < 4294967296) :
    hdE (headL c n s) = 0 ∧ hdC (headL c n s) = c ∧ hdN (headL c n s) = n ∧ hdS (headL c n s) = s := by
  have hl := (named_all hc).2.1
  obtain ⟨h1, h2, h3, h4⟩ := headL_parts hl n s
  have e1 : num (put 4 n) = n := num_put 4 n hn.1 (by have := hn.2; simp; omega)
  have e2 : num (put 4 s) = s := num_put 4 s hs.1 (by have := hs.2; simp; omega)
  have hE : hdE (headL c n s) = 0 := by
    unfold hdE
    rw [headL_length hl, h1, h3, e1, if_pos rfl, if_pos rfl, if_pos hn.2]
  refine ⟨hE, ?_, ?_, ?_⟩
  · unfold hdC
    rw [if_pos hE, h2, name_back hc]
  · unfold hdN
    rw [if_pos hE, h3, e1]
  · unfold hdS
    rw [if_pos hE, h4, e2]
/-- A frame. -/
def frameL (c l : List Int) : List Int := headL c l.length (chk l) ++ l
theorem frameL_length {c : List Int} (hc : namedL c = true) (l : List Int) : (frameL c l).length = 24 + l.length := by
  unfold frameL
  rw [List.length_append, headL_length (named_all hc).2.1]
theorem frameL_head {c : List Int} (hc : namedL c = true) (l rest : List Int) : (frameL c l ++ rest).take 24 = headL c l.length (chk l) := by
  unfold frameL
  rw [List.append_assoc, ← headL_length (named_all hc).2.1 (l.length : Int) (chk l), List.take_left]
/-- What is put is got, whatever stands behind it. -/
theorem frame_back {c l : List Int} (hc : namedL c = true) (hl : l.length ≤ 2048) (rest : List Int) :
    geE (frameL c l ++ rest) = 0 ∧ geC (frameL c l ++ rest) = c ∧ geB (frameL c l ++ rest) = l ∧ geN (frameL c l ++ rest) = 24 + l.length := by
  obtain ⟨h1, h2, h3, h4⟩ := head_back hc (n := l.length) (s := chk l) ⟨by omega, by omega⟩ (chk_word l)
  have hh := frameL_head hc l rest
  have hlen : (frameL c l ++ rest).length = 24 + l.length + rest.length := by rw [List.length_append, frameL_length hc]
  have hb : bodyL (frameL c l ++ rest) = l := by
    unfold bodyL
    rw [hh, h3]
    unfold frameL
    rw [List.append_assoc, ← headL_length (named_all hc).2.1 (l.length : Int) (chk l), List.drop_left]
    simp
  have hcn : ¬ c = [] := fun e => by have := (named_all hc).1; rw [e] at this; simp at this
  have hE : geE (frameL c l ++ rest) = 0 := by
    unfold geE
    rw [hh, hb, h1, h2, h3, h4, if_neg (by omega), if_pos rfl, if_neg (by omega), if_neg hcn, if_pos rfl]
  refine ⟨hE, ?_, ?_, ?_⟩
  · unfold geC
    rw [if_pos hE, hh, h2]
  · unfold geB
    rw [if_pos hE, hb]
  · unfold geN
    rw [if_pos (Or.inl hE), hh, h3]
/-- Cut off it is too short. -/
theorem frame_cut {c l : List Int} (hc : namedL c = true) (hl : l.length ≤ 2048) (k : Nat) (hk : k < 24 + l.length) :
    geE ((frameL c l).take k) = 4 := by
  obtain ⟨h1, h2, h3, h4⟩ := head_back hc (n := l.length) (s := chk l) ⟨by omega, by omega⟩ (chk_word l)
  have hlen : ((frameL c l).take k).length = k := by rw [List.length_take, frameL_length hc]; omega
  unfold geE
  rw [hlen]
  by_cases h24 : k < 24
  · rw [if_pos h24]
  · have hh : ((frameL c l).take k).take 24 = headL c l.length (chk l) := by
      rw [List.take_take, Nat.min_eq_left (by omega)]
      have := frameL_head hc l []
      rwa [List.append_nil] at this
    rw [if_neg h24, hh, h1, h3, if_pos rfl, if_pos (by omega)]
theorem get_none {b : List Int} (h : geE b = 4 ∨ geE b = 5 ∨ geE b = 6) : geC b = [] ∧ geB b = [] ∧ geN b = 0 := by
  unfold geC geB geN
  rw [if_neg (by omega), if_neg (by omega), if_neg (by omega)]
  exact ⟨rfl, rfl, rfl⟩
theorem fp_cases (c l : List Int) : (namedL c = false ∧ fpE c l = 8) ∨ (namedL c = true ∧ 2048 < l.length ∧ fpE c l = 5) ∨ (namedL c = true ∧ l.length ≤ 2048 ∧ fpE c l = 0 ∧ fpL c l = frameL c l) := by
  cases hn : namedL c with
  | false => left; exact ⟨rfl, by unfold fpE; rw [hn]; rfl⟩
  | true =>
    right
    by_cases hl : l.length ≤ 2048
    · right
      have hE : fpE c l = 0 := by unfold fpE; rw [hn, if_pos rfl, if_pos hl]
      exact ⟨rfl, hl, hE, by unfold fpL frameL; rw [if_pos hE]⟩
    · left; exact ⟨rfl, by omega, by unfold fpE; rw [hn, if_pos rfl, if_neg hl]⟩

theorem headL_byte {c : List Int} (hc : ∀ z ∈ c, Byte z) (n s : Int) : ∀ z ∈ headL c n s, Byte z := by
  intro z hz
  unfold headL at hz
  simp only [List.mem_append, List.mem_replicate, magicL, List.mem_cons, List.not_mem_nil, or_false] at hz
  rcases hz with ((h | h | h) | h) | h
  · unfold Byte; omega
  · exact hc z h
  · unfold Byte; omega
  · exact put_byte 4 n z h
  · exact put_byte 4 s z h
theorem frameL_byte {c l : List Int} (hc : namedL c = true) (hb : ∀ z ∈ l, Byte z) : ∀ z ∈ frameL c l, Byte z := by
  intro z hz
  unfold frameL at hz
  rcases List.mem_append.1 hz with h | h
  · exact headL_byte (named_byte hc) _ _ z h
  · exact hb z h

end Go.Proofs.YtjmifgdjmaelfaaDoor
