/-
  What is read of a frame in which one byte is another one: with no word of the program's memory.
-/
import Derived.Test.YtnjbjgjhomfndaaDoorFrBack
namespace Go.Proofs.YtnjbjgjhomfndaaDoor

theorem parts4 {A B C D : List Int} (hA : A.length = 4) (hB : B.length = 12) (hC : C.length = 4) (hD : D.length = 4) :
    (A ++ B ++ C ++ D).length = 24 ∧ (A ++ B ++ C ++ D).take 4 = A ∧ ((A ++ B ++ C ++ D).drop 4).take 12 = B ∧ ((A ++ B ++ C ++ D).drop 16).take 4 = C ∧ (A ++ B ++ C ++ D).drop 20 = D := by
  have e4 : (A ++ B ++ C ++ D).drop 4 = B ++ C ++ D := by
    rw [List.append_assoc, List.append_assoc, ← hA, List.drop_left, List.append_assoc]
  have e16 : (A ++ B ++ C ++ D).drop 16 = C ++ D := by
    rw [List.append_assoc, show 16 = (A ++ B).length by simp; omega, List.drop_left]
  refine ⟨by simp; omega, ?_, ?_, ?_, ?_⟩
  · rw [List.append_assoc, List.append_assoc, ← hA, List.take_left]
  · rw [e4, List.append_assoc, ← hB, List.take_left]
  · rw [e16, ← hC, List.take_left]
  · rw [show 20 = (A ++ B ++ C).length by simp; omega, List.drop_left]
theorem set_other {l : List Int} {i : Nat} (hi : i < l.length) {x : Int} (hx : x ≠ l.getD i 0) : ¬ l.set i x = l := by
  intro e
  apply hx
  have h1 : (l.set i x).getD i 0 = x := by simp [List.getD, hi]
  rw [e] at h1
  exact h1.symm
theorem num_inj {l m : List Int} (hl : ∀ z ∈ l, Byte z) (hm : ∀ z ∈ m, Byte z) (he : l.length = m.length) (h : num l = num m) : l = m := by
  rw [← put_num l hl, ← put_num m hm, he, h]
theorem take_head {H : List Int} (hH : H.length = 24) (b : List Int) : (H ++ b).take 24 = H := by rw [← hH, List.take_left]
theorem body_head {H : List Int} (hH : H.length = 24) (b : List Int) : bodyL (H ++ b) = b.take (hdN H).toNat := by
  unfold bodyL
  rw [take_head hH, ← hH, List.drop_left]
/-- A head's parts, and what they say. -/
theorem head_says {A B C D : List Int} (hA : A.length = 4) (hB : B.length = 12) (hC : C.length = 4) (hD : D.length = 4) :
    (¬ A = magicL → hdE (A ++ B ++ C ++ D) = 6) ∧ (A = magicL → num C ≤ 2048 → hdE (A ++ B ++ C ++ D) = 0 ∧ hdC (A ++ B ++ C ++ D) = nameL B ∧ hdN (A ++ B ++ C ++ D) = num C ∧ hdS (A ++ B ++ C ++ D) = num D) := by
  obtain ⟨p0, p1, p2, p3, p4⟩ := parts4 hA hB hC hD
  refine ⟨fun hm => ?_, fun hm hn => ?_⟩
  · unfold hdE
    rw [if_pos p0, p1, if_neg hm]
  · have hE : hdE (A ++ B ++ C ++ D) = 0 := by
      unfold hdE
      rw [if_pos p0, p1, if_pos hm, p3, if_pos hn]
    refine ⟨hE, ?_, ?_, ?_⟩
    · unfold hdC
      rw [if_pos hE, p2]
    · unfold hdN
      rw [if_pos hE, p3]
    · unfold hdS
      rw [if_pos hE, p4]

theorem turned_magic {c l : List Int} (hc : namedL c = true) (hl : l.length ≤ 2048) {i : Nat} {X : Int} (hi : i < 4) (hx : X ≠ (frameL c l).getD i 0) : geE ((frameL c l).set i X) = 6 := by
  have hB : (c ++ List.replicate (12 - c.length) (0 : Int)).length = 12 := by have := (named_all hc).2.1; simp; omega
  have e : (frameL c l).set i X = (magicL.set i X ++ (c ++ List.replicate (12 - c.length) 0) ++ put 4 l.length ++ put 4 (chk l)) ++ l := by
    unfold frameL headL
    simp only [List.append_assoc]
    rw [List.set_append, if_pos (by simp [magicL]; omega)]
  have hg : (frameL c l).getD i 0 = magicL.getD i 0 := by
    unfold frameL headL
    simp only [List.append_assoc, List.getD]
    rw [List.getElem?_append_left (by simp [magicL]; omega)]
  have hm : ¬ magicL.set i X = magicL := set_other (by simp [magicL]; omega) (by rw [← hg]; exact hx)
  have hA : (magicL.set i X).length = 4 := by simp [magicL]
  have hs := (head_says hA hB (put_length 4 (l.length : Int)) (put_length 4 (chk l))).1 hm
  have hp := (parts4 hA hB (put_length 4 (l.length : Int)) (put_length 4 (chk l))).1
  have hlen : ((frameL c l).set i X).length = 24 + l.length := by rw [List.length_set, frameL_length hc]
  unfold geE
  rw [hlen, if_neg (by omega), e, take_head hp, hs, if_neg (by omega)]

theorem turned_sum {c l : List Int} (hc : namedL c = true) (hl : l.length ≤ 2048) {i : Nat} {X : Int} (hi : 20 ≤ i) (hi2 : i < 24) (hXb : Byte X) (hx : X ≠ (frameL c l).getD i 0) : geE ((frameL c l).set i X) = 7 ∧ geN ((frameL c l).set i X) = 24 + l.length := by
  have hB : (c ++ List.replicate (12 - c.length) (0 : Int)).length = 12 := by have := (named_all hc).2.1; simp; omega
  have h20 : (magicL ++ (c ++ List.replicate (12 - c.length) 0) ++ put 4 (l.length : Int)).length = 20 := by rw [List.length_append, List.length_append, hB, put_length]; rfl
  have e : (frameL c l).set i X = (magicL ++ (c ++ List.replicate (12 - c.length) 0) ++ put 4 l.length ++ (put 4 (chk l)).set (i - 20) X) ++ l := by
    unfold frameL headL
    rw [List.set_append, if_pos (by rw [List.length_append, h20, put_length]; omega), List.set_append, if_neg (by rw [h20]; omega), h20]
  have hg : (frameL c l).getD i 0 = (put 4 (chk l)).getD (i - 20) 0 := by
    unfold frameL headL
    simp only [List.getD]
    rw [List.getElem?_append_left (by rw [List.length_append, h20, put_length]; omega), List.getElem?_append_right (by rw [h20]; omega), h20]
  have hD : ((put 4 (chk l)).set (i - 20) X).length = 4 := by rw [List.length_set, put_length]
  have hw := chk_word l
  have hnum : num (put 4 (l.length : Int)) = l.length := num_put 4 _ (by omega) (by simp; omega)
  have hck : num (put 4 (chk l)) = chk l := num_put 4 _ hw.1 (by simpa using hw.2)
  have hne : ¬ chk l = num ((put 4 (chk l)).set (i - 20) X) := by
    intro q
    rw [← hck] at q
    have hbs : ∀ z ∈ (put 4 (num (put 4 (chk l)))).set (i - 20) X, Byte z := fun z hz => by
      rcases List.mem_or_eq_of_mem_set hz with h | h
      · exact put_byte 4 _ z h
      · subst h; exact hXb
    rw [hck] at q hbs
    have := num_inj (put_byte 4 (chk l)) hbs (by rw [hD, put_length]) (by rw [hck]; exact q)
    exact set_other (by rw [put_length]; omega) (by rw [← hg]; exact hx) this.symm
  obtain ⟨s1, s2, s3, s4⟩ := (head_says (A := magicL) rfl hB (put_length 4 (l.length : Int)) hD).2 rfl (by rw [hnum]; omega)
  have hp := (parts4 (A := magicL) rfl hB (put_length 4 (l.length : Int)) hD).1
  have hlen : ((frameL c l).set i X).length = 24 + l.length := by rw [List.length_set, frameL_length hc]
  have hcn : ¬ nameL (c ++ List.replicate (12 - c.length) 0) = [] := by
    rw [name_back hc]
    intro q
    have := (named_all hc).1
    rw [q] at this
    simp at this
  have hE : geE ((frameL c l).set i X) = 7 := by
    unfold geE
    rw [hlen, if_neg (by omega), e, body_head hp, take_head hp, s1, s2, s3, s4, if_pos rfl, hnum, if_neg (by omega), if_neg hcn, if_neg (by simpa using hne)]
  refine ⟨hE, ?_⟩
  unfold geN
  rw [if_pos (Or.inr (Or.inl hE)), e, take_head hp, s3, hnum]

theorem turned_body {c l : List Int} (hc : namedL c = true) (hl : l.length ≤ 2048) {i : Nat} {X : Int} (hi : 24 ≤ i) : (frameL c l).set i X = headL c l.length (chk l) ++ l.set (i - 24) X ∧
    geE ((frameL c l).set i X) = (if chk (l.set (i - 24) X) = chk l then 0 else 7) ∧ geN ((frameL c l).set i X) = 24 + l.length := by
  have hp : (headL c l.length (chk l)).length = 24 := headL_length (named_all hc).2.1 _ _
  have e : (frameL c l).set i X = headL c l.length (chk l) ++ l.set (i - 24) X := by
    unfold frameL
    rw [List.set_append, if_neg (by rw [hp]; omega), hp]
  obtain ⟨h1, h2, h3, h4⟩ := head_back hc (n := l.length) (s := chk l) ⟨by omega, by omega⟩ (chk_word l)
  have hlen : ((frameL c l).set i X).length = 24 + l.length := by rw [List.length_set, frameL_length hc]
  have hcn : ¬ c = [] := fun q => by have := (named_all hc).1; rw [q] at this; simp at this
  have hbd : (l.set (i - 24) X).take ((l.length : Int)).toNat = l.set (i - 24) X := List.take_of_length_le (by simp)
  have hE : geE ((frameL c l).set i X) = (if chk (l.set (i - 24) X) = chk l then 0 else 7) := by
    unfold geE
    rw [hlen, if_neg (by omega), e, body_head hp, take_head hp, h1, h2, h3, h4, if_pos rfl, if_neg (by omega), if_neg hcn, hbd]
  refine ⟨e, hE, ?_⟩
  unfold geN
  rw [if_pos (by rw [hE]; split <;> simp), e, take_head hp, h3]

end Go.Proofs.YtnjbjgjhomfndaaDoor
