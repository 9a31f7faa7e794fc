/-
  Plain lists, with no word of the program: parts are taken off bytes, one by one.
-/
import Derived.Test.YtkdlpnhpokcbiaaOctPure
namespace Go.Proofs.Ytkdlpnhpokcbiaa

/-- What stands behind the number with which bytes begin. -/
def after (l : List Int) : List Int := l.drop (readN l).toNat
/-- The part with which bytes begin: the word for how it went, the part, and what stands behind it. -/
def partE (l : List Int) : Int := if readE l = 0 then (if ((after l).length : Int) < readX l then 4 else 0) else readE l
def partP (l : List Int) : List Int := (after l).take (readX l).toNat
def partR (l : List Int) : List Int := (after l).drop (readX l).toNat
/-- n parts. -/
def stepsE : Nat → List Int → Int
  | 0, _ => 0
  | n + 1, l => if partE l = 0 then stepsE n (partR l) else partE l
def stepsR : Nat → List Int → List Int
  | 0, l => l
  | n + 1, l => stepsR n (partR l)
def stepsL : Nat → List Int → List (List Int)
  | 0, _ => []
  | n + 1, l => partP l :: stepsL n (partR l)
/-- What Unpack answers. -/
def unpackE (l : List Int) (most : Int) : Int :=
  if readE l = 0 then (if most < 0 ∨ most < readX l then 5 else if stepsE (readX l).toNat (after l) = 0 then (if stepsR (readX l).toNat (after l) = [] then 0 else 5) else stepsE (readX l).toNat (after l)) else readE l
def unpackL (l : List Int) (most : Int) : List (List Int) := if unpackE l most = 0 then stepsL (readX l).toNat (after l) else []

theorem partR_byte {l : List Int} (h : ∀ z ∈ l, Byte z) : ∀ z ∈ partR l, Byte z := fun z hz => h z (List.mem_of_mem_drop (List.mem_of_mem_drop hz))
theorem after_byte {l : List Int} (h : ∀ z ∈ l, Byte z) : ∀ z ∈ after l, Byte z := fun z hz => h z (List.mem_of_mem_drop hz)
theorem partE_read {l : List Int} (h : partE l = 0) : readE l = 0 ∧ readX l ≤ ((after l).length : Int) := by
  unfold partE at h
  split at h
  · rename_i h1
    split at h
    · simp at h
    · exact ⟨h1, by omega⟩
  · rename_i h1
    exact absurd h h1
/-- A part that is taken: the bytes were its length, as short as may be, the part, and what stands behind it. -/
theorem part_ok {l : List Int} (hl : ∀ z ∈ l, Byte z) (h : partE l = 0) : l = var (partP l).length ++ partP l ++ partR l ∧ (partR l).length + 1 ≤ l.length ∧ (partP l).length ≤ l.length := by
  obtain ⟨h1, h2⟩ := partE_read h
  obtain ⟨n, hn, hn1, hn2, _, hv, hx0, _⟩ := read_ok l hl h1
  have ha : after l = l.drop n := by unfold after; rw [hn]; rfl
  have hpl : ((partP l).length : Int) = readX l := by
    unfold partP
    rw [List.length_take]
    omega
  have hl2 : l = l.take n ++ after l := by rw [ha]; exact (List.take_append_drop n l).symm
  have hl3 : after l = partP l ++ partR l := (List.take_append_drop _ _).symm
  refine ⟨?_, ?_, ?_⟩
  · rw [hpl, hv, List.append_assoc, ← hl3]
    exact hl2
  · unfold partR
    rw [ha]
    simp
    omega
  · unfold partP
    rw [ha]
    simp
    omega
theorem steps_bad {n : Nat} {l : List Int} (h : ¬ partE l = 0) : stepsE (n + 1) l = partE l := by simp only [stepsE, if_neg h]
theorem steps_ok {n : Nat} {l : List Int} (h : partE l = 0) : stepsE (n + 1) l = stepsE n (partR l) := by simp only [stepsE, if_pos h]

/-- Each part's length, as short as may be, and its bytes. -/
def flat : List (List Int) → List Int
  | [] => []
  | p :: r => var p.length ++ p ++ flat r
/-- How many there are, and the parts. -/
def pack (L : List (List Int)) : List Int := var L.length ++ flat L
theorem stepsL_length : ∀ (n : Nat) (l : List Int), (stepsL n l).length = n
  | 0, _ => rfl
  | n + 1, l => by simp [stepsL, stepsL_length n]
/-- What is taken off, packed again, is what was there. -/
theorem steps_flat : ∀ (n : Nat) (l : List Int), (∀ z ∈ l, Byte z) → stepsE n l = 0 → l = flat (stepsL n l) ++ stepsR n l
  | 0, l, _, _ => by simp [stepsL, stepsR, flat]
  | n + 1, l, hl, h => by
    by_cases hp : partE l = 0
    · rw [steps_ok hp] at h
      have ih := steps_flat n (partR l) (partR_byte hl) h
      have h1 := (part_ok hl hp).1
      simp only [stepsL, stepsR, flat]
      rw [List.append_assoc, ← ih]
      exact h1
    · rw [steps_bad hp] at h
      exact absurd h hp
theorem unpack_parts {l : List Int} {most : Int} (h : unpackE l most = 0) : readE l = 0 ∧ 0 ≤ most ∧ readX l ≤ most ∧ stepsE (readX l).toNat (after l) = 0 ∧ stepsR (readX l).toNat (after l) = [] := by
  unfold unpackE at h
  split at h
  · rename_i h1
    split at h
    · simp at h
    · rename_i h2
      split at h
      · rename_i h3
        split at h
        · rename_i h4
          exact ⟨h1, by omega, by omega, h3, h4⟩
        · simp at h
      · rename_i h3
        exact absurd h h3
  · rename_i h1
    exact absurd h h1
/-- What is unpacked, packed again, is what was there. -/
theorem unpack_whole {l : List Int} {most : Int} (hl : ∀ z ∈ l, Byte z) (h : unpackE l most = 0) : pack (unpackL l most) = l ∧ ((unpackL l most).length : Int) ≤ most := by
  obtain ⟨h1, h2, h3, h4, h5⟩ := unpack_parts h
  obtain ⟨n, hn, hn1, hn2, _, hv, hx0, _⟩ := read_ok l hl h1
  have ha : after l = l.drop n := by unfold after; rw [hn]; rfl
  have hs := steps_flat _ _ (after_byte hl) h4
  rw [h5, List.append_nil] at hs
  have hlen : ((unpackL l most).length : Int) = readX l := by
    unfold unpackL
    rw [if_pos h, stepsL_length]
    omega
  refine ⟨?_, by omega⟩
  unfold pack
  rw [hlen, hv]
  unfold unpackL
  rw [if_pos h, ← hs, ha]
  exact List.take_append_drop n l

/-! What is packed is unpacked. -/
theorem read_packed (n : Nat) (h : n ≤ 1000000) (r : List Int) : readX (var n ++ r) = n ∧ readE (var n ++ r) = 0 ∧ after (var n ++ r) = r := by
  obtain ⟨h1, h2, h3⟩ := read_var n (by omega) (by omega) r
  refine ⟨h1, h3, ?_⟩
  unfold after
  rw [h2]
  simp
theorem part_packed (p r : List Int) (h : p.length ≤ 1000000) : partE (var p.length ++ p ++ r) = 0 ∧ partP (var p.length ++ p ++ r) = p ∧ partR (var p.length ++ p ++ r) = r := by
  obtain ⟨h1, h2, h3⟩ := read_packed p.length h (p ++ r)
  rw [← List.append_assoc] at h1 h2 h3
  unfold partE partP partR
  rw [h1, h2, h3]
  refine ⟨?_, ?_, ?_⟩
  · rw [if_pos rfl, if_neg (by simp; omega)]
  · simp
  · simp
theorem part_short (p : List Int) (h : p.length ≤ 1000000) (m : List Int) (hm : m.length < p.length) : partE (var p.length ++ m) = 4 := by
  obtain ⟨h1, h2, h3⟩ := read_packed p.length h m
  unfold partE
  rw [h1, h2, h3, if_pos rfl, if_pos (by omega)]
theorem steps_packed : ∀ (L : List (List Int)) (r : List Int), (∀ p ∈ L, p.length ≤ 1000000) → stepsE L.length (flat L ++ r) = 0 ∧ stepsL L.length (flat L ++ r) = L ∧ stepsR L.length (flat L ++ r) = r
  | [], r, _ => by simp [stepsE, stepsL, stepsR, flat]
  | p :: L, r, h => by
    obtain ⟨h1, h2, h3⟩ := part_packed p (flat L ++ r) (h p (by simp))
    obtain ⟨i1, i2, i3⟩ := steps_packed L r (fun q hq => h q (by simp [hq]))
    have e : flat (p :: L) ++ r = var p.length ++ p ++ (flat L ++ r) := by simp [flat]
    rw [e, List.length_cons]
    refine ⟨?_, ?_, ?_⟩
    · rw [steps_ok h1, h3]; exact i1
    · simp only [stepsL]; rw [h2, h3, i2]
    · simp only [stepsR]; rw [h3, i3]
theorem unpack_packed (L : List (List Int)) (most : Int) (hn : L.length ≤ 1000) (h : ∀ p ∈ L, p.length ≤ 1000000) (hm : (L.length : Int) ≤ most) (r : List Int) :
    unpackE (pack L ++ r) most = (if r = [] then 0 else 5) ∧ (r = [] → unpackL (pack L ++ r) most = L) := by
  have e : pack L ++ r = var L.length ++ (flat L ++ r) := by simp [pack]
  obtain ⟨h1, h2, h3⟩ := read_packed L.length (by omega) (flat L ++ r)
  obtain ⟨s1, s2, s3⟩ := steps_packed L r h
  have hE : unpackE (pack L ++ r) most = (if r = [] then 0 else 5) := by
    rw [e]
    unfold unpackE
    rw [h1, h2, h3, if_pos rfl, if_neg (by omega)]
    simp [s1, s3]
  refine ⟨hE, fun hr => ?_⟩
  unfold unpackL
  rw [hE, if_pos hr, if_pos rfl, e, h1, h3]
  simp only [Int.toNat_natCast]
  exact s2
theorem unpack_few (L : List (List Int)) (most : Int) (hn : L.length ≤ 1000) (hm : most < (L.length : Int)) : unpackE (pack L) most = 5 := by
  obtain ⟨h1, h2, h3⟩ := read_packed L.length (by omega) (flat L)
  unfold pack unpackE
  rw [h1, h2, if_pos rfl, if_pos (Or.inr hm)]
/-- Cut short, the parts are too short. -/
theorem steps_cut : ∀ (L : List (List Int)) (m : List Int), (∀ p ∈ L, p.length ≤ 1000000) → (∀ i, i < m.length → m[i]? = (flat L)[i]?) → m.length < (flat L).length → stepsE L.length m = 4
  | [], m, _, _, hm => by simp [flat] at hm
  | p :: L, m, h, hpre, hm => by
    have hpl := h p (by simp)
    have hmt : m = (flat (p :: L)).take m.length := by
      apply List.ext_getElem?
      intro i
      rw [List.getElem?_take]
      split
      · rename_i hi; exact hpre i hi
      · rename_i hi; exact List.getElem?_eq_none (by omega)
    by_cases c1 : m.length < (var p.length).length
    · have e : m = (var p.length).take m.length := by
        rw [hmt]
        simp only [flat, List.append_assoc]
        rw [List.take_append_of_le_length (by omega)]
        simp
      have h4 := read_cut p.length (by omega) (by omega) m.length c1
      rw [← e] at h4
      have hp : partE m = 4 := by unfold partE; rw [h4]; rfl
      rw [List.length_cons, steps_bad (by omega), hp]
    · by_cases c2 : m.length < (var p.length).length + p.length
      · have e : m = var p.length ++ p.take (m.length - (var p.length).length) := by
          rw [hmt]
          simp only [flat, List.append_assoc]
          rw [List.take_append, List.take_of_length_le (by omega), List.take_append_of_le_length (by omega)]
          simp
        have hp : partE m = 4 := by
          rw [e]
          exact part_short p hpl _ (by simp; omega)
        rw [List.length_cons, steps_bad (by omega), hp]
      · have e : m = var p.length ++ p ++ (flat L).take (m.length - (var p.length).length - p.length) := by
          rw [hmt]
          simp only [flat, List.append_assoc]
          rw [List.take_append, List.take_of_length_le (by omega), List.take_append, List.take_of_length_le (by omega)]
          simp
        have hfl : (flat (p :: L)).length = (var p.length).length + p.length + (flat L).length := by simp [flat]; omega
        obtain ⟨h1, h2, h3⟩ := part_packed p ((flat L).take (m.length - (var p.length).length - p.length)) hpl
        rw [← e] at h1 h2 h3
        have hlen : ((flat L).take (m.length - (var p.length).length - p.length)).length = m.length - (var p.length).length - p.length := by simp; omega
        rw [List.length_cons, steps_ok h1, h3]
        refine steps_cut L _ (fun q hq => h q (by simp [hq])) (fun i hi => ?_) (by omega)
        rw [List.getElem?_take, if_pos (by omega)]
theorem unpack_cut (L : List (List Int)) (most : Int) (hn : L.length ≤ 1000) (h : ∀ p ∈ L, p.length ≤ 1000000) (hm : (L.length : Int) ≤ most) : unpackE ((pack L).take ((pack L).length - 1)) most = 4 := by
  by_cases c : flat L = []
  · have e : pack L = var L.length := by unfold pack; rw [c, List.append_nil]
    have hpos : 1 ≤ (var (L.length : Int)).length := by
      have h := var_length (L.length : Int)
      rcases size_cases (L.length : Int) with ⟨_, e⟩ | ⟨_, _, e⟩ | ⟨_, _, e⟩ | ⟨_, e⟩ <;> omega
    rw [e]
    have h4 := read_cut L.length (by omega) (by omega) ((var (L.length : Int)).length - 1) (by omega)
    unfold unpackE
    rw [h4]
    rfl
  · have hpos : 1 ≤ (flat L).length := by
      have := List.length_pos_iff.2 c
      omega
    have e : (pack L).take ((pack L).length - 1) = var L.length ++ (flat L).take ((flat L).length - 1) := by
      unfold pack
      have e1 : (var (L.length : Int) ++ flat L).length - 1 - (var (L.length : Int)).length = (flat L).length - 1 := by
        rw [List.length_append]
        omega
      rw [List.take_append, List.take_of_length_le (by rw [List.length_append]; omega), e1]
    obtain ⟨h1, h2, h3⟩ := read_packed L.length (by omega) ((flat L).take ((flat L).length - 1))
    have hs := steps_cut L ((flat L).take ((flat L).length - 1)) h (fun i hi => by
      rw [List.getElem?_take, if_pos (by simp at hi; omega)]) (by simp; omega)
    rw [e]
    unfold unpackE
    rw [h1, h2, h3, if_pos rfl, if_neg (by omega)]
    simp only [Int.toNat_natCast]
    rw [hs]
    rfl
end Go.Proofs.Ytkdlpnhpokcbiaa
