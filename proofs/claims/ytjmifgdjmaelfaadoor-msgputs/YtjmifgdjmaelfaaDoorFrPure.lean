/-
  A command's name, a frame, what is read of bytes: with no word of the program's memory.
-/
import Derived.Test.YtjmifgdjmaelfaaDoorKit
import Derived.Test.YtjmifgdjmaelfaaDoorShaTw
import Derived.Test.YtjmifgdjmaelfaaDoorNamedP
namespace Go.Proofs.YtjmifgdjmaelfaaDoor

/-- With what frames begin. -/
def magicL : List Int := [196, 240, 122, 30]
/-- A frame's head. -/
def headL (c : List Int) (n s : Int) : List Int := magicL ++ (c ++ List.replicate (12 - c.length) 0) ++ put 4 n ++ put 4 s
/-- A body's check. -/
def chk (l : List Int) : Int := checkI (digest (digest l))
/-- What Put answers. -/
def fpE (c body : List Int) : Int := if namedL c = true then (if body.length ≤ 2048 then 0 else 5) else 8
def fpL (c body : List Int) : List Int := if fpE c body = 0 then headL c body.length (chk body) ++ body else []
/-- Without the noughts at its end. -/
def trimR (l : List Int) : List Int := (l.reverse.dropWhile (· == 0)).reverse
/-- The name that a head's twelve bytes hold, or none. -/
def nameL (t : List Int) : List Int := if namedL (trimR t) = true then trimR t else []
/-- What Head answers. -/
def hdE (b : List Int) : Int := if b.length = 24 then (if b.take 4 = magicL then (if num ((b.drop 16).take 4) ≤ 2048 then 0 else 5) else 6) else 2
def hdC (b : List Int) : List Int := if hdE b = 0 then nameL ((b.drop 4).take 12) else []
def hdN (b : List Int) : Int := if hdE b = 0 then num ((b.drop 16).take 4) else 0
def hdS (b : List Int) : Int := if hdE b = 0 then num (b.drop 20) else 0
/-- The body that is told. -/
def bodyL (b : List Int) : List Int := (b.drop 24).take (hdN (b.take 24)).toNat
/-- What Get answers. -/
def geE (b : List Int) : Int :=
  if b.length < 24 then 4 else if hdE (b.take 24) = 0 then (if (b.length : Int) < 24 + hdN (b.take 24) then 4 else if hdC (b.take 24) = [] then 8 else if chk (bodyL b) = hdS (b.take 24) then 0 else 7) else hdE (b.take 24)
def geC (b : List Int) : List Int := if geE b = 0 then hdC (b.take 24) else []
def geB (b : List Int) : List Int := if geE b = 0 then bodyL b else []
def geN (b : List Int) : Int := if geE b = 0 ∨ geE b = 7 ∨ geE b = 8 then 24 + hdN (b.take 24) else 0

theorem trimR_nil : trimR [] = [] := rfl
theorem trimR_zero (l : List Int) : trimR (l ++ [0]) = trimR l := by simp [trimR]
theorem trimR_other (l : List Int) (z : Int) (h : ¬ z = 0) : trimR (l ++ [z]) = l ++ [z] := by simp [trimR, h]
theorem trimR_zeros (l : List Int) : ∀ n, trimR (l ++ List.replicate n 0) = trimR l
  | 0 => by simp
  | n + 1 => by
    rw [List.replicate_succ', ← List.append_assoc, trimR_zero]
    exact trimR_zeros l n
theorem trimR_full (l : List Int) (h : ∀ z ∈ l, ¬ z = 0) : trimR l = l := by
  rcases List.eq_nil_or_concat l with rfl | ⟨m, z, rfl⟩
  · rfl
  · rw [List.concat_eq_append]
    exact trimR_other m z (h z (by simp))
theorem named_nil : namedL [] = false := rfl
theorem named_byte {c : List Int} (h : namedL c = true) : ∀ z ∈ c, Byte z := fun z hz => by
  have := (named_all h).2.2 z hz
  simp [letterB] at this
  exact ⟨by omega, by omega⟩
/-- A name with noughts behind it is that name. -/
theorem name_back {c : List Int} (h : namedL c = true) (n : Nat) : nameL (c ++ List.replicate n 0) = c := by
  have e : trimR (c ++ List.replicate n 0) = c := (trimR_zeros c n).trans (trimR_full c fun z hz => letter_not ((named_all h).2.2 z hz))
  unfold nameL
  rw [e, if_pos h]
theorem name_named (t : List Int) (h : ¬ nameL t = []) : namedL (nameL t) = true := by
  unfold nameL at h ⊢
  split at h
  · rw [if_pos (by assumption)]; assumption
  · exact absurd rfl h

/-- The document's words: the letters up to the first nought, and noughts alone behind them. -/
def rcutL (t : List Int) : List Int := if ((t.drop (t.takeWhile (fun z => !(z == 0))).length).all fun z => z == 0) = true then t.takeWhile (fun z => !(z == 0)) else []
theorem rname_eq (t : List Int) : (if namedL (rcutL t) = true then rcutL t else []) = nameL t := by
  have hd : t.drop (t.takeWhile (fun z => !(z == 0))).length = t.dropWhile (fun z => !(z == 0)) := by
    conv => lhs; rw [show t.drop (t.takeWhile (fun z => !(z == 0))).length = (t.takeWhile (fun z => !(z == 0)) ++ t.dropWhile (fun z => !(z == 0))).drop (t.takeWhile (fun z => !(z == 0))).length by rw [List.takeWhile_append_dropWhile]]
    rw [List.drop_left]
  have ht : t = t.takeWhile (fun z => !(z == 0)) ++ t.dropWhile (fun z => !(z == 0)) := (List.takeWhile_append_dropWhile).symm
  have hp : ∀ z ∈ t.takeWhile (fun z => !(z == 0)), ¬ z = 0 := fun z hz => by
    have := List.all_eq_true.1 List.all_takeWhile z hz
    simpa using this
  unfold rcutL nameL
  rw [hd]
  by_cases ha : ((t.dropWhile (fun z => !(z == 0))).all fun z => z == 0) = true
  · rw [if_pos ha]
    have hr : t.dropWhile (fun z => !(z == 0)) = List.replicate (t.dropWhile (fun z => !(z == 0))).length 0 := by
      refine List.eq_replicate_iff.2 ⟨rfl, fun z hz => ?_⟩
      simpa using List.all_eq_true.1 ha z hz
    have e : trimR t = t.takeWhile (fun z => !(z == 0)) := by
      conv => lhs; rw [ht, hr]
      rw [trimR_zeros, trimR_full _ hp]
    rw [e]
  · rw [if_neg ha, named_nil]
    simp only [Bool.false_eq_true, if_false]
    rw [if_neg]
    intro hn
    -- a nought within, and something behind it
    have hl := (named_all hn).2.2
    obtain ⟨z, hz, hz0⟩ : ∃ z ∈ t.dropWhile (fun z => !(z == 0)), ¬ z = 0 := by
      have : ¬ ∀ z ∈ t.dropWhile (fun z => !(z == 0)), (z == 0) = true := fun h => ha (List.all_eq_true.2 h)
      simp only [Classical.not_forall] at this
      obtain ⟨z, hz, h⟩ := this
      exact ⟨z, hz, by simpa using h⟩
    obtain ⟨r, hr⟩ : ∃ r, t.dropWhile (fun z => !(z == 0)) = 0 :: r := by
      cases hq : t.dropWhile (fun z => !(z == 0)) with
      | nil => rw [hq] at hz; cases hz
      | cons y r =>
        have := List.head_dropWhile_not (fun z => !(z == 0)) (l := t) (by rw [hq]; simp)
        simp only [hq, List.head_cons] at this
        exact ⟨r, by simp at this; rw [this]⟩
    rw [hr] at hz
    have hzr : z ∈ r := by
      rcases List.mem_cons.1 hz with h | h
      · exact absurd h hz0
      · exact h
    -- the nought stays, for something stands behind it
    have hsplit : ∃ x, trimR t = t.takeWhile (fun z => !(z == 0)) ++ 0 :: x := by
      obtain ⟨r1, y, n, e, hy⟩ : ∃ r1 y n, r = r1 ++ [y] ++ List.replicate n 0 ∧ ¬ y = 0 := by
        have key : ∀ (m : Nat) (r : List Int), r.length = m → (∃ z ∈ r, ¬ z = 0) → ∃ r1 y n, r = r1 ++ [y] ++ List.replicate n 0 ∧ ¬ y = 0 := by
          intro m
          induction m with
          | zero => intro r hr ⟨z, hz, _⟩; rw [List.length_eq_zero_iff.1 hr] at hz; cases hz
          | succ m ih =>
            intro r hr ⟨z, hz, h0⟩
            rcases List.eq_nil_or_concat r with rfl | ⟨q, y, rfl⟩
            · cases hz
            · by_cases hy : y = 0
              · subst hy
                have hzq : z ∈ q := by
                  rcases List.mem_append.1 (by simpa using hz : z ∈ q ++ [0]) with h | h
                  · exact h
                  · exact absurd (by simpa using h) h0
                obtain ⟨r1, y, n, e, hy⟩ := ih q (by simpa using hr) ⟨z, hzq, h0⟩
                refine ⟨r1, y, n + 1, ?_, hy⟩
                rw [List.replicate_succ', ← List.append_assoc, ← e, List.concat_eq_append]
              · exact ⟨q, y, 0, by simp, hy⟩
        exact key r.length r rfl ⟨z, hzr, hz0⟩
      refine ⟨r1 ++ [y], ?_⟩
      conv => lhs; rw [ht, hr, e]
      rw [show t.takeWhile (fun z => !(z == 0)) ++ 0 :: (r1 ++ [y] ++ List.replicate n 0) = (t.takeWhile (fun z => !(z == 0)) ++ 0 :: r1 ++ [y]) ++ List.replicate n 0 by simp, trimR_zeros, trimR_other _ _ hy]
      simp
    obtain ⟨x, hx⟩ := hsplit
    have := hl 0 (by rw [hx]; simp)
    exact absurd this (by decide)

theorem headL_length {c : List Int} (h : c.length ≤ 12) (n s : Int) : (headL c n s).length = 24 := by
  simp [headL, magicL, put_length]
  omega

end Go.Proofs.YtjmifgdjmaelfaaDoor
