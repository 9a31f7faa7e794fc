/-
  The worst of a list of weights; the places of an order, one after the other.
-/
import Derived.Test.YtbeegcpmpgdbnaaDoorFeeAl
import Derived.Test.YtbeegcpmpgdbnaaDoorFeeWts
namespace Go.Proofs.YtbeegcpmpgdbnaaDoor
open Go.RowKit

/-- The worst: none is less; those before it are all better. -/
theorem worstK_spec (L : List Wt) : ∀ k, k ≤ L.length → 0 < k → ∃ j : Nat, worstK L k = (j : Int) ∧ j < k ∧ (∀ i, i < k → lessW (L.getD i default) (L.getD j default) = false) ∧ ∀ i, i < j → lessW (L.getD j default) (L.getD i default) = true
  | 0, _, h => absurd h (Nat.lt_irrefl 0)
  | k + 1, hk, _ => by
    rcases Nat.eq_zero_or_pos k with h0 | h0
    · subst h0
      refine ⟨0, rfl, by omega, fun i hi => ?_, fun i hi => by omega⟩
      obtain rfl : i = 0 := by omega
      exact lessW_self _
    · obtain ⟨j, e, hj, h1, h2⟩ := worstK_spec L k (by omega) h0
      have hw : worstK L (k + 1) = if lessW (L.getD k default) (L.getD j default) = true then (k : Int) else (j : Int) := by
        show (if worstK L k < 0 then (k : Int) else if lessW (L.getD k default) (L.getD (worstK L k).toNat default) = true then (k : Int) else worstK L k) = _
        rw [e, if_neg (by omega), Int.toNat_natCast]
      cases hl : lessW (L.getD k default) (L.getD j default) with
      | true =>
        rw [hl, if_pos rfl] at hw
        refine ⟨k, hw, by omega, fun i hi => ?_, fun i hi => ?_⟩
        · by_cases hik : i = k
          · subst hik
            exact lessW_self _
          · have h3 := h1 i (by omega)
            cases h4 : lessW (L.getD i default) (L.getD k default) with
            | false => rfl
            | true =>
              have := lessW_trans h4 hl
              rw [h3] at this
              cases this
        · have h3 := h1 i hi
          cases h4 : lessW (L.getD k default) (L.getD i default) with
          | true => rfl
          | false =>
            have := lessW_ntrans h4 h3
            rw [hl] at this
            cases this
      | false =>
        rw [hl, if_neg (by decide)] at hw
        refine ⟨j, hw, by omega, fun i hi => ?_, h2⟩
        by_cases hik : i = k
        · subst hik
          exact hl
        · exact h1 i (by omega)
theorem Ordd.at {L : List Wt} {P : List Nat} (h : Ordd L P) {i x : Nat} (hi : P[i]? = some x) : x < L.length := h.2.1 x (List.mem_of_getElem? hi)
theorem Ordd.step {L : List Wt} {P : List Nat} (h : Ordd L P) {i x y : Nat} (hx : P[i]? = some x) (hy : P[i + 1]? = some y) : before L x y := by
  obtain ⟨h1, e1⟩ := List.getElem?_eq_some_iff.1 hx
  obtain ⟨h2, e2⟩ := List.getElem?_eq_some_iff.1 hy
  have := List.pairwise_iff_getElem.1 h.2.2 i (i + 1) h1 h2 (by omega)
  rw [e1, e2] at this
  exact this
theorem Ordd.fresh {L : List Wt} {P : List Nat} (h : Ordd L P) {i j x y : Nat} (hij : i < j) (hx : P[i]? = some x) (hy : P[j]? = some y) : x ≠ y := by
  obtain ⟨h1, e1⟩ := List.getElem?_eq_some_iff.1 hx
  obtain ⟨h2, e2⟩ := List.getElem?_eq_some_iff.1 hy
  have := List.pairwise_iff_getElem.1 h.nodup i j h1 h2 hij
  rw [e1, e2] at this
  exact this
/-- A place of a row of places. -/
theorem place_cell {w : World} {a : Option Addr} {n cap : Nat} {P : List Nat} (h : RowAt w 1 (.slice a n cap) (plC P)) {i x : Nat} (hx : P[i]? = some x) : ∃ b o, a = some ⟨b, o, none⟩ ∧ w.cell? ⟨b, o + i, none⟩ = some (.int .i64 (x : Int)) := by
  obtain ⟨b, o, e, hr⟩ := h.get (k := i) (c := [.int .i64 (x : Int)]) (by simp [plC, hx])
  have h0 := hr 0 _ rfl
  simp only [Nat.mul_one, Nat.add_zero] at h0
  exact ⟨b, o, e, h0⟩

end Go.Proofs.YtbeegcpmpgdbnaaDoor
