/-
  Insertion into an order of the first places: pure.
-/
import Derived.Test.YtbeegcpmpgdbnaaDoorFeeA
namespace Go.Proofs.YtbeegcpmpgdbnaaDoor

/-- An order of the first k places. -/
def OrdK (L : List Wt) (k : Nat) (P : List Nat) : Prop := P.length = k ∧ (∀ x ∈ P, x < k) ∧ P.Pairwise (before L)
theorem OrdK.nil (L : List Wt) : OrdK L 0 [] := ⟨rfl, by simp, List.Pairwise.nil⟩
theorem OrdK.ordd {L : List Wt} {P : List Nat} (h : OrdK L L.length P) : Ordd L P := h
/-- What is before one that isn't less than a later comer is before the comer. -/
theorem before_new {L : List Wt} {x p k : Nat} (hxk : x < k) (h : before L x p) (hp : lessW (L.getD p default) (L.getD k default) = false) : before L x k := by
  have h1 : lessW (L.getD x default) (L.getD p default) = false := by
    rcases h with h | ⟨h, -⟩
    · exact lessW_one h
    · exact h
  exact Or.inr ⟨lessW_ntrans h1 hp, hxk⟩
theorem ins_ordd {L : List Wt} {P : List Nat} {k q : Nat} (h : OrdK L k P) (hq : q ≤ k) (hl : ∀ j, q ≤ j → ∀ x, P[j]? = some x → lessW (L.getD x default) (L.getD k default) = true)
    (hr : q = 0 ∨ ∃ p, P[q - 1]? = some p ∧ lessW (L.getD p default) (L.getD k default) = false) : OrdK L (k + 1) (P.take q ++ [k] ++ P.drop q) := by
  obtain ⟨h1, h2, h3⟩ := h
  rw [← List.take_append_drop q P] at h3
  obtain ⟨a1, a2, a3⟩ := List.pairwise_append.1 h3
  have hd : ∀ x ∈ P.drop q, before L k x := fun x hx => by
    obtain ⟨j, hj⟩ := List.mem_iff_getElem?.1 hx
    rw [List.getElem?_drop] at hj
    exact Or.inl (hl _ (Nat.le_add_right _ _) x hj)
  have ht : ∀ x ∈ P.take q, before L x k := fun x hx => by
    have hxk := h2 x (List.mem_of_mem_take hx)
    rcases hr with rfl | ⟨p, hp, hp2⟩
    · simp at hx
    · obtain ⟨j, hj⟩ := List.mem_iff_getElem?.1 hx
      obtain ⟨hj1, hj2⟩ := List.getElem?_eq_some_iff.1 hj
      rw [List.length_take] at hj1
      rw [List.getElem?_take_of_lt (by omega)] at hj
      by_cases e : j = q - 1
      · rw [e, hp] at hj
        cases hj
        exact Or.inr ⟨hp2, hxk⟩
      · obtain ⟨g1, g2⟩ := List.getElem?_eq_some_iff.1 hj
        obtain ⟨g3, g4⟩ := List.getElem?_eq_some_iff.1 hp
        have := List.pairwise_iff_getElem.1 (List.take_append_drop q P ▸ h3) j (q - 1) g1 g3 (by omega)
        rw [g2, g4] at this
        exact before_new hxk this hp2
  refine ⟨?_, ?_, ?_⟩
  · simp only [List.length_append, List.length_take, List.length_drop, List.length_singleton]
    omega
  · intro x hx
    simp only [List.mem_append, List.mem_singleton] at hx
    rcases hx with (hx | hx) | hx
    · have := h2 x (List.mem_of_mem_take hx)
      omega
    · omega
    · have := h2 x (List.mem_of_mem_drop hx)
      omega
  · rw [List.append_assoc]
    refine List.pairwise_append.2 ⟨a1, ?_, ?_⟩
    · exact List.pairwise_cons.2 ⟨hd, a2⟩
    · intro x hx y hy
      rcases List.mem_cons.1 hy with rfl | hy
      · exact ht x hx
      · exact a3 x hx y hy

end Go.Proofs.YtbeegcpmpgdbnaaDoor
