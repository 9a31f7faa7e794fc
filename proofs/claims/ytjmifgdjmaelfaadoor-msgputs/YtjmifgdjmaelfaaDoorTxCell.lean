/-
  A row that is gathered; a point's cells.
-/
import Derived.Test.YtjmifgdjmaelfaaDoorTxBox
import Derived.Test.YtjmifgdjmaelfaaDoorTxStep
import Derived.Test.YtjmifgdjmaelfaaDoorTxEql
namespace Go.Proofs.YtjmifgdjmaelfaaDoor
open Go.RowKit

theorem RowOwn.low {w : World} {base base' : Nat} {ty : TypeId} {s : Nat} {v : Value} {C : List (List Value)} (h : RowOwn w base ty s v C) (hb : base' ≤ base) : RowOwn w base' ty s v C := by
  refine ⟨⟨h.1.1, ?_⟩, h.2⟩
  rcases h.1.2 with h0 | ⟨g, cap, cur, e, hbg, hg, rest⟩
  · exact .inl h0
  · exact .inr ⟨g, cap, cur, e, Nat.le_trans hb hbg, hg, rest⟩
theorem ptC_one (tx : List Int) (n : Int) : ∀ u ∈ ptC tx n, u.oneCell' = true := by
  intro u hu
  rcases List.mem_append.1 hu with q | q
  · exact vals_cell _ _ u q
  · obtain rfl := List.mem_singleton.1 q
    rfl
theorem RowAt.get {w : World} {s : Nat} {a : Option Addr} {n cap : Nat} {C : List (List Value)} (h : RowAt w s (.slice a n cap) C) {k : Nat} {c : List Value} (hk : C[k]? = some c) :
    ∃ b off, a = some ⟨b, off, none⟩ ∧ w.rangeAt b (off + k * s) c := by
  obtain ⟨a', cap', e, -, -, -, h5⟩ := h
  simp only [Value.slice.injEq] at e
  obtain ⟨rfl, -, -⟩ := e
  obtain ⟨b, off, rfl, hc⟩ := h5 (by have := (List.getElem?_eq_some_iff.1 hk).1; omega)
  exact ⟨b, off, rfl, hc k c hk⟩

end Go.Proofs.YtjmifgdjmaelfaaDoor
