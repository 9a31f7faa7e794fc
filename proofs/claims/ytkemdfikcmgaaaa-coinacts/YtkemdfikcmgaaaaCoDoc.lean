/-
  The document's set in memory; points held against each other. Nothing here speaks of one function.
-/
import Derived.Test.YtkemdfikcmgaaaaCoStep
import Derived.Test.YtkemdfikcmgaaaaEqlCo
namespace Go.Proofs.Ytkemdfikcmgaaaa
open Go.RowKit

theorem eql_pts (p q : Pt) (hp : PtOk p) (hq : PtOk q) (w : World) : (Op.equalIn 10000 47 (.agg (pC p).toArray) (.agg (pC q).toArray)).run Try.prog w = .ok (decide (p = q)) w := by
  have h := eql_pt p.1 q.1 p.2 q.2 hp.1 hq.1 w
  rw [show (decide (p.1 = q.1) && decide (p.2 = q.2)) = decide (p = q) by
    rw [Bool.eq_iff_iff]
    simp only [Bool.and_eq_true, decide_eq_true_eq]
    exact ⟨fun h => Prod.ext h.1 h.2, fun h => by rw [h]; exact ⟨rfl, rfl⟩⟩] at h
  exact h
/-- The document's set: a struct of one slice. -/
def DocAt (w : World) (A : Nat → Prop) (m : Nat) (D : List Cn) : Prop :=
  ∃ v, w.cell? ⟨m, 0, none⟩ = some v ∧ w.frozen? ⟨m, 0, none⟩ = false ∧ CnsAt w v D ∧ (∀ g, v.ownBlock = some g → g ≠ m ∧ A g ∧ g < w.heap.size) ∧ ∀ d ∈ D, CnOk d
theorem DocAt.lt {w : World} {A : Nat → Prop} {m : Nat} {D : List Cn} (h : DocAt w A m D) : m < w.heap.size := by
  obtain ⟨v, h1, -⟩ := h
  exact World.block_lt_of_cell? _ _ h1
theorem DocAt.ok {w : World} {A : Nat → Prop} {m : Nat} {D : List Cn} (h : DocAt w A m D) : ∀ d ∈ D, CnOk d := by
  obtain ⟨v, -, -, -, -, h5⟩ := h
  exact h5
theorem DocAt.heap {w w' : World} {A : Nat → Prop} {m : Nat} {D : List Cn} (h : DocAt w A m D) (hs : w.heap.size ≤ w'.heap.size) (em : w'.heap[m]? = w.heap[m]?) (eA : ∀ g, g < w.heap.size → A g → w'.heap[g]? = w.heap[g]?) : DocAt w' A m D := by
  obtain ⟨v, h1, h2, h3, h4, h5⟩ := h
  exact ⟨v, (World.cell?_of_block (w := w) (a := ⟨m, 0, none⟩) em).trans h1, (World.frozen?_of_block (w := w) (a := ⟨m, 0, none⟩) em).trans h2, (RowAt.keeps (P := A) h3 fun g hg => (h4 g hg).2.1) w' eA, fun g hg => ⟨(h4 g hg).1, (h4 g hg).2.1, Nat.lt_of_lt_of_le (h4 g hg).2.2 hs⟩, h5⟩
theorem DocAt.on {w w' : World} {A : Nat → Prop} {m : Nat} {D : List Cn} (h : DocAt w A m D) (hb : Below w.heap.size w w') : DocAt w' A m D := h.heap hb.size (hb.block m h.lt) fun g hg _ => hb.block g hg
theorem DocAt.besides {w w' : World} {A : Nat → Prop} {m p q : Nat} {D : List Cn} (h : DocAt w A m D) (hb : Besides p q w w') (hm : m ≠ p ∧ m ≠ q) (hA : ∀ g, A g → g ≠ p ∧ g ≠ q) : DocAt w' A m D :=
  h.heap hb.size (hb.block m h.lt hm.1 hm.2) fun g hg hP => hb.block g hg (hA g hP).1 (hA g hP).2
theorem DocAt.weak {w : World} {A A' : Nat → Prop} {m : Nat} {D : List Cn} (h : DocAt w A m D) (hA : ∀ g, A g → A' g) : DocAt w A' m D := by
  obtain ⟨v, h1, h2, h3, h4, h5⟩ := h
  exact ⟨v, h1, h2, h3, fun g hg => ⟨(h4 g hg).1, hA g (h4 g hg).2.1, (h4 g hg).2.2⟩, h5⟩

end Go.Proofs.Ytkemdfikcmgaaaa
