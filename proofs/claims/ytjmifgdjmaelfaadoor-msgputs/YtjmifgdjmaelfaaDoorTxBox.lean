/-
  A transaction's cells in memory, and what Put answers of one with a form. Nothing here speaks of a law.
-/
import Derived.Test.YtjmifgdjmaelfaaDoorTxWr
import Derived.Test.YtjmifgdjmaelfaaDoorTxGt
namespace Go.Proofs.YtjmifgdjmaelfaaDoor
open Go.RowKit

theorem TxAt.on {w w' : World} {iv ov : Value} {t : Tr} (h : TxAt w iv ov t) (hb : Below w.heap.size w w') : TxAt w' iv ov t := ⟨h.1.on hb, h.2.on hb⟩
/-- A transaction's three cells. -/
def TBox (w : World) (q : Nat) (x y z : Value) : Prop := w.cell? ⟨q, 0, none⟩ = some x ∧ w.cell? ⟨q, 1, none⟩ = some y ∧ w.cell? ⟨q, 2, none⟩ = some z
theorem TBox.on {w w' : World} {q : Nat} {x y z : Value} (h : TBox w q x y z) (hb : Below w.heap.size w w') : TBox w' q x y z :=
  ⟨(hb.cell (World.block_lt_of_cell? _ _ h.1)).trans h.1, (hb.cell (World.block_lt_of_cell? _ _ h.2.1)).trans h.2.1, (hb.cell (World.block_lt_of_cell? _ _ h.2.2)).trans h.2.2⟩
theorem TBox.new (w : World) (x y z : Value) (t : TypeId) : TBox (w.alloc (.cells #[x, y, z] t)) w.heap.size x y z := by
  have hr := range_new w [x, y, z] t
  have n0 := hr 0 _ rfl
  have n1 := hr 1 _ rfl
  have n2 := hr 2 _ rfl
  simp only [Nat.zero_add, Nat.add_zero] at n0 n1 n2
  exact ⟨n0, n1, n2⟩
theorem below_new (w : World) (o : Obj) : Below w.heap.size w (w.alloc o) := (Below.refl _ _).alloc (Nat.le_refl _) _
theorem ptL_form {t : Tr} (h : formB t = true) : ptL t = txB t ∧ ptE t = 0 := ⟨if_pos h, if_pos h⟩
theorem ptL_long {t : Tr} (h : formB t = false) : ptL t = [] ∧ ptE t = 5 := ⟨if_neg (by rw [h]; decide), if_neg (by rw [h]; decide)⟩
theorem TxAt.none_form {w : World} {iv ov : Value} (h : TxAt w iv ov noTr) : ∃ a c a' c', iv = .slice a 0 c ∧ ov = .slice a' 0 c' := by
  obtain ⟨a, c, e, -⟩ := h.1.form
  obtain ⟨a', c', e', -⟩ := h.2.form
  exact ⟨a, c, a', c', e, e'⟩

end Go.Proofs.YtjmifgdjmaelfaaDoor
