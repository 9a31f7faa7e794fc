/-
  Rows of numbers of the call's own, put together one by one; what stays. Nothing here speaks of one function.
-/
import Derived.Test.YtbeegcpmpgdbnaaDoorFeeD
namespace Go.Proofs.YtbeegcpmpgdbnaaDoor
open Go.RowKit

/-- A row of one number, new. -/
theorem row_fresh (w : World) (base : Nat) (hb : base ≤ w.heap.size) (n : Int) : RowOwn (w.alloc (.cells #[.int .u64 n] 29)) base 29 1 (.slice (some ⟨w.heap.size, 0, none⟩) 1 1) (uC [n]) := by
  refine ⟨⟨rfl, Or.inr ⟨w.heap.size, 1, _, rfl, hb, heap_alloc_new w _, Nat.le_refl _, by simp [maxLen], rfl, rfl⟩⟩, fun c hc => ?_⟩
  obtain rfl := List.mem_singleton.1 hc
  exact ⟨rfl, fun u hu => by rw [List.mem_singleton.1 hu]; rfl⟩
/-- One more number. -/
theorem row_more (w : World) (base : Nat) (hb : base ≤ w.heap.size) (v : Value) (K : List Int) (hK : K.length ≤ 10000) (h : RowOwn w base 29 1 v (uC K)) (n : Int) :
    ∃ v' w', (Builtin.append_ #[58, 58] 58 #[v, .slice (some ⟨w.heap.size, 0, none⟩) 1 1]).run Tryd.prog (w.alloc (.cells #[.int .u64 n] 29)) = .ok v' w' ∧ RowOwn w' base 29 1 v' (uC (K ++ [n])) ∧ (∀ g, g < w.heap.size → v.ownBlock ≠ some g → w'.heap[g]? = w.heap[g]?) ∧ ∀ (B : Nat) (w0 : World), Below B w0 w → B ≤ base → Below B w0 w' := by
  have hbn := below_new w (.cells #[.int .u64 n] 29)
  have hm := h.move (w1 := w.alloc (.cells #[.int .u64 n] 29)) fun g _ hl => hbn.block g hl
  have hw : base ≤ (w.alloc (.cells #[.int .u64 n] 29)).heap.size := Nat.le_trans hb hbn.size
  obtain ⟨v', w', hrun, hrow, hgr, -⟩ := run_append_row (w.alloc (.cells #[.int .u64 n] 29)) 58 29 58 _ 1 8 Tryd.underlying58 infoU64 rfl (by omega) (by omega) base v (uC K) hm w.heap.size [.int .u64 n] (range_new w [.int .u64 n] 29) ⟨rfl, fun y hy => by rw [List.mem_singleton.1 hy]; rfl⟩ (by simp [uC]; omega) hw
  refine ⟨v', w', hrun, by simpa [uC] using hrow, fun g hg hne => ?_, fun B w0 h0 h1 => (h0.alloc (Nat.le_trans h1 hb) (.cells #[.int .u64 n] 29)).grown hgr (Nat.le_trans h1 hw) fun j hj => Nat.le_trans h1 (hm.lt j hj).1⟩
  rw [← hbn.block g hg]
  exact hgr.block g (Nat.lt_of_lt_of_le hg hbn.size) fun e => hne e.symm
theorem range_block {w w' : World} {b o : Nat} {cs : List Value} (h : w.rangeAt b o cs) (hb : w'.heap[b]? = w.heap[b]?) : w'.rangeAt b o cs := fun j v hj => (World.cell?_of_block (w := w) (a := ⟨b, o + j, none⟩) hb).trans (h j v hj)
theorem Slice.on {w w' : World} {v : Value} {l : List Int} (h : Slice w v l) (hb : Below w.heap.size w w') : Slice w' v l := by
  rcases h with ⟨a, c, h1, h2⟩ | ⟨b, o, c, h1, h2, h3⟩
  · exact Or.inl ⟨a, c, h1, h2⟩
  · exact Or.inr ⟨b, o, c, h1, fun i hi => (hb.cell (World.block_lt_of_cell? _ _ (h2 i hi))).trans (h2 i hi), h3⟩

end Go.Proofs.YtbeegcpmpgdbnaaDoor
