/-
  Outputs and weights that come in. Nothing here speaks of one function.
-/
import Derived.Test.YtbeegcpmpgdbnaaDoorCameB
import Derived.Test.YtbeegcpmpgdbnaaDoorFeeA
namespace Go.Proofs.YtbeegcpmpgdbnaaDoor
open Go.ChangeShapes Go.WideShapes Go.ChangeAt Go.RowKit

section
variable {H : Type} {enc : TypeId × Value → H} {W : World} {base : Nat} {spare : Nat → Bool} {held : Bool}
set_option maxRecDepth 100000 in
theorem outs_arg {r : Reach} {b0 : Nat} {v : Value} {d : DataW H} {p : List MemPlace} (hv : Value.okWide Tryd.prog W r b0 24 v) (h : DataW.Trod enc Tryd.prog W base spare held 24 v d p) : ∃ L, OutsAt W v L ∧ ∀ x ∈ L, OutOk x := by
  obtain ⟨b, len, cap, rfl⟩ := okWide_slice Tryd.underlying24 hv
  obtain ⟨fuel, hf⟩ := h
  obtain ⟨v, L, e, h1, h2⟩ := outs_came hf
  obtain rfl : Value.slice b len cap = v := by simpa [Value.cells] using e
  exact ⟨L, h1, h2⟩
theorem wt_cells {fuel : Nat} {cs : List Value} {x : DataW H × List MemPlace} (h : DataW.trod enc Tryd.prog W base spare held fuel 55 cs = some x) : ∃ y : Wt, cs = wtC y ∧ WtOk y := by
  obtain ⟨y0, y1, m, -, hl, h0, h1⟩ := trod_struct2 Tryd.underlying55 h
  have hl : cs.length = 1 + 1 := hl.trans (by kernel_rfl)
  have c0 : Tryd.prog.cellsOf 29 = 1 := by kernel_rfl
  have c1 : Tryd.prog.cellsOf 3 = 1 := by kernel_rfl
  simp only [c0, c1, List.drop_zero] at h0 h1
  obtain ⟨n, e0, -, w0⟩ := DataW.trod_int Tryd.underlying29 h0
  obtain ⟨k, e1, -, w1⟩ := DataW.trod_int Tryd.underlying3 h1
  refine ⟨⟨n, k⟩, ?_, word_of_wf w0, (int_of_wf w1).1, by have := (int_of_wf w1).2; simp only; omega⟩
  rw [cut_two hl, e0, e1]
  rfl
theorem wts_came {fuel : Nat} {cs : List Value} {x : DataW H × List MemPlace} (h : DataW.trod enc Tryd.prog W base spare held fuel 43 cs = some x) : ∃ (v : Value) (L : List Wt), cs = [v] ∧ RowAt W 2 v (L.map wtC) ∧ ∀ x ∈ L, WtOk x := by
  rcases Go.Deep.open_slice Tryd.underlying43 h with ⟨rfl, -⟩ | ⟨a, len, cap, m, n, D, Pl, rfl, hb, hl, hm, hmm, -, hx⟩
  · exact ⟨_, [], rfl, RowAt.nil W 2, fun _ h => by cases h⟩
  · obtain ⟨L, h1, h2, h3⟩ := rows_came (C := wtC) (Q := WtOk) (s := 2) (m := m) (fun y _ => rfl) (by omega) (by kernel_rfl) hl hm (by rw [hmm]; split <;> omega) (fun i hi => by
      obtain ⟨cs', g1, g2⟩ := hx i hi
      obtain ⟨y, e, k1⟩ := wt_cells g2
      exact ⟨cs', g1, y, e, k1⟩)
    exact ⟨_, L, rfl, h1, h3⟩
set_option maxRecDepth 100000 in
theorem wts_arg {r : Reach} {b0 : Nat} {v : Value} {d : DataW H} {p : List MemPlace} (hv : Value.okWide Tryd.prog W r b0 43 v) (h : DataW.Trod enc Tryd.prog W base spare held 43 v d p) : ∃ L : List Wt, RowAt W 2 v (L.map wtC) ∧ ∀ x ∈ L, WtOk x := by
  obtain ⟨b, len, cap, rfl⟩ := okWide_slice Tryd.underlying43 hv
  obtain ⟨fuel, hf⟩ := h
  obtain ⟨v, L, e, h1, h2⟩ := wts_came hf
  obtain rfl : Value.slice b len cap = v := by simpa [Value.cells] using e
  exact ⟨L, h1, h2⟩
set_option maxRecDepth 100000 in
theorem okWide_agg {r : Reach} {b0 : Nat} {t : TypeId} {fs : Array Field} {v : Value} (ht : Tryd.prog.underlying t = some (.struct fs)) (h : Value.okWide Tryd.prog W r b0 t v) : ∃ cs, v = .agg cs := by
  simp only [Value.okWide, ht] at h
  obtain ⟨cs, h1, -⟩ := h
  exact ⟨cs, h1⟩
set_option maxRecDepth 100000 in
theorem wt_arg {r : Reach} {b0 : Nat} {v : Value} {d : DataW H} {p : List MemPlace} (hv : Value.okWide Tryd.prog W r b0 55 v) (h : DataW.Trod enc Tryd.prog W base spare held 55 v d p) : ∃ x : Wt, v = .agg #[.int .u64 x.fee, .int .i64 x.size] ∧ WtOk x := by
  obtain ⟨cs, rfl⟩ := okWide_agg Tryd.underlying55 hv
  obtain ⟨fuel, hf⟩ := h
  obtain ⟨y, e, h1⟩ := wt_cells hf
  refine ⟨y, ?_, h1⟩
  have : cs.toList = wtC y := by simpa [Value.cells] using e
  rw [← Array.toArray_toList (xs := cs), this]
  rfl
end

end Go.Proofs.YtbeegcpmpgdbnaaDoor
