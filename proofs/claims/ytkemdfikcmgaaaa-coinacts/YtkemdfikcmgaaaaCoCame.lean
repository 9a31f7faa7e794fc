/-
  Coins and points that come in. Nothing here speaks of one function.
-/
import Derived.Test.YtkemdfikcmgaaaaCoCell
import Derived.Test.YtkemdfikcmgaaaaRowCame
namespace Go.Proofs.Ytkemdfikcmgaaaa
open Go.ChangeShapes Go.WideShapes Go.ChangeAt Go.RowKit

instance : Inhabited Cn := ⟨⟨[], 0, noOut⟩⟩
section
variable {H : Type} {enc : TypeId × Value → H} {W : World} {base : Nat} {spare : Nat → Bool} {held : Bool}
theorem cn_cells {fuel : Nat} {cs : List Value} {x : DataW H × List MemPlace} (h : DataW.trod enc Try.prog W base spare held fuel 59 cs = some x) : ∃ c : Cn, cs = cnC c ∧ CnOk c := by
  obtain ⟨y0, y1, m, -, hl, h0, h1⟩ := trod_struct2 Try.underlying59 h
  have hl : cs.length = 33 + 33 := hl.trans (by kernel_rfl)
  have c0 : Try.prog.cellsOf 47 = 33 := by kernel_rfl
  have c1 : Try.prog.cellsOf 50 = 33 := by kernel_rfl
  simp only [c0, c1, List.drop_zero] at h0 h1
  obtain ⟨tx, n, e0, l0, b0, n0, n1⟩ := pt_cells h0
  obtain ⟨o, e1, ho⟩ := out_cells h1
  refine ⟨⟨tx, n, o⟩, ?_, ⟨l0, b0, n0, n1⟩, ho⟩
  rw [cut_two hl, e0, e1]
  rfl
theorem cns_came {fuel : Nat} {cs : List Value} {x : DataW H × List MemPlace} (h : DataW.trod enc Try.prog W base spare held fuel 30 cs = some x) : ∃ v L, cs = [v] ∧ CnsAt W v L ∧ ∀ x ∈ L, CnOk x := by
  rcases Go.Deep.open_slice Try.underlying30 h with ⟨rfl, -⟩ | ⟨a, len, cap, m, n, D, Pl, rfl, hb, hl, hm, hmm, -, hx⟩
  · exact ⟨_, [], rfl, RowAt.nil W 66, fun _ h => by cases h⟩
  · obtain ⟨L, h1, h2, h3⟩ := rows_came (C := cnC) (Q := CnOk) (s := 66) (m := m) (fun y hy => cnC_length hy) (by omega) (by kernel_rfl) hl hm (by rw [hmm]; split <;> omega) (fun i hi => by
      obtain ⟨cs', g1, g2⟩ := hx i hi
      obtain ⟨y, e, k1⟩ := cn_cells g2
      exact ⟨cs', g1, y, e, k1⟩)
    exact ⟨_, L, rfl, h1, h3⟩
set_option maxRecDepth 100000 in
/-- Coins, a coin, a point that came in. -/
theorem cns_arg {r : Reach} {b0 : Nat} {v : Value} {d : DataW H} {p : List MemPlace} (hv : Value.okWide Try.prog W r b0 30 v) (h : DataW.Trod enc Try.prog W base spare held 30 v d p) : ∃ L, CnsAt W v L ∧ ∀ x ∈ L, CnOk x := by
  obtain ⟨b, len, cap, rfl⟩ := okWide_slice Try.underlying30 hv
  obtain ⟨fuel, hf⟩ := h
  obtain ⟨v, L, e, h1, h2⟩ := cns_came hf
  obtain rfl : Value.slice b len cap = v := by simpa [Value.cells] using e
  exact ⟨L, h1, h2⟩
set_option maxRecDepth 100000 in
theorem okWide_struct {r : Reach} {b0 : Nat} {t : TypeId} {fs : Array Field} {v : Value} (ht : Try.prog.underlying t = some (.struct fs)) (h : Value.okWide Try.prog W r b0 t v) : ∃ cs, v = .agg cs := by
  simp only [Value.okWide, ht] at h
  obtain ⟨cs, h1, -⟩ := h
  exact ⟨cs, h1⟩
set_option maxRecDepth 100000 in
theorem cn_arg {r : Reach} {b0 : Nat} {v : Value} {d : DataW H} {p : List MemPlace} (hv : Value.okWide Try.prog W r b0 59 v) (h : DataW.Trod enc Try.prog W base spare held 59 v d p) : ∃ c, v = .agg (cnC c).toArray ∧ CnOk c := by
  obtain ⟨cs, rfl⟩ := okWide_struct Try.underlying59 hv
  obtain ⟨fuel, hf⟩ := h
  obtain ⟨c, e, h1⟩ := cn_cells hf
  exact ⟨c, by rw [← e]; simp [Value.cells], h1⟩
set_option maxRecDepth 100000 in
theorem pt_arg {r : Reach} {b0 : Nat} {v : Value} {d : DataW H} {p : List MemPlace} (hv : Value.okWide Try.prog W r b0 47 v) (h : DataW.Trod enc Try.prog W base spare held 47 v d p) : ∃ q, v = .agg (pC q).toArray ∧ PtOk q := by
  obtain ⟨cs, rfl⟩ := okWide_struct Try.underlying47 hv
  obtain ⟨fuel, hf⟩ := h
  obtain ⟨tx, n, e, l0, b0, n0, n1⟩ := pt_cells hf
  exact ⟨(tx, n), by rw [show pC (tx, n) = ptC tx n from rfl, ← e]; simp [Value.cells], l0, b0, n0, n1⟩
end

end Go.Proofs.Ytkemdfikcmgaaaa
