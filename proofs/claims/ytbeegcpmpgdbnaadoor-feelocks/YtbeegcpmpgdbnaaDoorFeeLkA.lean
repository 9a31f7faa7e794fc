/-
  A Locked that came in: a transaction, what it spends, a place, a key. Nothing here speaks of one function.
-/
import Derived.Test.YtbeegcpmpgdbnaaDoorTxCel
import Derived.Test.YtbeegcpmpgdbnaaDoorFeeA
namespace Go.Proofs.YtbeegcpmpgdbnaaDoor
open Go.ChangeShapes Go.WideShapes Go.ChangeAt Go.RowKit

theorem array6 {α : Type} {cs : Array α} (h : cs.size = 6) : ∃ c0 c1 c2 c3 c4 c5, cs = #[c0, c1, c2, c3, c4, c5] := by
  obtain ⟨l⟩ := cs
  match l, h with
  | [c0, c1, c2, c3, c4, c5], _ => exact ⟨c0, c1, c2, c3, c4, c5, rfl⟩
section
variable {H : Type} {enc : TypeId × Value → H} {W : World} {base : Nat} {spare : Nat → Bool} {held : Bool}
theorem bytes_cell {fuel : Nat} {v : Value} {x : DataW H × List MemPlace} (hsp : ∀ k, spare k = true) (h : DataW.trod enc Tryd.prog W base spare held fuel 37 [v] = some x) : ∃ k, Bytes W v k ∧ AllB k := by
  rcases open_ints Tryd.underlying37 Tryd.underlying5 (by kernel_rfl) h with ⟨hcs, _⟩ | ⟨a, l, c, zs, hcs, _, hl', hm, hz, _, hcell, hwz⟩
  · obtain rfl : v = .slice none 0 0 := by simpa using hcs
    exact ⟨[], Bytes.nil W, AllB.nil⟩
  · rw [hsp] at hz
    obtain ⟨k, k1, k2⟩ := bytes_row hl' hm (by simpa using hz) hcell hwz
    obtain rfl : v = .slice (some a) l c := by simpa using hcs
    exact ⟨k, k1, k2⟩
set_option maxRecDepth 100000 in
/-- A Locked that came in. -/
theorem locked_arg {r : Reach} {b0 : Nat} {v : Value} {d : DataW H} {p : List MemPlace} (hsp : ∀ k, spare k = true) (hv : Value.okWide Tryd.prog W r b0 64 v) (h : DataW.Trod enc Tryd.prog W base spare held 64 v d p) :
    ∃ (t : Tr) (iv ov pv : Value) (L : List TOut) (z : Int) (kv : Value) (key : List Int), v = .agg #[.int .u32 t.ver, iv, ov, pv, .int .u8 z, kv] ∧ TxAt W iv ov t ∧ TrOk t ∧ OutsAt W pv L ∧ (∀ x ∈ L, OutOk x) ∧ (0 ≤ z ∧ z < 256) ∧ Bytes W kv key ∧ AllB key := by
  obtain ⟨cs, rfl, hsz⟩ := okWide_struct Tryd.underlying64 hv
  obtain ⟨v0, v1, v2, v3, v4, v5, rfl⟩ := array6 (hsz.trans (by kernel_rfl))
  obtain ⟨fuel, hf⟩ := h
  obtain ⟨y0, y1, y2, y3, n, -, -, h0, h1, h2, h3⟩ := Joins.trod_struct4 Tryd.underlying64 hf
  have c0 : Tryd.prog.cellsOf 26 = 3 := by kernel_rfl
  have c1 : Tryd.prog.cellsOf 24 = 1 := by kernel_rfl
  have c2 : Tryd.prog.cellsOf 5 = 1 := by kernel_rfl
  have c3 : Tryd.prog.cellsOf 37 = 1 := by kernel_rfl
  simp only [c0, c1, c2, c3] at h0 h1 h2 h3
  obtain ⟨t, iv, ov, e0, m1, m2⟩ := tx_cells hsp (show DataW.trod enc Tryd.prog W base spare held n 26 [v0, v1, v2] = some y0 from h0)
  obtain ⟨pv, L, e1, k1, k2⟩ := outs_came (show DataW.trod enc Tryd.prog W base spare held n 24 [v3] = some y1 from h1)
  obtain ⟨z, e2, -, w2⟩ := DataW.trod_int Tryd.underlying5 (show DataW.trod enc Tryd.prog W base spare held n 5 [v4] = some y2 from h2)
  obtain ⟨key, b1, b2⟩ := bytes_cell hsp (show DataW.trod enc Tryd.prog W base spare held n 37 [v5] = some y3 from h3)
  simp only [List.cons.injEq, and_true] at e0
  obtain ⟨rfl, rfl, rfl⟩ := e0
  obtain rfl : v3 = pv := by simpa using e1
  obtain rfl : v4 = .int .u8 z := by simpa using e2
  have hz := byte_of_wf w2
  exact ⟨t, _, _, _, L, z, _, key, rfl, m1, m2, k1, k2, ⟨hz.1, by have := hz.2; omega⟩, b1, b2⟩
end

end Go.Proofs.YtbeegcpmpgdbnaaDoor
