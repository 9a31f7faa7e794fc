/-
  A transaction's three cells that came in, within a greater thing. Nothing here speaks of one function.
-/
import Derived.Test.YtbeegcpmpgdbnaaDoorCameB
namespace Go.Proofs.YtbeegcpmpgdbnaaDoor
open Go.ChangeShapes Go.WideShapes Go.ChangeAt Go.RowKit

section
variable {H : Type} {enc : TypeId × Value → H} {W : World} {base : Nat} {spare : Nat → Bool} {held : Bool}
set_option maxRecDepth 100000 in
theorem tx_cells {fuel : Nat} {cs : List Value} {x : DataW H × List MemPlace} (hsp : ∀ k, spare k = true) (h : DataW.trod enc Tryd.prog W base spare held fuel 26 cs = some x) : ∃ (t : Tr) (iv ov : Value), cs = [.int .u32 t.ver, iv, ov] ∧ TxAt W iv ov t ∧ TrOk t := by
  obtain ⟨y0, y1, y2, n, -, hl, h0, h1, h2⟩ := Go.Deep.trod_struct3 Tryd.underlying26 h
  have hl : cs.length = 3 := hl.trans (by kernel_rfl)
  have c0 : Tryd.prog.cellsOf 22 = 1 := by kernel_rfl
  have c1 : Tryd.prog.cellsOf 23 = 1 := by kernel_rfl
  have c2 : Tryd.prog.cellsOf 24 = 1 := by kernel_rfl
  match cs, hl with
  | [v0, v1, v2], _ =>
    simp only [c0, c1, c2] at h0 h1 h2
    obtain ⟨z, e0, -, w0⟩ := DataW.trod_int Tryd.underlying22 (show DataW.trod enc Tryd.prog W base spare held n 22 [v0] = some y0 from h0)
    obtain ⟨iv, L, e1, k1, k2⟩ := ins_came hsp (show DataW.trod enc Tryd.prog W base spare held n 23 [v1] = some y1 from h1)
    obtain ⟨ov, M, e2, m1, m2⟩ := outs_came (show DataW.trod enc Tryd.prog W base spare held n 24 [v2] = some y2 from h2)
    obtain rfl : v0 = .int .u32 z := by simpa using e0
    obtain rfl : v1 = iv := by simpa using e1
    obtain rfl : v2 = ov := by simpa using e2
    exact ⟨⟨z, L, M⟩, _, _, rfl, ⟨k1, m1⟩, u32_of_wf w0, k2, m2⟩
end

end Go.Proofs.YtbeegcpmpgdbnaaDoor
