/-
  A message that comes in. Nothing here speaks of one function.
-/
import Derived.Test.YtjmifgdjmaelfabTxCame
import Derived.Test.YtjmifgdjmaelfabMgAt
namespace Go.Proofs.Ytjmifgdjmaelfab
open Go.ChangeShapes Go.WideShapes Go.ChangeAt Go.RowKit

instance : Inhabited (List Int) := ⟨[]⟩
section
variable {H : Type} {enc : TypeId × Value → H} {W : World} {base : Nat} {spare : Nat → Bool} {held : Bool}
theorem trod_struct5 {t : TypeId} {f0 f1 f2 f3 f4 : Field} {fuel : Nat} {cs : List Value} {x : DataW H × List MemPlace} (ht : Try.prog.underlying t = some (.struct #[f0, f1, f2, f3, f4])) (h : DataW.trod enc Try.prog W base spare held fuel t cs = some x) :
    ∃ y0 y1 y2 y3 y4 n, cs.length = Try.prog.cellsOf t ∧ DataW.trod enc Try.prog W base spare held n f0.type ((cs.drop f0.offset).take (Try.prog.cellsOf f0.type)) = some y0 ∧
      DataW.trod enc Try.prog W base spare held n f1.type ((cs.drop f1.offset).take (Try.prog.cellsOf f1.type)) = some y1 ∧ DataW.trod enc Try.prog W base spare held n f2.type ((cs.drop f2.offset).take (Try.prog.cellsOf f2.type)) = some y2 ∧
      DataW.trod enc Try.prog W base spare held n f3.type ((cs.drop f3.offset).take (Try.prog.cellsOf f3.type)) = some y3 ∧ DataW.trod enc Try.prog W base spare held n f4.type ((cs.drop f4.offset).take (Try.prog.cellsOf f4.type)) = some y4 := by
  obtain ⟨xs, n, _, rfl, hl, hlen, hf⟩ := DataW.trod_struct ht h
  match xs, hlen with
  | [y0, y1, y2, y3, y4], _ => exact ⟨y0, y1, y2, y3, y4, n, hl, by simpa using hf 0 f0 rfl, by simpa using hf 1 f1 rfl, by simpa using hf 2 f2 rfl, by simpa using hf 3 f3 rfl, by simpa using hf 4 f4 rfl⟩
theorem array7 {α : Type} {cs : Array α} (h : cs.size = 7) : ∃ c0 c1 c2 c3 c4 c5 c6, cs = #[c0, c1, c2, c3, c4, c5, c6] := by
  obtain ⟨l⟩ := cs
  match l, h with
  | [c0, c1, c2, c3, c4, c5, c6], _ => exact ⟨c0, c1, c2, c3, c4, c5, c6, rfl⟩
theorem ids_came {fuel : Nat} {cs : List Value} {x : DataW H × List MemPlace} (h : DataW.trod enc Try.prog W base spare held fuel 24 cs = some x) : ∃ v L, cs = [v] ∧ IdsAt W v L ∧ ∀ x ∈ L, IdOk x := by
  rcases Go.Deep.open_slice Try.underlying24 h with ⟨rfl, -⟩ | ⟨a, len, cap, m, n, D, Pl, rfl, hb, hl, hm, hmm, -, hx⟩
  · exact ⟨_, [], rfl, IdsAt.nil W, fun _ h => by cases h⟩
  · obtain ⟨L, h1, h2, h3⟩ := rows_came (C := vals .u8) (Q := IdOk) (s := 32) (m := m) (fun y hy => by rw [vals_length]; exact hy.1) (by omega) (by kernel_rfl) hl hm (by rw [hmm]; split <;> omega) (fun i hi => by
      obtain ⟨cs', g1, g2⟩ := hx i hi
      obtain ⟨y, e, k1, k2⟩ := hash_cells g2
      exact ⟨cs', g1, y, e, k1, k2⟩)
    exact ⟨_, L, rfl, h1, h3⟩
set_option maxRecDepth 100000 in
theorem tx_cells {fuel : Nat} {cs : List Value} {x : DataW H × List MemPlace} (hsp : ∀ k, spare k = true) (h : DataW.trod enc Try.prog W base spare held fuel 28 cs = some x) : ∃ (t : Tr) (iv ov : Value), cs = [.int .u32 t.ver, iv, ov] ∧ TxAt W iv ov t ∧ TrOk t := by
  obtain ⟨y0, y1, y2, n, -, hl, h0, h1, h2⟩ := Go.Deep.trod_struct3 Try.underlying28 h
  have hl : cs.length = 3 := hl.trans (by kernel_rfl)
  have c0 : Try.prog.cellsOf 23 = 1 := by kernel_rfl
  have c1 : Try.prog.cellsOf 25 = 1 := by kernel_rfl
  have c2 : Try.prog.cellsOf 26 = 1 := by kernel_rfl
  match cs, hl with
  | [v0, v1, v2], _ =>
    simp only [c0, c1, c2] at h0 h1 h2
    obtain ⟨z, e0, -, w0⟩ := DataW.trod_int Try.underlying23 (show DataW.trod enc Try.prog W base spare held n 23 [v0] = some y0 from h0)
    obtain ⟨iv, L, e1, k1, k2⟩ := ins_came hsp (show DataW.trod enc Try.prog W base spare held n 25 [v1] = some y1 from h1)
    obtain ⟨ov, M, e2, m1, m2⟩ := outs_came (show DataW.trod enc Try.prog W base spare held n 26 [v2] = some y2 from h2)
    obtain rfl : v0 = .int .u32 z := by simpa using e0
    obtain rfl : v1 = iv := by simpa using e1
    obtain rfl : v2 = ov := by simpa using e2
    exact ⟨⟨z, L, M⟩, _, _, rfl, ⟨k1, m1⟩, u32_of_wf w0, k2, m2⟩
set_option maxRecDepth 100000 in
/-- A message that came in. -/
theorem msg_came {r : Reach} {b0 : Nat} {v : Value} {d : DataW H} {p : List MemPlace} (hsp : ∀ k, spare k = true) (hv : Value.okWide Try.prog W r b0 30 v) (h : DataW.Trod enc Try.prog W base spare held 30 v d p) :
    ∃ (m : Mg) (dv iv ov : Value), v = .agg #[.int .i64 m.kind, .int .u64 m.n, .int .u32 m.code, dv, .int .u32 m.tx.ver, iv, ov] ∧ MsgAt W dv iv ov m ∧ MgOk m := by
  obtain ⟨cs, rfl, hsz⟩ := okWide_struct Try.underlying30 hv
  obtain ⟨v0, v1, v2, v3, v4, v5, v6, rfl⟩ := array7 (hsz.trans (by kernel_rfl))
  obtain ⟨fuel, hf⟩ := h
  obtain ⟨y0, y1, y2, y3, y4, n, -, h0, h1, h2, h3, h4⟩ := trod_struct5 Try.underlying30 hf
  have c0 : Try.prog.cellsOf 3 = 1 := by kernel_rfl
  have c1 : Try.prog.cellsOf 22 = 1 := by kernel_rfl
  have c2 : Try.prog.cellsOf 23 = 1 := by kernel_rfl
  have c3 : Try.prog.cellsOf 24 = 1 := by kernel_rfl
  have c4 : Try.prog.cellsOf 28 = 3 := by kernel_rfl
  simp only [c0, c1, c2, c3, c4] at h0 h1 h2 h3 h4
  obtain ⟨k, e0, -, w0⟩ := DataW.trod_int Try.underlying3 (show DataW.trod enc Try.prog W base spare held n 3 [v0] = some y0 from h0)
  obtain ⟨x, e1, -, w1⟩ := DataW.trod_int Try.underlying22 (show DataW.trod enc Try.prog W base spare held n 22 [v1] = some y1 from h1)
  obtain ⟨c, e2, -, w2⟩ := DataW.trod_int Try.underlying23 (show DataW.trod enc Try.prog W base spare held n 23 [v2] = some y2 from h2)
  obtain ⟨dv, L, e3, k1, k2⟩ := ids_came (show DataW.trod enc Try.prog W base spare held n 24 [v3] = some y3 from h3)
  obtain ⟨t, iv, ov, e4, m1, m2⟩ := tx_cells hsp (show DataW.trod enc Try.prog W base spare held n 28 [v4, v5, v6] = some y4 from h4)
  obtain rfl : v0 = .int .i64 k := by simpa using e0
  obtain rfl : v1 = .int .u64 x := by simpa using e1
  obtain rfl : v2 = .int .u32 c := by simpa using e2
  obtain rfl : v3 = dv := by simpa using e3
  simp only [List.cons.injEq, and_true] at e4
  obtain ⟨rfl, rfl, rfl⟩ := e4
  have hk := int_of_wf w0
  exact ⟨⟨k, x, c, L, t⟩, _, _, _, rfl, ⟨k1, m1⟩, ⟨hk.1, by show k < _; omega⟩, word_of_wf w1, u32_of_wf w2, k2, m2⟩
end

end Go.Proofs.Ytjmifgdjmaelfab
