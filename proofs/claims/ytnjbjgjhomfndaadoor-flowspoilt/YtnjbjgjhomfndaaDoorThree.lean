/-
  Three messages in one struct, that came in by value: opened. Nothing here speaks of one function.
-/
import Derived.Test.YtnjbjgjhomfndaaDoorFlMsg
import Derived.Lib.SmallJoins
namespace Go.Proofs.YtnjbjgjhomfndaaDoor
open Go.ChangeShapes Go.WideShapes Go.ChangeAt Go.RowKit

section
variable {H : Type} {enc : TypeId × Value → H} {P : Program} {W : World} {base : Nat} {spare : Nat → Bool} {held : Bool}

/-- One of the messages. -/
theorem msg_of {tm ts tb te : TypeId} {m0 m1 : Field} {n : Nat} {v0 v1 : Value} {x : DataW H × List MemPlace} (hm : P.underlying tm = some (.struct #[m0, m1])) (o0 : m0.offset = 0 ∧ m0.type = ts) (o1 : m1.offset = 1 ∧ m1.type = tb) (cs : P.cellsOf ts = 1) (cb : P.cellsOf tb = 1)
    (hs : P.underlying ts = some .string) (hb : P.underlying tb = some (.slice te)) (he : P.underlying te = some (.int .u8)) (hc : P.cellsOf te = 1) (hsp : ∀ k, spare k = true) (h : DataW.trod enc P W base spare held n tm [v0, v1] = some x) :
    ∃ m : ByteArray × List Int, v0 = .string m.1 ∧ Bytes W v1 m.2 ∧ MsgOk m := by
  obtain ⟨y0, y1, k, -, -, h0, h1⟩ := trod_struct2 hm h
  rw [o0.1, o0.2, cs] at h0
  rw [o1.1, o1.2, cb] at h1
  exact msg_cells hs hb he hc hsp (by simpa using h0) (by simpa using h1)
theorem three_came {r : Reach} {b0 : Nat} {t tm ts tb te : TypeId} {f0 f1 f2 m0 m1 : Field} {v : Value} {d : DataW H} {p : List MemPlace} (hst : P.underlying t = some (.struct #[f0, f1, f2])) (hC : P.cellsOf t = 6)
    (q0 : f0.offset = 0 ∧ f0.type = tm) (q1 : f1.offset = 2 ∧ f1.type = tm) (q2 : f2.offset = 4 ∧ f2.type = tm) (cm : P.cellsOf tm = 2)
    (hm : P.underlying tm = some (.struct #[m0, m1])) (o0 : m0.offset = 0 ∧ m0.type = ts) (o1 : m1.offset = 1 ∧ m1.type = tb) (cs : P.cellsOf ts = 1) (cb : P.cellsOf tb = 1)
    (hs : P.underlying ts = some .string) (hb : P.underlying tb = some (.slice te)) (he : P.underlying te = some (.int .u8)) (hc : P.cellsOf te = 1) (hsp : ∀ k, spare k = true)
    (hv : Value.okWide P W r b0 t v) (h : DataW.Trod enc P W base spare held t v d p) :
    ∃ (a b c : ByteArray × List Int) (x y z : Value), v = .agg #[.string a.1, x, .string b.1, y, .string c.1, z] ∧ (Bytes W x a.2 ∧ MsgOk a) ∧ (Bytes W y b.2 ∧ MsgOk b) ∧ Bytes W z c.2 ∧ MsgOk c := by
  obtain ⟨cells, rfl, hsz⟩ := okWide_struct hst hv
  obtain ⟨fuel, hf⟩ := h
  obtain ⟨xs, n, -, -, -, hxl, hx⟩ := DataW.trod_struct hst hf
  obtain ⟨l⟩ := cells
  rw [hC] at hsz
  match l, hsz, xs, hxl with
  | [c0, c1, c2, c3, c4, c5], _, [y0, y1, y2], _ =>
    have h0 := hx 0 f0 rfl
    have h1 := hx 1 f1 rfl
    have h2 := hx 2 f2 rfl
    rw [q0.1, q0.2, cm] at h0
    rw [q1.1, q1.2, cm] at h1
    rw [q2.1, q2.2, cm] at h2
    simp [Value.cells] at h0 h1 h2
    obtain ⟨a, rfl, a1, a2⟩ := msg_of hm o0 o1 cs cb hs hb he hc hsp h0
    obtain ⟨b, rfl, b1, b2⟩ := msg_of hm o0 o1 cs cb hs hb he hc hsp h1
    obtain ⟨c, rfl, e1, e2⟩ := msg_of hm o0 o1 cs cb hs hb he hc hsp h2
    exact ⟨a, b, c, c1, c3, c5, rfl, ⟨a1, a2⟩, ⟨b1, b2⟩, e1, e2⟩
end

end Go.Proofs.YtnjbjgjhomfndaaDoor
