/-
  Get and Put of messages, as the laws meet them.
-/
import Derived.Test.YtjmifgdjmaelfaaMgPut
import Derived.Test.YtjmifgdjmaelfaaMgGet
namespace Go.Proofs.Ytjmifgdjmaelfaa
open Go.RowKit

/-- Get, where there is an error. -/
theorem mget_bad (c : ByteArray) (l : List Int) (v : Value) (w : World) (hv : Bytes w v l) (hb : AllB l) (hl : l.length ≤ 5000) (E : Int) (h : mgE c l = E) (hE : E ≠ 0) :
    Calls Try.prog 16 #[.string c, v] w fun e w' => ∃ a c ia ic oa oc, e = .returned (.tuple #[.agg #[.int .i64 0, .int .u64 0, .int .u32 0, .slice a 0 c, .int .u32 0, .slice ia 0 ic, .slice oa 0 oc], .int .i64 E]) ∧ Below w.heap.size w w' := by
  subst h
  have := mget_any c l v w hv hb hl
  unfold MgetDone at this
  rw [mgM_bad hE] at this
  refine this.mono ?_
  rintro e w' ⟨d, iv, ov, rfl, h1, h2⟩
  obtain ⟨a, c, ia, ic, oa, oc, rfl, rfl, rfl⟩ := h2.self.none_form
  exact ⟨a, c, ia, ic, oa, oc, rfl, h1⟩
/-- Get, where there is none. -/
theorem mget_good (c : ByteArray) (l : List Int) (v : Value) (w : World) (hv : Bytes w v l) (hb : AllB l) (hl : l.length ≤ 5000) (m : Mg) (h : mgE c l = 0) (hm : mgM c l = m) :
    Calls Try.prog 16 #[.string c, v] w fun e w' => ∃ a sc ia ic oa oc, e = .returned (.tuple #[.agg #[.int .i64 m.kind, .int .u64 m.n, .int .u32 m.code, .slice a m.ids.length sc, .int .u32 m.tx.ver, .slice ia m.tx.ins.length ic, .slice oa m.tx.outs.length oc], .int .i64 0]) ∧ Below w.heap.size w w' ∧
      MsgAt w' (.slice a m.ids.length sc) (.slice ia m.tx.ins.length ic) (.slice oa m.tx.outs.length oc) m := by
  subst hm
  have := mget_any c l v w hv hb hl
  unfold MgetDone at this
  rw [h] at this
  refine this.mono ?_
  rintro e w' ⟨d, iv, ov, rfl, h1, h2⟩
  have hs := h2.self
  obtain ⟨a, c, ia, ic, oa, oc, rfl, rfl, rfl⟩ := hs.form
  exact ⟨a, c, ia, ic, oa, oc, rfl, h1, hs⟩
/-- Put, with its parts as letters. -/
theorem mput_is (m : Mg) (d iv ov : Value) (w : World) (h : MsgAt w d iv ov m) (hok : MgOk m) (C : ByteArray) (B : List Int) (E : Int) (h1 : mpC m = C) (h2 : mpB m = B) (h3 : mpE m = E) :
    Calls Try.prog 29 #[.agg #[.int .i64 m.kind, .int .u64 m.n, .int .u32 m.code, d, .int .u32 m.tx.ver, iv, ov]] w fun e w' => ∃ a c, e = .returned (.tuple #[.string C, .slice a B.length c, .int .i64 E]) ∧ Own w' w.heap.size (.slice a B.length c) B ∧ Below w.heap.size w w' := by
  subst h1 h2 h3
  refine (mput_any m d iv ov w h hok).mono ?_
  rintro e w' ⟨v, rfl, h1, h2⟩
  obtain ⟨a, c, rfl, -, -⟩ := h1.bytes.form
  exact ⟨a, c, rfl, h1, h2⟩

end Go.Proofs.Ytjmifgdjmaelfaa
