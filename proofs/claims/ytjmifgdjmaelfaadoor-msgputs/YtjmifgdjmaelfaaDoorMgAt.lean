/-
  Messages in memory. Nothing here speaks of one function.
-/
import Derived.Test.YtjmifgdjmaelfaaDoorMgA
import Derived.Test.YtjmifgdjmaelfaaDoorTxBox
namespace Go.Proofs.YtjmifgdjmaelfaaDoor
open Go.RowKit

/-- The slice bears the ids. -/
def IdsAt (w : World) (v : Value) (L : List (List Int)) : Prop := RowAt w 32 v (L.map (vals .u8))
def MsgAt (w : World) (d iv ov : Value) (m : Mg) : Prop := IdsAt w d m.ids ∧ TxAt w iv ov m.tx
theorem IdsAt.on {w w' : World} {v : Value} {L : List (List Int)} (h : IdsAt w v L) (hb : Below w.heap.size w w') : IdsAt w' v L := RowAt.on h hb
theorem MsgAt.on {w w' : World} {d iv ov : Value} {m : Mg} (h : MsgAt w d iv ov m) (hb : Below w.heap.size w w') : MsgAt w' d iv ov m := ⟨h.1.on hb, h.2.on hb⟩
theorem IdsAt.form {w : World} {v : Value} {L : List (List Int)} (h : IdsAt w v L) : ∃ a cap, v = .slice a L.length cap ∧ L.length ≤ cap ∧ cap ≤ 9223372036854775807 := by
  have := RowAt.form h
  simpa using this
theorem IdsAt.nil (w : World) : IdsAt w (.slice none 0 0) [] := RowAt.nil _ _
theorem IdsAt.get {w : World} {a : Option Addr} {n cap : Nat} {L : List (List Int)} (h : IdsAt w (.slice a n cap) L) {k : Nat} {x : List Int} (hk : L[k]? = some x) : ∃ b off, a = some ⟨b, off, none⟩ ∧ w.rangeAt b (off + k * 32) (vals .u8 x) := by
  obtain ⟨a', cap', e, -, -, -, h5⟩ := h
  simp only [Value.slice.injEq] at e
  obtain ⟨rfl, -, -⟩ := e
  obtain ⟨b, off, rfl, hc⟩ := h5 (by have := (List.getElem?_eq_some_iff.1 hk).1; simp; omega)
  exact ⟨b, off, rfl, hc k (vals .u8 x) (by simp [hk])⟩
theorem IdsAt.keeps {P : Nat → Prop} {w : World} {v : Value} {L : List (List Int)} (h : IdsAt w v L) (hP : ∀ k, v.ownBlock = some k → P k) : Keeps P w fun w => IdsAt w v L := RowAt.keeps h hP
theorem MsgAt.none (w : World) : MsgAt w (.slice none 0 0) (.slice none 0 0) (.slice none 0 0) noMg := ⟨IdsAt.nil w, TxAt.none w⟩
theorem MsgAt.form {w : World} {d iv ov : Value} {m : Mg} (h : MsgAt w d iv ov m) : ∃ a c ia ic oa oc, d = .slice a m.ids.length c ∧ iv = .slice ia m.tx.ins.length ic ∧ ov = .slice oa m.tx.outs.length oc := by
  obtain ⟨a, c, e1, -⟩ := h.1.form
  obtain ⟨ia, ic, e2, -⟩ := h.2.1.form
  obtain ⟨oa, oc, e3, -⟩ := h.2.2.form
  exact ⟨a, c, ia, ic, oa, oc, e1, e2, e3⟩
theorem MsgAt.none_form {w : World} {d iv ov : Value} (h : MsgAt w d iv ov noMg) : ∃ a c ia ic oa oc, d = .slice a 0 c ∧ iv = .slice ia 0 ic ∧ ov = .slice oa 0 oc := h.form
theorem info_msg : (Tryd.prog.info? 51).map (·.size) = some 7 := by kernel_rfl
/-- A message's seven cells. -/
def MBox (w : World) (q : Nat) (x0 x1 x2 x3 x4 x5 x6 : Value) : Prop :=
  w.cell? ⟨q, 0, none⟩ = some x0 ∧ w.cell? ⟨q, 1, none⟩ = some x1 ∧ w.cell? ⟨q, 2, none⟩ = some x2 ∧ w.cell? ⟨q, 3, none⟩ = some x3 ∧ w.cell? ⟨q, 4, none⟩ = some x4 ∧ w.cell? ⟨q, 5, none⟩ = some x5 ∧ w.cell? ⟨q, 6, none⟩ = some x6
theorem cell_on {w w' : World} {p : Addr} {x : Value} (h : w.cell? p = some x) (hb : Below w.heap.size w w') : w'.cell? p = some x := (hb.cell (World.block_lt_of_cell? _ _ h)).trans h
theorem MBox.on {w w' : World} {q : Nat} {x0 x1 x2 x3 x4 x5 x6 : Value} (h : MBox w q x0 x1 x2 x3 x4 x5 x6) (hb : Below w.heap.size w w') : MBox w' q x0 x1 x2 x3 x4 x5 x6 :=
  ⟨cell_on h.1 hb, cell_on h.2.1 hb, cell_on h.2.2.1 hb, cell_on h.2.2.2.1 hb, cell_on h.2.2.2.2.1 hb, cell_on h.2.2.2.2.2.1 hb, cell_on h.2.2.2.2.2.2 hb⟩
theorem MBox.new (w : World) (x0 x1 x2 x3 x4 x5 x6 : Value) (t : TypeId) : MBox (w.alloc (.cells #[x0, x1, x2, x3, x4, x5, x6] t)) w.heap.size x0 x1 x2 x3 x4 x5 x6 := by
  have hr := range_new w [x0, x1, x2, x3, x4, x5, x6] t
  have n0 := hr 0 _ rfl
  have n1 := hr 1 _ rfl
  have n2 := hr 2 _ rfl
  have n3 := hr 3 _ rfl
  have n4 := hr 4 _ rfl
  have n5 := hr 5 _ rfl
  have n6 := hr 6 _ rfl
  simp only [Nat.zero_add, Nat.add_zero] at n0 n1 n2 n3 n4 n5 n6
  exact ⟨n0, n1, n2, n3, n4, n5, n6⟩
theorem range7 {w : World} {b : Nat} {x0 x1 x2 x3 x4 x5 x6 : Value} (h : MBox w b x0 x1 x2 x3 x4 x5 x6) : w.rangeAt b 0 [x0, x1, x2, x3, x4, x5, x6] := by
  obtain ⟨n0, n1, n2, n3, n4, n5, n6⟩ := h
  intro j v hv
  rw [Nat.zero_add]
  rcases (show j = 0 ∨ j = 1 ∨ j = 2 ∨ j = 3 ∨ j = 4 ∨ j = 5 ∨ j = 6 by have := (List.getElem?_eq_some_iff.1 hv).1; simp at this; omega) with rfl | rfl | rfl | rfl | rfl | rfl | rfl <;> (simp at hv; subst hv; assumption)
/-- A shape's six cells. -/
def SBox (w : World) (q : Nat) (s : Shp) : Prop :=
  w.cell? ⟨q, 0, none⟩ = some (.string s.cmd) ∧ w.cell? ⟨q, 1, none⟩ = some (.int .i64 s.maxIds) ∧ w.cell? ⟨q, 2, none⟩ = some (.int .i64 s.codeLen) ∧ w.cell? ⟨q, 3, none⟩ = some (.int .u32 s.maxCode) ∧ w.cell? ⟨q, 4, none⟩ = some (.int .i64 s.nLen) ∧ w.cell? ⟨q, 5, none⟩ = some (.bool s.hasTx)
theorem SBox.on {w w' : World} {q : Nat} {s : Shp} (h : SBox w q s) (hb : Below w.heap.size w w') : SBox w' q s :=
  ⟨cell_on h.1 hb, cell_on h.2.1 hb, cell_on h.2.2.1 hb, cell_on h.2.2.2.1 hb, cell_on h.2.2.2.2.1 hb, cell_on h.2.2.2.2.2 hb⟩
theorem SBox.new (w : World) (s : Shp) (t : TypeId) : SBox (w.alloc (.cells #[.string s.cmd, .int .i64 s.maxIds, .int .i64 s.codeLen, .int .u32 s.maxCode, .int .i64 s.nLen, .bool s.hasTx] t)) w.heap.size s := by
  have hr := range_new w [.string s.cmd, .int .i64 s.maxIds, .int .i64 s.codeLen, .int .u32 s.maxCode, .int .i64 s.nLen, .bool s.hasTx] t
  have n0 := hr 0 _ rfl
  have n1 := hr 1 _ rfl
  have n2 := hr 2 _ rfl
  have n3 := hr 3 _ rfl
  have n4 := hr 4 _ rfl
  have n5 := hr 5 _ rfl
  simp only [Nat.zero_add, Nat.add_zero] at n0 n1 n2 n3 n4 n5
  exact ⟨n0, n1, n2, n3, n4, n5⟩

end Go.Proofs.YtjmifgdjmaelfaaDoor
