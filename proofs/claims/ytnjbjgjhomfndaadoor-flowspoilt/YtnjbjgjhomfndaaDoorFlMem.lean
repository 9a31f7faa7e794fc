/-
  A flow in memory: its head, its body, how many bytes wait, is it dead. Nothing here speaks of one function.
-/
import Derived.Test.YtnjbjgjhomfndaaDoorKeeps
import Derived.Test.YtnjbjgjhomfndaaDoorFlPure
import Derived.Test.YtnjbjgjhomfndaaDoorKitA
namespace Go.Proofs.YtnjbjgjhomfndaaDoor
open Go.RowKit

/-- A flow's cells. -/
def FlAt (w : World) (p : Nat) (hd : List Int) (bv : Value) (n : Int) (d : Bool) : Prop :=
  Arr w p 0 .u8 hd ∧ w.cell? ⟨p, 24, none⟩ = some bv ∧ w.cell? ⟨p, 25, none⟩ = some (.int .i64 n) ∧ w.cell? ⟨p, 26, none⟩ = some (.bool d) ∧ w.there p 0 27 ∧ hd.length = 24
theorem FlAt.lt {w : World} {p : Nat} {hd : List Int} {bv : Value} {n : Int} {d : Bool} (h : FlAt w p hd bv n d) : p < w.heap.size := World.block_lt_of_cell? _ _ h.2.1
theorem there_heap {w w' : World} {b o n : Nat} (h : w.there b o n) (e : w'.heap[b]? = w.heap[b]?) : w'.there b o n := fun j hj => by
  rw [World.cell?_of_block (w := w) (a := ⟨b, o + j, none⟩) e, World.frozen?_of_block (w := w) (a := ⟨b, o + j, none⟩) e]
  exact h j hj
theorem Arr.heap {w w' : World} {b o : Nat} {k : IntKind} {zs : List Int} (h : Arr w b o k zs) (e : w'.heap[b]? = w.heap[b]?) : Arr w' b o k zs :=
  h.at (fun _ _ => World.cell?_of_block (w := w) e) (fun _ _ => World.frozen?_of_block (w := w) e)
theorem FlAt.heap {w w' : World} {p : Nat} {hd : List Int} {bv : Value} {n : Int} {d : Bool} (h : FlAt w p hd bv n d) (e : w'.heap[p]? = w.heap[p]?) : FlAt w' p hd bv n d := by
  obtain ⟨h1, h2, h3, h4, h5, h6⟩ := h
  have hc : ∀ i, w'.cell? ⟨p, i, none⟩ = w.cell? ⟨p, i, none⟩ := fun i => World.cell?_of_block (w := w) e
  exact ⟨h1.heap e, (hc 24).trans h2, (hc 25).trans h3, (hc 26).trans h4, there_heap h5 e, h6⟩
theorem there_cell {w : World} {p n : Nat} (h : w.there p 0 n) (i : Nat) (hi : i < n) : ∃ u, w.cell? ⟨p, i, none⟩ = some u := by
  have := (h i hi).1
  rw [Nat.zero_add] at this
  exact Option.isSome_iff_exists.1 this
theorem there_free {w : World} {p n : Nat} (h : w.there p 0 n) (i : Nat) (hi : i < n) : w.frozen? ⟨p, i, none⟩ = false := by
  have := (h i hi).2
  rwa [Nat.zero_add] at this
theorem there_setCell {w : World} {b o n : Nat} (h : w.there b o n) (a : Addr) (v : Value) : (w.setCell a v).there b o n := fun j hj => by
  obtain ⟨h1, h2⟩ := h j hj
  refine ⟨?_, by rw [World.frozen?_setCell]; exact h2⟩
  obtain ⟨u, hu⟩ := Option.isSome_iff_exists.1 h1
  by_cases e : a = ⟨b, o + j, none⟩
  · subst e
    rw [World.cell?_setCell_same _ _ _ hu]
    rfl
  · rw [World.cell?_setCell_other _ _ _ _ (by first | exact e | exact fun q => e q.symm), hu]
    rfl
theorem FlAt.waits {w : World} {p : Nat} {hd : List Int} {bv : Value} {n : Int} {d : Bool} (h : FlAt w p hd bv n d) (m : Int) : FlAt (w.setCell ⟨p, 25, none⟩ (.int .i64 m)) p hd bv m d := by
  obtain ⟨h1, h2, h3, h4, h5, h6⟩ := h
  refine ⟨h1.beside _ _ (Or.inr (Or.inr (by rw [h6]; show 0 + 24 ≤ 25; omega))), ?_, World.cell?_setCell_same _ _ _ h3, ?_, there_setCell h5 _ _, h6⟩
  · rw [World.cell?_setCell_other _ _ _ _ (by simp)]; exact h2
  · rw [World.cell?_setCell_other _ _ _ _ (by simp)]; exact h4
theorem FlAt.body {w : World} {p : Nat} {hd : List Int} {bv : Value} {n : Int} {d : Bool} (h : FlAt w p hd bv n d) (u : Value) : FlAt (w.setCell ⟨p, 24, none⟩ u) p hd u n d := by
  obtain ⟨h1, h2, h3, h4, h5, h6⟩ := h
  refine ⟨h1.beside _ _ (Or.inr (Or.inr (by rw [h6]; show 0 + 24 ≤ 24; omega))), World.cell?_setCell_same _ _ _ h2, ?_, ?_, there_setCell h5 _ _, h6⟩
  · rw [World.cell?_setCell_other _ _ _ _ (by simp)]; exact h3
  · rw [World.cell?_setCell_other _ _ _ _ (by simp)]; exact h4
theorem FlAt.copied {w : World} {p : Nat} {hd : List Int} {bv : Value} {n : Int} {d : Bool} (h : FlAt w p hd bv n d) (at' : Nat) (l : List Int) (hl : at' + l.length ≤ 24) : FlAt (w.setCells p at' (vals .u8 l)) p (hd.take at' ++ (l ++ hd.drop (at' + l.length))) bv n d := by
  obtain ⟨h1, h2, h3, h4, h5, h6⟩ := h
  have ho : ∀ i, 24 ≤ i → (w.setCells p at' (vals .u8 l)).cell? ⟨p, i, none⟩ = w.cell? ⟨p, i, none⟩ := fun i hi => World.cell?_setCells_out _ _ _ _ _ (fun _ _ => Or.inr (by rw [vals_length]; show at' + l.length ≤ i; omega))
  refine ⟨h1.over at' l (by omega), (ho 24 (by omega)).trans h2, (ho 25 (by omega)).trans h3, (ho 26 (by omega)).trans h4, World.there_setCells h5 _ _ _, by simp; omega⟩
theorem FlAt.apart {w : World} {p : Nat} {hd : List Int} {bv : Value} {n : Int} {d : Bool} (h : FlAt w p hd bv n d) (b o : Nat) (vs : List Value) (hne : b ≠ p) : FlAt (w.setCells b o vs) p hd bv n d := by
  obtain ⟨h1, h2, h3, h4, h5, h6⟩ := h
  have ho : ∀ i, (w.setCells b o vs).cell? ⟨p, i, none⟩ = w.cell? ⟨p, i, none⟩ := fun i => World.cell?_setCells_out _ _ _ _ _ (fun e _ => absurd (show p = b from e).symm hne)
  exact ⟨h1.apart _ _ _ (Or.inl hne.symm), (ho 24).trans h2, (ho 25).trans h3, (ho 26).trans h4, World.there_setCells h5 _ _ _, h6⟩
/-- A flow's cells, all of them. -/
def flCells (hd : List Int) (bv : Value) (n : Int) (d : Bool) : List Value := vals .u8 hd ++ [bv, .int .i64 n, .bool d]
theorem flCells_length {hd : List Int} (h : hd.length = 24) (bv : Value) (n : Int) (d : Bool) : (flCells hd bv n d).length = 27 := by simp [flCells, vals, h]
theorem flAt_range {w : World} {p : Nat} {hd : List Int} {bv : Value} {n : Int} {d : Bool} (hl : hd.length = 24) (h : w.rangeAt p 0 (flCells hd bv n d)) (ht : w.there p 0 27) : FlAt w p hd bv n d := by
  have hc : ∀ j v, (flCells hd bv n d)[j]? = some v → w.cell? ⟨p, j, none⟩ = some v := fun j v hv => by
    have := h j v hv
    rwa [Nat.zero_add] at this
  have hv := vals_length .u8 hd
  refine ⟨⟨fun j v hj => ?_, fun j hj => ht j (by omega)⟩, hc 24 _ ?_, hc 25 _ ?_, hc 26 _ ?_, ht, hl⟩
  · rw [Nat.zero_add]
    refine hc j v ?_
    have hlt := (List.getElem?_eq_some_iff.1 hj).1
    unfold flCells
    rw [List.getElem?_append_left hlt]
    exact hj
  · unfold flCells
    rw [List.getElem?_append_right (by omega), hv, hl]
    rfl
  · unfold flCells
    rw [List.getElem?_append_right (by omega), hv, hl]
    rfl
  · unfold flCells
    rw [List.getElem?_append_right (by omega), hv, hl]
    rfl
theorem flAt_put {w : World} {p : Nat} {hd : List Int} {bv : Value} {n : Int} {d : Bool} (hl : hd.length = 24) (ht : w.there p 0 27) : FlAt (w.setCells p 0 (flCells hd bv n d)) p hd bv n d :=
  flAt_range hl (World.rangeAt_setCells_same _ _ _ _ (by rw [flCells_length hl]; exact ht)) (World.there_setCells ht _ _ _)
theorem flAt_new (w : World) {hd : List Int} {bv : Value} {n : Int} {d : Bool} (t : TypeId) (hl : hd.length = 24) : FlAt (w.alloc (.cells (flCells hd bv n d).toArray t)) w.heap.size hd bv n d :=
  flAt_range hl (range_new _ _ _) (by have e : (flCells hd bv n d).toArray.size = 27 := by { simp [flCells_length hl] }; have := there_new w (flCells hd bv n d).toArray t; rw [e] at this; exact this)
def zero24 : List Int := List.replicate 24 0

/-- The body of a flow: its block, its bytes. -/
def BodyAt (w : World) (q : Nat) (bv : Value) (B : List Int) : Prop := bv = .slice (some ⟨q, 0, none⟩) B.length B.length ∧ Arr w q 0 .u8 B
/-- Bytes r have come, for the head and the body: of those the body's lie in block q. -/
def Mid (w : World) (p q : Nat) (r : List Int) : Prop :=
  ∃ hd bv, FlAt w p hd bv r.length false ∧
    ((r.length ≤ 24 ∧ hd.take r.length = r ∧ bv = .slice none 0 0 ∧ q = p) ∨
     (24 ≤ r.length ∧ r.take 24 = hd ∧ hdE hd = 0 ∧ q ≠ p ∧ ∃ B, BodyAt w q bv B ∧ (B.length : Int) = hdN hd ∧ r.length ≤ 24 + B.length ∧ B.take (r.length - 24) = r.drop 24))
/-- A flow: what waits, and is it dead. -/
def Flw (w : World) (p q : Nat) (r : List Int) (d : Bool) : Prop :=
  (d = true ∧ r = [] ∧ q = p ∧ ∃ hd bv, FlAt w p hd bv 0 true) ∨
  (d = false ∧ geE r = 4 ∧ ∃ hd bv, FlAt w p hd bv r.length false ∧
    ((r.length < 24 ∧ hd.take r.length = r ∧ bv = .slice none 0 0 ∧ q = p) ∨
     (24 ≤ r.length ∧ r.take 24 = hd ∧ hdE hd = 0 ∧ q ≠ p ∧ ∃ B, BodyAt w q bv B ∧ (B.length : Int) = hdN hd ∧ r.length < 24 + B.length ∧ B.take (r.length - 24) = r.drop 24)))
theorem Flw.at {w : World} {p q : Nat} {r : List Int} {d : Bool} (h : Flw w p q r d) : ∃ hd bv, FlAt w p hd bv r.length d := by
  rcases h with ⟨rfl, rfl, -, hd, bv, h⟩ | ⟨rfl, -, hd, bv, h, -⟩
  · exact ⟨hd, bv, h⟩
  · exact ⟨hd, bv, h⟩
theorem Flw.lt {w : World} {p q : Nat} {r : List Int} {d : Bool} (h : Flw w p q r d) : p < w.heap.size ∧ q < w.heap.size := by
  obtain ⟨hd, bv, h0⟩ := h.at
  refine ⟨h0.lt, ?_⟩
  rcases h with ⟨-, -, rfl, -⟩ | ⟨-, -, hd', bv', -, ⟨-, -, -, rfl⟩ | ⟨hl, -, -, -, B, hB, -, hlt, -⟩⟩
  · exact h0.lt
  · exact h0.lt
  · exact hB.2.lt (by omega)
theorem Flw.heap {w w' : World} {p q : Nat} {r : List Int} {d : Bool} (h : Flw w p q r d) (e1 : w'.heap[p]? = w.heap[p]?) (e2 : w'.heap[q]? = w.heap[q]?) : Flw w' p q r d := by
  rcases h with ⟨h1, h2, h3, hd, bv, h⟩ | ⟨h1, h2, hd, bv, h, h3 | ⟨g1, g2, g3, g4, B, ⟨b1, b2⟩, g5⟩⟩
  · exact Or.inl ⟨h1, h2, h3, hd, bv, h.heap e1⟩
  · exact Or.inr ⟨h1, h2, hd, bv, h.heap e1, Or.inl h3⟩
  · exact Or.inr ⟨h1, h2, hd, bv, h.heap e1, Or.inr ⟨g1, g2, g3, g4, B, ⟨b1, b2.heap e2⟩, g5⟩⟩
theorem Flw.on {w w' : World} {p q : Nat} {r : List Int} {d : Bool} (h : Flw w p q r d) (hb : Below w.heap.size w w') : Flw w' p q r d := h.heap (hb.block _ h.lt.1) (hb.block _ h.lt.2)
theorem Flw.dead {w : World} {p q : Nat} {r : List Int} {d : Bool} (h : Flw w p q r d) : (d = true → r = []) ∧ (d = false → geE r = 4) := by
  rcases h with ⟨rfl, rfl, -⟩ | ⟨rfl, h, -⟩
  · exact ⟨fun _ => rfl, fun q => by cases q⟩
  · exact ⟨fun q => (by cases q), fun _ => h⟩
/-- A new flow. -/
theorem Flw.new (w : World) (t : TypeId) : Flw (w.alloc (.cells (flCells zero24 (.slice none 0 0) 0 false).toArray t)) w.heap.size w.heap.size [] false :=
  Or.inr ⟨rfl, geE_short (by simp), _, _, flAt_new w t rfl, Or.inl ⟨by simp, rfl, rfl, rfl⟩⟩

end Go.Proofs.YtnjbjgjhomfndaaDoor
