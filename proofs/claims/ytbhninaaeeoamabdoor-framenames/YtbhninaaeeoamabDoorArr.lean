/-
  Rows of numbers in memory: an array's cells in a block, from a place on, and that they may be written. Nothing here speaks of one function.
-/
import Derived.Test.YtbhninaaeeoamabDoorOwn
import Derived.Deep.MidRow
import Derived.Deep.WholeRow
import Derived.Laws.CopyOwn
namespace Go.Proofs.YtbhninaaeeoamabDoor
open Go.RowKit

/-- Numbers as cells. -/
def vals (k : IntKind) (zs : List Int) : List Value := zs.map (Value.int k)
theorem vals_length (k : IntKind) (zs : List Int) : (vals k zs).length = zs.length := by simp [vals]
theorem vals_get (k : IntKind) (zs : List Int) (i : Nat) (hi : i < zs.length) : (vals k zs)[i]? = some (.int k (zs.getD i 0)) := by
  simp [vals, List.getD, hi]
theorem vals_one (k : IntKind) (zs : List Int) : (vals k zs).toArray.all (·.oneCell') = true := all_oneCell_toArray (by
  intro v hv
  simp only [vals, List.mem_map] at hv
  obtain ⟨z, _, rfl⟩ := hv
  rfl)
/-- The numbers lie in block b from place o on, and may be written. -/
def Arr (w : World) (b o : Nat) (k : IntKind) (zs : List Int) : Prop := w.rangeAt b o (vals k zs) ∧ w.there b o zs.length

theorem Arr.cell {w : World} {b o : Nat} {k : IntKind} {zs : List Int} (h : Arr w b o k zs) (i : Nat) (hi : i < zs.length) : w.cell? ⟨b, o + i, none⟩ = some (.int k (zs.getD i 0)) := h.1 i _ (vals_get k zs i hi)
theorem Arr.cell0 {w : World} {b : Nat} {k : IntKind} {zs : List Int} (h : Arr w b 0 k zs) (i : Nat) (hi : i < zs.length) : w.cell? ⟨b, i, none⟩ = some (.int k (zs.getD i 0)) := by
  have := h.cell i hi
  rwa [Nat.zero_add] at this
theorem Arr.free {w : World} {b o : Nat} {k : IntKind} {zs : List Int} (h : Arr w b o k zs) (i : Nat) (hi : i < zs.length) : w.frozen? ⟨b, o + i, none⟩ = false := (h.2 i hi).2
theorem Arr.free0 {w : World} {b : Nat} {k : IntKind} {zs : List Int} (h : Arr w b 0 k zs) (i : Nat) (hi : i < zs.length) : w.frozen? ⟨b, i, none⟩ = false := by
  have := h.free i hi
  rwa [Nat.zero_add] at this
theorem Arr.lt {w : World} {b o : Nat} {k : IntKind} {zs : List Int} (h : Arr w b o k zs) (hp : 0 < zs.length) : b < w.heap.size := World.block_lt_of_cell? _ _ (h.cell 0 hp)
/-- What lies there does not turn while its cells stay. -/
theorem Arr.at {w w' : World} {b o : Nat} {k : IntKind} {zs : List Int} (h : Arr w b o k zs) (hc : ∀ i, i < zs.length → w'.cell? ⟨b, o + i, none⟩ = w.cell? ⟨b, o + i, none⟩)
    (hf : ∀ i, i < zs.length → w'.frozen? ⟨b, o + i, none⟩ = w.frozen? ⟨b, o + i, none⟩) : Arr w' b o k zs := by
  refine ⟨fun j v hv => ?_, fun j hj => ?_⟩
  · have hj : j < zs.length := by have := (List.getElem?_eq_some_iff.1 hv).1; rwa [vals_length] at this
    rw [hc j hj]
    exact h.1 j v hv
  · rw [hc j hj, hf j hj]
    exact h.2 j hj
theorem Arr.below {w w' : World} {B b o : Nat} {k : IntKind} {zs : List Int} (h : Arr w b o k zs) (hb : Below B w w') (hB : b < B) : Arr w' b o k zs :=
  h.at (fun _ _ => hb.cell hB) (fun _ _ => hb.frozen hB)
theorem Arr.on {w w' : World} {b o : Nat} {k : IntKind} {zs : List Int} (h : Arr w b o k zs) (hb : Below w.heap.size w w') : Arr w' b o k zs := by
  rcases Nat.eq_zero_or_pos zs.length with h0 | h0
  · exact h.at (fun i hi => by omega) (fun i hi => by omega)
  · exact h.below hb (h.lt h0)
theorem Arr.alloc {w : World} {b o : Nat} {k : IntKind} {zs : List Int} (h : Arr w b o k zs) (ob : Obj) : Arr (w.alloc ob) b o k zs := h.on ((Below.refl _ _).alloc (Nat.le_refl _) ob)
theorem Arr.drew {w : World} {b o : Nat} {k : IntKind} {zs : List Int} (h : Arr w b o k zs) : Arr w.drew b o k zs := h.on (Below.refl _ _).drew
/-- One number is written. -/
theorem Arr.set {w : World} {b o : Nat} {k : IntKind} {zs : List Int} (h : Arr w b o k zs) (i : Nat) (hi : i < zs.length) (z : Int) : Arr (w.setCell ⟨b, o + i, none⟩ (.int k z)) b o k (zs.set i z) := by
  refine ⟨fun j v hv => ?_, fun j hj => ?_⟩
  · have hj : j < zs.length := by have := (List.getElem?_eq_some_iff.1 hv).1; simpa [vals] using this
    by_cases e : i = j
    · subst e
      rw [World.cell?_setCell_same _ _ _ (h.cell i hi), ← hv]
      simp [vals, hi]
    · rw [World.cell?_setCell_other _ _ _ _ (by simp), h.cell j hj, ← hv]
      simp [vals, hj, e, List.getD]
  · have hj : j < zs.length := by simpa using hj
    by_cases e : i = j
    · subst e
      exact ⟨by rw [World.cell?_setCell_same _ _ _ (h.cell i hi)]; rfl, by rw [World.frozen?_setCell]; exact h.free i hi⟩
    · exact ⟨by rw [World.cell?_setCell_other _ _ _ _ (by simp), h.cell j hj]; rfl, by rw [World.frozen?_setCell]; exact h.free j hj⟩
theorem Arr.set0 {w : World} {b : Nat} {k : IntKind} {zs : List Int} (h : Arr w b 0 k zs) (i : Nat) (hi : i < zs.length) (z : Int) : Arr (w.setCell ⟨b, i, none⟩ (.int k z)) b 0 k (zs.set i z) := by
  have := h.set i hi z
  rwa [Nat.zero_add] at this
/-- One cell elsewhere is written. -/
theorem Arr.beside {w : World} {b o : Nat} {k : IntKind} {zs : List Int} (h : Arr w b o k zs) (p : Addr) (v : Value) (hp : p.block ≠ b ∨ p.off < o ∨ o + zs.length ≤ p.off) : Arr (w.setCell p v) b o k zs :=
  h.at (fun i hi => World.cell?_setCell_other _ _ _ _ (by rintro rfl; simp at hp; omega)) (fun i hi => World.frozen?_setCell _ _ _ _)
/-- Many cells elsewhere are written. -/
theorem Arr.apart {w : World} {b o : Nat} {k : IntKind} {zs : List Int} (h : Arr w b o k zs) (b' o' : Nat) (vs : List Value) (hap : b ≠ b' ∨ o + zs.length ≤ o' ∨ o' + vs.length ≤ o) : Arr (w.setCells b' o' vs) b o k zs :=
  ⟨World.rangeAt_setCells_apart h.1 b' o' vs (by rw [vals_length]; exact hap), World.there_setCells h.2 b' o' vs⟩
/-- All of it is written anew. -/
theorem Arr.put {w : World} {b o : Nat} {k : IntKind} {zs : List Int} (h : w.there b o zs.length) : Arr (w.setCells b o (vals k zs)) b o k zs :=
  ⟨World.rangeAt_setCells_same _ _ _ _ (by rw [vals_length]; exact h), World.there_setCells h _ _ _⟩
/-- A new box of numbers. -/
theorem Arr.new (w : World) (k : IntKind) (zs : List Int) (t : TypeId) : Arr (w.alloc (.cells (vals k zs).toArray t)) w.heap.size 0 k zs := by
  refine ⟨fun j v hv => ?_, fun j hj => ⟨?_, ?_⟩⟩
  · rw [Nat.zero_add, cell_of_row _ _ _ _ t (0, 0) (heap_alloc_new w _)]
    simpa using hv
  · rw [Nat.zero_add, cell_of_row _ _ _ _ t (0, 0) (heap_alloc_new w _)]
    simp [vals, hj]
  · exact frozen_of_row _ _ _ _ t (heap_alloc_new w _)
theorem below_set {B : Nat} {w w' : World} (h : Below B w w') {p : Addr} (hp : B ≤ p.block) (v : Value) : Below B w (w'.setCell p v) := h.setCell hp v
theorem below_sets {B b : Nat} {w : World} (hb : B ≤ b) : ∀ (vs : List Value) (o : Nat) (w' : World), Below B w w' → Below B w (w'.setCells b o vs)
  | [], _, _, h => h
  | v :: vs, o, _, h => below_sets hb vs (o + 1) _ (h.setCell hb v)
theorem below_on' {B : Nat} {w w1 w2 : World} (h : Below B w w1) (k : Below w1.heap.size w1 w2) (hB : B ≤ w.heap.size) : Below B w w2 := h.trans (k.mono (Nat.le_trans hB h.size))

end Go.Proofs.YtbhninaaeeoamabDoor
