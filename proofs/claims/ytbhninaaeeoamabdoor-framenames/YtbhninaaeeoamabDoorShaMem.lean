/-
  A hasher in memory: its count, its state, its block; what turns while bytes are written to it. Nothing here speaks of one function.
-/
import Derived.Test.YtbhninaaeeoamabDoorArrWalk
import Derived.Test.YtbhninaaeeoamabDoorShaPure
namespace Go.Proofs.YtbhninaaeeoamabDoor
open Go.RowKit

/-- Of the old blocks only block b turns. -/
def Only (b : Nat) (w w' : World) : Prop := Below b w w' ∧ ∀ k, b < k → k < w.heap.size → w'.heap[k]? = w.heap[k]?
theorem Only.refl (b : Nat) (w : World) : Only b w w := ⟨Below.refl _ _, fun _ _ _ => rfl⟩
theorem Only.trans {b : Nat} {w w1 w2 : World} (h : Only b w w1) (k : Only b w1 w2) : Only b w w2 :=
  ⟨h.1.trans k.1, fun i hi hl => (k.2 i hi (Nat.lt_of_lt_of_le hl h.1.size)).trans (h.2 i hi hl)⟩
theorem Only.of_below {b : Nat} {w w' : World} (h : Below w.heap.size w w') (hb : b ≤ w.heap.size) : Only b w w' := ⟨h.mono hb, fun i _ hl => h.block i hl⟩
theorem Only.set {b : Nat} {w w' : World} (h : Only b w w') (o : Nat) (v : Value) : Only b w (w'.setCell ⟨b, o, none⟩ v) :=
  ⟨h.1.setCell (Nat.le_refl _) v, fun i hi hl => (Below.heap_setCell w' ⟨b, o, none⟩ v i (by simp; omega)).trans (h.2 i hi hl)⟩
theorem Only.sets {b : Nat} {w : World} : ∀ (vs : List Value) (o : Nat) (w' : World), Only b w w' → Only b w (w'.setCells b o vs)
  | [], _, _, h => h
  | v :: vs, o, _, h => Only.sets vs (o + 1) _ (h.set o v)
theorem Only.drew {b : Nat} {w w' : World} (h : Only b w w') : Only b w w'.drew := ⟨h.1.drew, h.2⟩
theorem Only.size {b : Nat} {w w' : World} (h : Only b w w') : w.heap.size ≤ w'.heap.size := h.1.size
theorem Only.heap {b : Nat} {w w' : World} (h : Only b w w') (k : Nat) (hk : k ≠ b) (hl : k < w.heap.size) : w'.heap[k]? = w.heap[k]? := by
  rcases Nat.lt_or_gt_of_ne hk with h1 | h1
  · exact h.1.block k h1
  · exact h.2 k h1 hl
theorem Only.cell {b : Nat} {w w' : World} (h : Only b w w') (p : Addr) (hk : p.block ≠ b) (hl : p.block < w.heap.size) : w'.cell? p = w.cell? p := World.cell?_of_block (w := w) (h.heap p.block hk hl)
theorem Only.frozen {b : Nat} {w w' : World} (h : Only b w w') (p : Addr) (hk : p.block ≠ b) (hl : p.block < w.heap.size) : w'.frozen? p = w.frozen? p := World.frozen?_of_block (w := w) (h.heap p.block hk hl)
theorem Only.ground {b B : Nat} {w w' : World} (h : Only b w w') (hB : B ≤ b) : Below B w w' := h.1.mono hB

/-- Bytes that do not lie in block b. -/
def Src (w : World) (b : Nat) (v : Value) (l : List Int) : Prop := ∀ w', Only b w w' → Bytes w' v l
theorem Src.bytes {w : World} {b : Nat} {v : Value} {l : List Int} (h : Src w b v l) : Bytes w v l := h w (Only.refl _ _)
theorem Src.on {w w' : World} {b : Nat} {v : Value} {l : List Int} (h : Src w b v l) (ho : Only b w w') : Src w' b v l := fun w2 h2 => h w2 (ho.trans h2)
theorem Src.drop {w : World} {b : Nat} {a : Option Addr} {n cap : Nat} {l : List Int} (h : Src w b (.slice a n cap) l) (k : Nat) (hk : k ≤ n) :
    Src w b (.slice (if cap = k then a else a.map (·.add k)) (n - k) (cap - k)) (l.drop k) := fun w' h' => (h w' h').drop k hk
/-- Bytes that were there before the block was. -/
theorem Src.old {w0 w : World} {b : Nat} {v : Value} {l : List Int} (h : Bytes w0 v l) (hb : Below w0.heap.size w0 w) (hB : w0.heap.size ≤ b) : Src w b v l :=
  fun _ h' => h.below (hb.trans (h'.ground hB))
theorem Src.own {w : World} {b base : Nat} {v : Value} {l : List Int} (h : Own w base v l) (hB : b < base) : Src w b v l := by
  intro w' h'
  have hb := h.bytes
  obtain ⟨_, h0 | ⟨g, cap, cur, rfl, hbg, hg, -⟩⟩ := id h
  · obtain ⟨rfl, h0⟩ := h0
    obtain rfl : l = [] := List.length_eq_zero_iff.1 h0
    exact Bytes.nil _
  · obtain ⟨a, c, h1, h2, h3, h4, h5⟩ := hb
    refine ⟨a, c, h1, h2, h3, h4, fun hl => ?_⟩
    obtain ⟨b', off, rfl, hc⟩ := h5 hl
    refine ⟨b', off, rfl, fun i hi => (h'.cell _ ?_ (World.block_lt_of_cell? _ _ (hc i hi))).trans (hc i hi)⟩
    simp only [Value.slice.injEq, Option.some.injEq, Addr.mk.injEq] at h1
    show b' ≠ b
    omega

/-- A hasher: its count, its state, its block. -/
def HashAt (w : World) (b : Nat) (size : Int) (st blk : List Int) : Prop :=
  w.cell? ⟨b, 0, none⟩ = some (.int .u64 size) ∧ w.frozen? ⟨b, 0, none⟩ = false ∧ Arr w b 1 .u32 st ∧ Arr w b 9 .u8 blk ∧ st.length = 8 ∧ blk.length = 64
/-- It holds the bytes m, and is under way. -/
def Under (w : World) (b : Nat) (m : List Int) : Prop := ∃ blk, HashAt w b m.length (stateOf m) blk ∧ Begins blk m
/-- It holds the bytes m. -/
def Hashes (w : World) (b : Nat) (m : List Int) : Prop := ∃ st blk, HashAt w b m.length st blk ∧ Begins blk m ∧ (m = [] ∨ st = stateOf m)
theorem Under.hashes {w : World} {b : Nat} {m : List Int} (h : Under w b m) : Hashes w b m := by
  obtain ⟨blk, h1, h2⟩ := h
  exact ⟨_, blk, h1, h2, Or.inr rfl⟩
theorem HashAt.lt {w : World} {b : Nat} {size : Int} {st blk : List Int} (h : HashAt w b size st blk) : b < w.heap.size := World.block_lt_of_cell? _ _ h.1
theorem HashAt.heap {w w' : World} {b : Nat} {size : Int} {st blk : List Int} (h : HashAt w b size st blk) (e : w'.heap[b]? = w.heap[b]?) : HashAt w' b size st blk := by
  obtain ⟨h1, h2, h3, h4, h5, h6⟩ := h
  have hc : ∀ i, w'.cell? ⟨b, i, none⟩ = w.cell? ⟨b, i, none⟩ := fun i => World.cell?_of_block (w := w) e
  have hf : ∀ i, w'.frozen? ⟨b, i, none⟩ = w.frozen? ⟨b, i, none⟩ := fun i => World.frozen?_of_block (w := w) e
  exact ⟨(hc 0).trans h1, (hf 0).trans h2, h3.at (fun i _ => hc _) (fun i _ => hf _), h4.at (fun i _ => hc _) (fun i _ => hf _), h5, h6⟩
theorem HashAt.on {w w' : World} {b : Nat} {size : Int} {st blk : List Int} (h : HashAt w b size st blk) (hb : Below w.heap.size w w') : HashAt w' b size st blk := h.heap (hb.block b h.lt)
theorem HashAt.beside {w w' : World} {b b' : Nat} {size : Int} {st blk : List Int} (h : HashAt w b size st blk) (ho : Only b' w w') (hne : b ≠ b') : HashAt w' b size st blk := h.heap (ho.heap b hne h.lt)
theorem Hashes.heap {w w' : World} {b : Nat} {m : List Int} (h : Hashes w b m) (e : w'.heap[b]? = w.heap[b]?) : Hashes w' b m := by
  obtain ⟨st, blk, h1, h2⟩ := h
  exact ⟨st, blk, h1.heap e, h2⟩
theorem Hashes.lt {w : World} {b : Nat} {m : List Int} (h : Hashes w b m) : b < w.heap.size := by
  obtain ⟨st, blk, h1, -⟩ := h
  exact h1.lt
theorem Hashes.on {w w' : World} {b : Nat} {m : List Int} (h : Hashes w b m) (hb : Below w.heap.size w w') : Hashes w' b m := h.heap (hb.block b h.lt)
theorem Hashes.beside {w w' : World} {b b' : Nat} {m : List Int} (h : Hashes w b m) (ho : Only b' w w') (hne : b ≠ b') : Hashes w' b m := h.heap (ho.heap b hne h.lt)

/-- The cells of a hasher. -/
def cellsOf (size : Int) (st blk : List Int) : List Value := .int .u64 size :: (vals .u32 st ++ vals .u8 blk)
theorem HashAt.range {w : World} {b : Nat} {size : Int} {st blk : List Int} (h : HashAt w b size st blk) : w.rangeAt b 0 (cellsOf size st blk) := by
  obtain ⟨h1, -, h3, h4, h5, h6⟩ := h
  intro j v hv
  rw [Nat.zero_add]
  cases j with
  | zero =>
    simp only [cellsOf, List.getElem?_cons_zero, Option.some.injEq] at hv
    rw [← hv]
    exact h1
  | succ j =>
    simp only [cellsOf, List.getElem?_cons_succ] at hv
    by_cases hj : j < 8
    · rw [List.getElem?_append_left (by rw [vals_length]; omega)] at hv
      have := h3.1 j v hv
      rwa [Nat.add_comm] at this
    · rw [List.getElem?_append_right (by rw [vals_length]; omega), vals_length, h5] at hv
      have := h4.1 (j - 8) v hv
      rwa [show 9 + (j - 8) = j + 1 by omega] at this
theorem HashAt.new (w : World) (size : Int) (st blk : List Int) (t : TypeId) (h5 : st.length = 8) (h6 : blk.length = 64) : HashAt (w.alloc (.cells (cellsOf size st blk).toArray t)) w.heap.size size st blk := by
  have hc : ∀ j, (w.alloc (.cells (cellsOf size st blk).toArray t)).cell? ⟨w.heap.size, j, none⟩ = (cellsOf size st blk)[j]? := fun j => by
    rw [cell_of_row _ _ _ _ t (0, 0) (heap_alloc_new w _)]
    simp
  have hf : ∀ j, (w.alloc (.cells (cellsOf size st blk).toArray t)).frozen? ⟨w.heap.size, j, none⟩ = false := fun j => frozen_of_row _ _ _ _ t (heap_alloc_new w _)
  have e1 : ∀ j, j < 8 → (cellsOf size st blk)[1 + j]? = (vals .u32 st)[j]? := fun j hj => by
    rw [Nat.add_comm]
    simp only [cellsOf, List.getElem?_cons_succ]
    rw [List.getElem?_append_left (by rw [vals_length]; omega)]
  have e2 : ∀ j, (cellsOf size st blk)[9 + j]? = (vals .u8 blk)[j]? := fun j => by
    rw [show 9 + j = (8 + j) + 1 by omega]
    simp only [cellsOf, List.getElem?_cons_succ]
    rw [List.getElem?_append_right (by rw [vals_length]; omega), vals_length, show 8 + j - st.length = j by omega]
  refine ⟨hc 0, hf 0, ⟨fun j v hv => ?_, fun j hj => ⟨?_, hf _⟩⟩, ⟨fun j v hv => ?_, fun j hj => ⟨?_, hf _⟩⟩, h5, h6⟩
  · have hj : j < 8 := by have := (List.getElem?_eq_some_iff.1 hv).1; rw [vals_length] at this; omega
    rw [hc, e1 j hj]
    exact hv
  · rw [hc, e1 j (by omega), vals_get .u32 st j hj]
    rfl
  · rw [hc, e2]
    exact hv
  · rw [hc, e2, vals_get .u8 blk j hj]
    rfl
theorem HashAt.box {w : World} {b : Nat} {size : Int} {st blk : List Int} (h : HashAt w b size st blk) (t : TypeId) : HashAt (w.alloc (.cells (cellsOf size st blk).toArray t)) w.heap.size size st blk := HashAt.new w size st blk t h.2.2.2.2.1 h.2.2.2.2.2
theorem cellsOf_length (size : Int) (st blk : List Int) (h5 : st.length = 8) (h6 : blk.length = 64) : (cellsOf size st blk).length = 73 := by simp [cellsOf, vals, h5, h6]
theorem Begins.nil (blk : List Int) (h : blk.length = 64) : Begins blk [] := ⟨h, by simp⟩

/-- Bytes go into the block. -/
theorem HashAt.copied {w : World} {b : Nat} {size : Int} {st blk : List Int} (h : HashAt w b size st blk) (p : Nat) (x : List Int) (hx : p + x.length ≤ 64) : HashAt (w.setCells b (9 + p) (vals .u8 x)) b size st (splice blk p x) := by
  obtain ⟨h1, h2, h3, h4, h5, h6⟩ := h
  refine ⟨?_, by rw [World.frozen?_setCells]; exact h2, h3.apart _ _ _ (Or.inr (Or.inl (by omega))), ⟨fun j v hv => ?_, ?_⟩, h5, by rw [length_splice _ _ _ (by omega)]; exact h6⟩
  · rw [World.cell?_setCells_out _ _ _ _ _ (fun _ _ => Or.inl (by show 0 < 9 + p; omega))]
    exact h1
  · have hl : (splice blk p x).length = 64 := by rw [length_splice _ _ _ (by omega)]; exact h6
    have hj : j < 64 := by have := (List.getElem?_eq_some_iff.1 hv).1; rw [vals_length] at this; omega
    have hth : ∀ i, i < (vals .u8 x).length → (w.cell? ⟨b, 9 + p + i, none⟩).isSome = true := fun i hi => by
      rw [vals_length] at hi
      rw [Nat.add_assoc]
      exact (h4.2 (p + i) (by omega)).1
    have hg : v = .int .u8 ((splice blk p x).getD j 0) := by
      rw [vals_get .u8 _ j (by omega)] at hv
      exact (Option.some.inj hv).symm
    rw [hg]
    by_cases hin : p ≤ j ∧ j < p + x.length
    · have hi : j - p < (vals .u8 x).length := by rw [vals_length]; omega
      have := World.cell?_setCells_in b (vals .u8 x) (9 + p) w hth (j - p) hi
      rw [show 9 + p + (j - p) = 9 + j by omega] at this
      rw [this]
      have e : (splice blk p x).getD j 0 = x.getD (j - p) 0 := by
        simp only [splice, List.getD]
        rw [List.getElem?_append_right (by simp; omega), List.getElem?_append_left (by simp; omega)]
        simp
        rw [show min p blk.length = p by omega]
      rw [e]
      simp [vals, List.getD]
      rw [List.getElem?_eq_getElem (by omega)]
      rfl
    · rw [World.cell?_setCells_out _ _ _ _ _ (fun _ _ => by rw [vals_length]; show 9 + j < 9 + p ∨ 9 + p + x.length ≤ 9 + j; omega), h4.cell j (by omega)]
      congr 2
      simp only [splice, List.getD]
      by_cases hjp : j < p
      · rw [List.getElem?_append_left (by simp; omega), List.getElem?_take_of_lt hjp]
      · rw [List.getElem?_append_right (by simp; omega), List.getElem?_append_right (by simp; omega), List.getElem?_drop]
        simp
        congr 2
        omega
  · rw [length_splice _ _ _ (by omega)]
    exact World.there_setCells h4.2 _ _ _
/-- The count is written. -/
theorem HashAt.counted {w : World} {b : Nat} {size : Int} {st blk : List Int} (h : HashAt w b size st blk) (n : Int) : HashAt (w.setCell ⟨b, 0, none⟩ (.int .u64 n)) b n st blk := by
  obtain ⟨h1, h2, h3, h4, h5, h6⟩ := h
  exact ⟨World.cell?_setCell_same _ _ _ h1, by rw [World.frozen?_setCell]; exact h2, h3.beside _ _ (Or.inr (Or.inl (by simp))), h4.beside _ _ (Or.inr (Or.inl (by simp))), h5, h6⟩
/-- The state is written. -/
theorem HashAt.stated {w : World} {b : Nat} {size : Int} {st blk : List Int} (h : HashAt w b size st blk) (st' : List Int) (h' : st'.length = 8) : HashAt (w.setCells b 1 (vals .u32 st')) b size st' blk := by
  obtain ⟨h1, h2, h3, h4, h5, h6⟩ := h
  refine ⟨?_, by rw [World.frozen?_setCells]; exact h2, Arr.put (by rw [h', ← h5]; exact h3.2), h4.apart _ _ _ (Or.inr (Or.inr (by rw [vals_length]; omega))), h', h6⟩
  rw [World.cell?_setCells_out _ _ _ _ _ (fun _ _ => Or.inl (by show 0 < 1; omega))]
  exact h1

end Go.Proofs.YtbhninaaeeoamabDoor
