/-
  Lists of pieces: a slice of slices of bytes in memory. Nothing here speaks of one function.
-/
import Derived.Test.YtbhninaaeeoamabDoorOwn
namespace Go.Proofs.YtbhninaaeeoamabDoor
open Go.RowKit

/-- The slice bears parts, each of which bears its bytes. -/
def Parts (w : World) (v : Value) (L : List (List Int)) : Prop :=
  ∃ (a : Option Addr) (cap : Nat), v = .slice a L.length cap ∧ L.length ≤ cap ∧ cap ≤ 9223372036854775807 ∧ (a = none → cap = 0) ∧
    (0 < L.length → ∃ b off : Nat, a = some ⟨b, off, none⟩ ∧ ∀ i, i < L.length → ∃ p, w.cell? ⟨b, off + i, none⟩ = some p ∧ Bytes w p (L.getD i []))
theorem Parts.form {w : World} {v : Value} {L : List (List Int)} (h : Parts w v L) : ∃ (a : Option Addr) (cap : Nat), v = .slice a L.length cap ∧ L.length ≤ cap ∧ cap ≤ 9223372036854775807 := by
  obtain ⟨a, cap, h1, h2, h3, _⟩ := h
  exact ⟨a, cap, h1, h2, h3⟩
theorem Parts.lies {w : World} {v : Value} {L : List (List Int)} (h : Parts w v L) (hl : 0 < L.length) :
    ∃ b off cap : Nat, v = .slice (some ⟨b, off, none⟩) L.length cap ∧ L.length ≤ cap ∧ cap ≤ 9223372036854775807 ∧ ∀ i, i < L.length → ∃ p, w.cell? ⟨b, off + i, none⟩ = some p ∧ Bytes w p (L.getD i []) := by
  obtain ⟨a, cap, h1, h2, h3, _, h5⟩ := h
  obtain ⟨b, off, rfl, hc⟩ := h5 hl
  exact ⟨b, off, cap, h1, h2, h3, hc⟩
theorem Parts.empty {w : World} {v : Value} (h : Parts w v []) : ∃ (a : Option Addr) (cap : Nat), v = .slice a 0 cap ∧ cap ≤ 9223372036854775807 := by
  obtain ⟨a, cap, h1, _, h3, _⟩ := h
  exact ⟨a, cap, h1, h3⟩
theorem Parts.at {w w' : World} {v : Value} {L : List (List Int)} (h : Parts w v L) (hb : ∀ p : Addr, p.block < w.heap.size → w'.cell? p = w.cell? p) : Parts w' v L := by
  obtain ⟨a, cap, h1, h2, h3, h4, h5⟩ := h
  refine ⟨a, cap, h1, h2, h3, h4, fun hl => ?_⟩
  obtain ⟨b, off, rfl, hc⟩ := h5 hl
  refine ⟨b, off, rfl, fun i hi => ?_⟩
  obtain ⟨p, hp, hq⟩ := hc i hi
  exact ⟨p, (hb _ (World.block_lt_of_cell? _ _ hp)).trans hp, hq.at hb⟩
theorem Parts.below {w w' : World} {v : Value} {L : List (List Int)} (h : Parts w v L) (hb : Below w.heap.size w w') : Parts w' v L := h.at fun _ hp => hb.cell hp
theorem Parts.none (w : World) : Parts w (.slice .none 0 0) [] := ⟨.none, 0, rfl, by simp, by simp, fun _ => rfl, by simp⟩
theorem below_on {w a b : World} (h : Below w.heap.size w a) (k : Below a.heap.size a b) : Below w.heap.size w b := h.trans (k.mono h.size)
theorem below_box {w a b : World} {o : Obj} (h : Below w.heap.size w a) (k : Below (a.alloc o).heap.size (a.alloc o) b) : Below w.heap.size w b :=
  below_on (h.alloc h.size o) k
theorem box1 {a b : World} {o : Obj} (k : Below (a.alloc o).heap.size (a.alloc o) b) : Below a.heap.size a b := below_box (Below.refl _ _) k
theorem box2 {a b : World} {o o' : Obj} (k : Below ((a.alloc o).alloc o').heap.size ((a.alloc o).alloc o') b) : Below a.heap.size a b := box1 (box1 k)
/-- A new list of one piece, of two. -/
theorem Parts.one (w : World) (p : Value) (l : List Int) (h : Bytes w p l) : Parts (w.alloc (.cells #[p] 22)) (.slice (some ⟨w.heap.size, 0, .none⟩) 1 1) [l] := by
  refine ⟨_, _, rfl, Nat.le_refl _, by omega, by simp, fun _ => ⟨_, _, rfl, fun i hi => ?_⟩⟩
  obtain rfl : i = 0 := by simp at hi; omega
  exact ⟨p, by rw [cell_of_row _ _ _ _ 22 (0, 0) (heap_alloc_new w _)]; rfl, h.alloc _⟩
theorem Parts.two (w : World) (p q : Value) (l m : List Int) (h : Bytes w p l) (k : Bytes w q m) : Parts (w.alloc (.cells #[p, q] 22)) (.slice (some ⟨w.heap.size, 0, .none⟩) 2 2) [l, m] := by
  refine ⟨_, _, rfl, Nat.le_refl _, by omega, by simp, fun _ => ⟨_, _, rfl, fun i hi => ?_⟩⟩
  rcases (show i = 0 ∨ i = 1 by simp at hi; omega) with rfl | rfl
  · exact ⟨p, by rw [cell_of_row _ _ _ _ 22 (0, 0) (heap_alloc_new w _)]; rfl, h.alloc _⟩
  · exact ⟨q, by rw [cell_of_row _ _ _ _ 22 (0, 0) (heap_alloc_new w _)]; rfl, k.alloc _⟩

end Go.Proofs.YtbhninaaeeoamabDoor
