/-
  sha.Sum of one piece; a row of bytes as a slice.
-/
import Derived.Test.YtbhninaaeeoamabDoorEql
namespace Go.Proofs.YtbhninaaeeoamabDoor
open Go.RowKit

/-- A row of bytes as a slice. -/
theorem Arr.bytes {w : World} {b : Nat} {l : List Int} (h : Arr w b 0 .u8 l) (hl : l.length ≤ 1000) : Bytes w (.slice (some ⟨b, 0, none⟩) l.length l.length) l :=
  ⟨_, _, rfl, Nat.le_refl _, by omega, by simp, fun _ => ⟨_, _, rfl, fun i hi => h.cell i hi⟩⟩
theorem Arr.bytes32 {w : World} {b : Nat} {l : List Int} (h : Arr w b 0 .u8 l) (hl : l.length = 32) : Bytes w (.slice (some ⟨b, 0, none⟩) 32 32) l := by
  have := h.bytes (by omega)
  rwa [hl] at this
theorem Ks.alloc {w : World} (h : Ks w) (o : Obj) : Ks (w.alloc o) := h.on ((Below.refl _ _).alloc (Nat.le_refl _) o)
/-- sha.Sum of one piece, in the list that the call itself lays. -/
theorem sum_one (w : World) (p : Value) (l : List Int) (h : Bytes w p l) (hk : Ks w) (hl : l.length ≤ 100000000) :
    Calls Tryd.prog 24 #[.slice (some ⟨w.heap.size, 0, none⟩) 1 1] (w.alloc (.cells #[p] 22)) fun e w' => e = .returned (.agg (vals .u8 (digest l)).toArray) ∧ Below w.heap.size w w' :=
  (sum_flat _ _ [l] l (by simp) (Parts.one w p l h) (hk.alloc _) hl).mono (by
    rintro e w' ⟨rfl, hb⟩
    exact ⟨rfl, box1 hb⟩)

end Go.Proofs.YtbhninaaeeoamabDoor
