/-
  What holds while a flow is fed piece by piece, at the head of a round: with no word of one function of the laws.
-/
import Derived.Test.YtnjbjgjhomfndaaDoorFlPiece
namespace Go.Proofs.YtnjbjgjhomfndaaDoor
open Go.RowKit

/-- What holds at the head of a round. -/
def Piecing (w0 : World) (p : Nat) (b : List Int) (n : Nat) (gv rv i : Value) (wr : World) : Prop :=
  ∃ (k q : Nat) (x y r : List Int) (d : Bool) (L : List It), k ≤ n ∧ i = .int .i64 k ∧ Pieced w0 p b gv rv wr q x y r d L
theorem wait_upto {w : World} {p q : Nat} {r : List Int} {d : Bool} (h : Flw w p q r d) : r.length < 2072 := by
  cases d with
  | true => rw [h.dead.1 rfl]; simp
  | false => exact geE4_upto (h.dead.2 rfl)
/-- The bounds that a piece keeps. -/
theorem Pieced.few {w0 wr : World} {p : Nat} {b : List Int} {gv rv : Value} {q : Nat} {x y r s z t : List Int} {d d' : Bool} {L L2 : List It} (h : Pieced w0 p b gv rv wr q x y r d L) (hb : ∀ z ∈ b, Byte z) (hy : y = z ++ t) (hR : FRuns d r z L2 s d') : L.length + L2.length ≤ b.length ∧ (∀ z ∈ x, Byte z) ∧ (∀ z ∈ y, Byte z) ∧ (∀ z ∈ r, Byte z) ∧ y.length ≤ b.length := by
  obtain ⟨e, -, -, hRx, -⟩ := h
  have hxb : ∀ z ∈ x, Byte z := fun z hz => hb z (by rw [e]; simp [hz])
  have hyb : ∀ z ∈ y, Byte z := fun z hz => hb z (by rw [e]; simp [hz])
  have hj := (FRuns.join hRx hxb hR).count (fun u hu => by
    rcases List.mem_append.1 hu with h | h
    · exact hxb u h
    · exact hyb u (by rw [hy]; simp [h]))
  have el := congrArg List.length e
  have yl := congrArg List.length hy
  simp only [List.length_append] at hj el yl
  exact ⟨by omega, hxb, hyb, hRx.byte hxb, by omega⟩

end Go.Proofs.YtnjbjgjhomfndaaDoor
