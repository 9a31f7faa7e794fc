/-
  A slice of numbers of sixteen bits in memory. Nothing here speaks of one function.
-/
import Derived.Test.YtnjbjgjhomfndaaDoorLawKit
namespace Go.Proofs.YtnjbjgjhomfndaaDoor
open Go.ChangeShapes Go.WideShapes Go.ChangeAt Go.RowKit

/-- The slice bears the numbers. -/
def Shorts (w : World) (v : Value) (l : List Int) : Prop :=
  ∃ (a : Option Addr) (cap : Nat), v = .slice a l.length cap ∧ l.length ≤ cap ∧ cap ≤ 9223372036854775807 ∧
    (0 < l.length → ∃ b off : Nat, a = some ⟨b, off, none⟩ ∧ ∀ i, i < l.length → w.cell? ⟨b, off + i, none⟩ = some (.int .u16 (l.getD i 0)))
theorem Shorts.nil (w : World) : Shorts w (.slice none 0 0) [] := ⟨none, 0, rfl, by simp, by simp, by simp⟩
theorem Shorts.at {w w' : World} {v : Value} {l : List Int} (h : Shorts w v l) (hb : Below w.heap.size w w') : Shorts w' v l := by
  obtain ⟨a, cap, h1, h2, h3, h5⟩ := h
  refine ⟨a, cap, h1, h2, h3, fun hl => ?_⟩
  obtain ⟨b, off, rfl, hc⟩ := h5 hl
  exact ⟨b, off, rfl, fun i hi => (hb.cell (World.block_lt_of_cell? _ _ (hc i hi))).trans (hc i hi)⟩
/-- One that came in. -/
theorem shorts_row {W : World} {a : Addr} {len cap : Nat} {zs : List Int} (hl : len ≤ cap) (hm : cap ≤ maxLen) (hz : zs.length = cap)
    (hcell : ∀ i, i < zs.length → W.cell? (a.add i) = some (.int .u16 (zs.getD i 0))) (hwz : ∀ n ∈ zs, (Lit.int .u16 n).wf = true) :
    ∃ l, Shorts W (.slice (some a) len cap) l ∧ ∀ z ∈ l, 0 ≤ z ∧ z < 65536 := by
  unfold maxLen at hm
  have hlen : (zs.take len).length = len := by simp; omega
  refine ⟨zs.take len, ⟨some a, cap, by rw [hlen], by omega, by omega, fun hp => ?_⟩, fun z hz => short_of_wf (hwz z (List.mem_of_mem_take hz))⟩
  obtain ⟨b, off, rfl, hc⟩ := ints_at hcell (by omega)
  refine ⟨b, off, rfl, fun i hi => ?_⟩
  have hi' : i < len := by omega
  have e : (zs.take len).getD i 0 = zs.getD i 0 := by simp [List.getD, hi']
  rw [e]
  exact hc i (by omega)

end Go.Proofs.YtnjbjgjhomfndaaDoor
