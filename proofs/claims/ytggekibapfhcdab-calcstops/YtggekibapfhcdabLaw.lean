/-
  What every law's proof of this seat has in common: no statement of its own.
-/
import Derived.Test.YtggekibapfhcdabRows
import Derived.Test.YtggekibapfhcdabAlive
import Derived.ProofKit
import Derived.OpenShut
import Derived.ShutString
import Derived.ChangeOld
import Derived.Below
import Derived.Lib.SmallJoins
namespace Go.Proofs.Ytggekibapfhcdab
open Go.ChangeShapes Go.WideShapes Go.ChangeAt Go.RowKit

theorem own : ownKnob Try.prog.godebug = none := by kernel_rfl
theorem laidOut : laidOutB Try.prog = true := by kernel_rfl
/-- What is known of a uint64 that came in. -/
theorem word_of_wf {x : Int} (h : (Lit.int .u64 x).wf = true) : Word x := by
  simp [Lit.wf, IntKind.min, IntKind.max, IntKind.signed, IntKind.bits] at h
  exact ⟨by omega, by omega⟩
theorem nat_of_wf {x : Int} (h : (Lit.int .u64 x).wf = true) : ∃ n : Nat, x = n ∧ n < 18446744073709551616 := by
  obtain ⟨h0, h1⟩ := word_of_wf h
  exact ⟨x.toNat, by omega, by omega⟩
/-- A slice of uint64 that came in bears its list. -/
theorem slice_row {W : World} {a : Addr} {len cap : Nat} {zs : List Int} (hl : len ≤ cap) (hm : cap ≤ maxLen) (hz : zs.length = cap)
    (hcell : ∀ i, i < zs.length → W.cell? (a.add i) = some (.int .u64 (zs.getD i 0))) (hwz : ∀ n ∈ zs, (Lit.int .u64 n).wf = true) :
    ∃ l, Slice W (.slice (some a) len cap) l ∧ ∀ z ∈ l, Word z := by
  unfold maxLen at hm
  have hlen : (zs.take len).length = len := by simp; omega
  refine ⟨zs.take len, ?_, fun z hz => word_of_wf (hwz z (List.mem_of_mem_take hz))⟩
  rcases Nat.eq_zero_or_pos len with h0 | h0
  · subst h0
    exact Or.inl ⟨some a, cap, rfl, by simp⟩
  · obtain ⟨b, off, rfl, hc⟩ := ints_at hcell (by omega)
    refine Or.inr ⟨b, off, cap, by rw [hlen], fun i hi => ?_, by omega⟩
    have hi' : i < len := by omega
    have e : (zs.take len).getD i 0 = zs.getD i 0 := by simp [List.getD, hi']
    rw [e]
    exact hc i (by omega)
/-- Nothing that a slice bears has turned. -/
theorem Slice.below {W W' : World} {v : Value} {l : List Int} (h : Slice W v l) (hb : Below W.heap.size W W') : Slice W' v l := by
  rcases h with h | ⟨b, off, cap, rfl, hc, hlen⟩
  · exact Or.inl h
  · refine Or.inr ⟨b, off, cap, rfl, fun i hi => ?_, hlen⟩
    have h1 := hc i hi
    exact (hb.cell (p := ⟨b, off + i, none⟩) (World.block_lt_of_cell? _ _ h1)).trans h1
theorem bcell {W w1 : World} (hb : Below W.heap.size W w1) : (∀ b o, b < W.heap.size → w1.cell? ⟨b, o, none⟩ = W.cell? ⟨b, o, none⟩) :=
  fun b o h => hb.cell (p := ⟨b, o, none⟩) h
/-- The four numbers of a box that was made behind the old blocks. -/
theorem box_four {w w1 : World} {a b c d : Value} {t : TypeId} (hb : Below (w.alloc (.cells #[a, b, c, d] t)).heap.size (w.alloc (.cells #[a, b, c, d] t)) w1) :
    w1.cell? ⟨w.heap.size, 0, none⟩ = some a ∧ w1.cell? ⟨w.heap.size, 1, none⟩ = some b ∧ w1.cell? ⟨w.heap.size, 2, none⟩ = some c ∧ w1.cell? ⟨w.heap.size, 3, none⟩ = some d := by
  have h := bcell hb
  refine ⟨?_, ?_, ?_, ?_⟩ <;> (rw [h _ _ (by simp)]; simp)
/-- How a comparison of two products comes out, by name: a number and its sign. -/
theorem cmp_named (a b c d : Nat) (ha : a < 18446744073709551616) (hb : b < 18446744073709551616) (hc : c < 18446744073709551616) (hd : d < 18446744073709551616) :
    ∃ k : Int, (∀ w, Calls Try.prog 10 #[.int .u64 a, .int .u64 b, .int .u64 c, .int .u64 d] w fun e w' => e = .returned (.int .i64 k) ∧ w' = w) ∧
      ((a * b < c * d ∧ k = -1) ∨ (a * b = c * d ∧ k = 0) ∨ (c * d < a * b ∧ k = 1)) := by
  refine ⟨cmpI ((a : Int) * b) ((c : Int) * d), fun w => cmp_any a b c d ⟨by omega, by omega⟩ ⟨by omega, by omega⟩ ⟨by omega, by omega⟩ ⟨by omega, by omega⟩ w, ?_⟩
  have h := cmpI_cases ((a : Int) * b) ((c : Int) * d)
  rw [← Int.natCast_mul, ← Int.natCast_mul] at h ⊢
  omega

end Go.Proofs.Ytggekibapfhcdab
