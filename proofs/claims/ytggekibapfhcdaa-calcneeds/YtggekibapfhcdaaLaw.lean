/-
  What every law's proof of this seat has in common: no statement of its own.
-/
import Derived.Test.YtggekibapfhcdaaRows
import Derived.Test.YtggekibapfhcdaaAlive
import Derived.ProofKit
import Derived.OpenShut
import Derived.ShutString
import Derived.ChangeOld
import Derived.Below
namespace Go.Proofs.Ytggekibapfhcdaa
open Go.ChangeShapes Go.WideShapes Go.ChangeAt Go.RowKit

theorem own : ownKnob Try.prog.godebug = none := by kernel_rfl
theorem laidOut : laidOutB Try.prog = true := by kernel_rfl
/-- What is known of a uint64 that came in. -/
theorem word_of_wf {x : Int} (h : (Lit.int .u64 x).wf = true) : Word x := by
  simp [Lit.wf, IntKind.min, IntKind.max, IntKind.signed, IntKind.bits] at h
  exact ⟨by omega, by omega⟩
theorem nat_of_wf {x : Int} (h : (Lit.int .u64 x).wf = true) : ∃ n : Nat, x = n ∧ n < 18446744073709551616 := by
  obtain ⟨h0, h1⟩ := word_of_wf h
  exact ⟨x.toNat, by omega, by omega⟩
/-- How a comparison of two products comes out, by name: a number and its sign. -/
theorem cmp_named (a b c d : Nat) (ha : a < 18446744073709551616) (hb : b < 18446744073709551616) (hc : c < 18446744073709551616) (hd : d < 18446744073709551616) :
    ∃ k : Int, (∀ w, Calls Try.prog 18 #[.int .u64 a, .int .u64 b, .int .u64 c, .int .u64 d] w fun e w' => e = .returned (.int .i64 k) ∧ w' = w) ∧
      ((a * b < c * d ∧ k = -1) ∨ (a * b = c * d ∧ k = 0) ∨ (c * d < a * b ∧ k = 1)) := by
  refine ⟨cmpI ((a : Int) * b) ((c : Int) * d), fun w => cmp_any a b c d ⟨by omega, by omega⟩ ⟨by omega, by omega⟩ ⟨by omega, by omega⟩ ⟨by omega, by omega⟩ w, ?_⟩
  have h := cmpI_cases ((a : Int) * b) ((c : Int) * d)
  rw [← Int.natCast_mul, ← Int.natCast_mul] at h ⊢
  omega

end Go.Proofs.Ytggekibapfhcdaa
