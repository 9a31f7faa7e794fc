/-
  A slice of bytes with both bounds, told ahead. Nothing here speaks of one function.
-/
import Derived.Test.YtbhninaaeeoamaaDoorCuts
namespace Go.Proofs.YtbhninaaeeoamaaDoor
open Go.RowKit

theorem wp_mid {w : World} {ops : Array Oper} {rest : List Oper} {o : Oper} {a : Act} {Q : Exit → Act → World → Prop} (hgd : o.guard = none) (s i j : Operand) (ho : o.op = .slice 22 s (some i) (some j) none)
    (v v1 : Value) (x y : Value) (hs : a.eval s = v) (hi : a.eval i = x) (hj : a.eval j = y) (hrun : ∀ w, (Instr.slice 22 v (some x) (some y) none).run Tryd.prog w = .ok v1 w)
    (h : wpList Tryd.prog ops Q rest (a.put o.dst v1) w) : wpList Tryd.prog ops Q (o :: rest) a w := by
  have hat : ∀ w, (Instr.sliceAt 22 v (some x) (some y) none).run Tryd.prog w = .ok v1 w := fun w => by
    rw [run_sliceAt_slice _ _ _ _ _ _ (by rw [Tryd.underlying22]; kernel_rfl)]
    exact hrun w
  refine wpList_plain hgd fun K hK => ?_
  unfold Oper.wp
  simp [execOp, ho, hs, hi, hj, hat, Result.andThen, Oper.upon]
  exact hK _ _ h
theorem cut_of (a : Option Addr) (n cap lo hi : Nat) (hlo : lo ≤ hi) (hhi : hi ≤ n) (hn : n ≤ cap) :
    ∃ a1 c1, (∀ w, (Instr.slice 22 (.slice a n cap) (some (.int .i64 (lo : Int))) (some (.int .i64 (hi : Int))) none).run Tryd.prog w = .ok (.slice a1 (hi - lo) c1) w) ∧ ∀ (w0 : World) (r : List Int), Bytes w0 (.slice a n cap) r → Bytes w0 (.slice a1 (hi - lo) c1) ((r.drop lo).take (hi - lo)) := by
  refine ⟨if cap = lo then a else a.map (·.add lo), cap - lo, fun w => ?_, fun w0 r h => ?_⟩
  · rw [run_slice_lh w 22 _ n cap (by rw [Tryd.underlying22]; kernel_rfl) .i64 .i64 (lo : Int) (hi : Int) (by omega) (by omega) (by omega)]
    have e : (sizeOf (Tryd.prog.elem 22)).run Tryd.prog w = .ok 1 w := by kernel_rfl
    rw [e]
    simp [Result.andThen, sliced]
  · exact (h.drop lo (by omega)).take (hi - lo) (by omega)

end Go.Proofs.YtbhninaaeeoamaaDoor
