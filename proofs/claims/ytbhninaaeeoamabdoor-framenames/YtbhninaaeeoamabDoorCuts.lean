/-
  Slices of slices of bytes, told ahead. Nothing here speaks of one function.
-/
import Derived.Test.YtbhninaaeeoamabDoorOwn
import Derived.WalkLawsBesides
namespace Go.Proofs.YtbhninaaeeoamabDoor
open Go.RowKit

/-! Slices of slices, told ahead: so that the walk does not part. -/
theorem wp_from {w : World} {ops : Array Oper} {rest : List Oper} {o : Oper} {a : Act} {Q : Exit → Act → World → Prop} (hgd : o.guard = none) (s i : Operand) (ho : o.op = .slice 22 s (some i) none none)
    (v v1 : Value) (x : Value) (hs : a.eval s = v) (hi : a.eval i = x) (hrun : ∀ w, (Instr.slice 22 v (some x) none none).run Tryd.prog w = .ok v1 w)
    (h : wpList Tryd.prog ops Q rest (a.put o.dst v1) w) : wpList Tryd.prog ops Q (o :: rest) a w := by
  have hat : ∀ w, (Instr.sliceAt 22 v (some x) none none).run Tryd.prog w = .ok v1 w := fun w => by
    rw [run_sliceAt_slice _ _ _ _ _ _ (by rw [Tryd.underlying22]; kernel_rfl)]
    exact hrun w
  refine wpList_plain hgd fun K hK => ?_
  unfold Oper.wp
  simp [execOp, ho, hs, hi, hat, Result.andThen, Oper.upon]
  exact hK _ _ h
theorem wp_upto {w : World} {ops : Array Oper} {rest : List Oper} {o : Oper} {a : Act} {Q : Exit → Act → World → Prop} (hgd : o.guard = none) (s i : Operand) (ho : o.op = .slice 22 s none (some i) none)
    (v v1 : Value) (x : Value) (hs : a.eval s = v) (hi : a.eval i = x) (hrun : ∀ w, (Instr.slice 22 v none (some x) none).run Tryd.prog w = .ok v1 w)
    (h : wpList Tryd.prog ops Q rest (a.put o.dst v1) w) : wpList Tryd.prog ops Q (o :: rest) a w := by
  have hat : ∀ w, (Instr.sliceAt 22 v none (some x) none).run Tryd.prog w = .ok v1 w := fun w => by
    rw [run_sliceAt_slice _ _ _ _ _ _ (by rw [Tryd.underlying22]; kernel_rfl)]
    exact hrun w
  refine wpList_plain hgd fun K hK => ?_
  unfold Oper.wp
  simp [execOp, ho, hs, hi, hat, Result.andThen, Oper.upon]
  exact hK _ _ h
theorem tail_of (a : Option Addr) (n cap m : Nat) (k : IntKind) (hm : m ≤ n) :
    ∃ a1 c1, (∀ w, (Instr.slice 22 (.slice a n cap) (some (.int k (m : Int))) none none).run Tryd.prog w = .ok (.slice a1 (n - m) c1) w) ∧ ∀ (w0 : World) (r : List Int), Bytes w0 (.slice a n cap) r → Bytes w0 (.slice a1 (n - m) c1) (r.drop m) := by
  refine ⟨if cap = m then a else a.map (·.add m), cap - m, fun w => ?_, fun w0 r h => h.drop m hm⟩
  rw [run_slice_l w 22 _ n cap (by rw [Tryd.underlying22]; kernel_rfl) k (m : Int) (by omega) (by omega)]
  have e : (sizeOf (Tryd.prog.elem 22)).run Tryd.prog w = .ok 1 w := by kernel_rfl
  rw [e]
  simp [Result.andThen, sliced]
theorem head_of (a : Option Addr) (n cap m : Nat) (k : IntKind) (hm : m ≤ n) (hn : n ≤ cap) :
    ∃ a1, (∀ w, (Instr.slice 22 (.slice a n cap) none (some (.int k (m : Int))) none).run Tryd.prog w = .ok (.slice a1 m cap) w) ∧ ∀ (w0 : World) (r : List Int), Bytes w0 (.slice a n cap) r → Bytes w0 (.slice a1 m cap) (r.take m) := by
  refine ⟨if cap = 0 then a else a.map (·.add 0), fun w => ?_, fun w0 r h => ?_⟩
  · rw [run_slice_h w 22 _ n cap (by rw [Tryd.underlying22]; kernel_rfl) k (m : Int) (by omega) (by omega)]
    have e : (sizeOf (Tryd.prog.elem 22)).run Tryd.prog w = .ok 1 w := by kernel_rfl
    rw [e]
    simp [Result.andThen, sliced]
  · have h1 := (h.drop 0 (Nat.zero_le _)).take m (by omega)
    rw [List.drop_zero, Nat.sub_zero] at h1
    exact h1

end Go.Proofs.YtbhninaaeeoamabDoor
