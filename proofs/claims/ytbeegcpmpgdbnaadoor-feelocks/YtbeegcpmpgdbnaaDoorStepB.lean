/-
  A slice of one struct, built as a step; rows of it. Nothing here speaks of one function.
-/
import Derived.Test.YtbeegcpmpgdbnaaDoorRowAdd
import Derived.Test.YtbeegcpmpgdbnaaDoorTxStep
namespace Go.Proofs.YtbeegcpmpgdbnaaDoor
open Go.RowKit

theorem sb_one {ops : Array Oper} {o : Oper} {a : Act} {w : World} {K : Act → World → Prop} {Q : Exit → Act → World → Prop} {E : Prop} (hw : Region.wanted o (yielded ops a.tmps) = true) (t ty : TypeId) (x : Operand) (ho : o.op = .buildSlice t 1 #[(0, x)])
    (z : Value) (size bytes : Nat) (ht : Tryd.prog.underlying t = some (.slice ty)) (hinfo : (Tryd.prog.info? ty).map (fun i => (i.zero, i.size, i.bytes)) = some (some z, size, bytes)) (hsz : 0 < size) (hsz2 : size ≤ 1000) (c : List Value) (hc : c.length = size) (hx : a.eval x = .agg c.toArray)
    (h : K (a.put o.dst (.slice (some ⟨w.heap.size, 0, none⟩) 1 1)) (w.alloc (.cells c.toArray ty))) : if Region.wanted o (yielded ops a.tmps) = true then Oper.wp Tryd.prog o a w K Q else E := by
  have hrun := run_one w t ty z size bytes ht hinfo hsz hsz2 c hc
  rw [if_pos hw]
  unfold Oper.wp
  simp [execOp, ho, hx, hrun, Result.andThen]
  exact h
theorem step_store_row {P : Program} {ops : Array Oper} {o : Oper} {a : Act} {w : World} {K : Act → World → Prop} {Q : Exit → Act → World → Prop} {E : Prop} (hg : o.guard = none) (ty : TypeId) (x y : Operand) (hop : o.op = .store ty x y)
    (b n : Nat) (vs : List Value) (hx : a.eval x = .pointer (some ⟨b, n, none⟩)) (hy : a.eval y = .agg vs.toArray) (ht : w.there b n vs.length) (hi : (P.info? ty).map (·.size) = some vs.length) (h1 : ∀ v ∈ vs, v.oneCell' = true)
    (hK : K (a.put o.dst undef) (w.setCells b n vs)) : if Region.wanted o (yielded ops a.tmps) = true then Oper.wp P o a w K Q else E := by
  have hw : Region.wanted o (yielded ops a.tmps) = true := by simp [Region.wanted, hg]
  rw [if_pos hw]
  exact wp_store_mid ty x y hop b n vs.toArray hx hy (by simpa using ht) (by rw [hi]; simp) (all_oneCell_toArray h1) (by simpa using hK)
theorem row_one (w : World) (s : Nat) (c : List Value) (t : TypeId) : RowAt (w.alloc (.cells c.toArray t)) s (.slice (some ⟨w.heap.size, 0, none⟩) 1 1) [c] := by
  refine ⟨_, 1, rfl, Nat.le_refl _, by omega, by simp, fun _ => ⟨_, 0, rfl, fun i d hi => ?_⟩⟩
  rcases i with _ | i
  · simp only [List.getElem?_cons_zero, Option.some.injEq] at hi
    subst hi
    rw [Nat.zero_mul]
    exact range_new w c t
  · simp at hi

end Go.Proofs.YtbeegcpmpgdbnaaDoor
