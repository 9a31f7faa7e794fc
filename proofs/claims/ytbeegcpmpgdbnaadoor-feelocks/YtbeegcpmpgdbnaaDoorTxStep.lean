/-
  Steps of a region that draws its order: a call met by its contract, append by its run.
-/
import Derived.Test.YtbeegcpmpgdbnaaDoorKit
import Derived.Deep.RegionLaw
namespace Go.Proofs.YtbeegcpmpgdbnaaDoor
open Go.RowKit

/-- A call of a Go function, by its contract. -/
theorem step_go {P : Program} {ops : Array Oper} {o : Oper} {a : Act} {w : World} {K : Act → World → Prop} {Q : Exit → Act → World → Prop} {E : Prop}
    (hg : o.guard = none) (f : FuncId) (fn : Func) (hf : P.funcs[f]? = some fn) (hn : (fn.name == "runtime.NumGoroutine") = false) (hb : fn.body.isNone = false) (args : Array Operand) (tys : Array TypeId) (hop : o.op = Op.call { callee := .value (.func f), args := args, argTypes := tys })
    {vs : Array Value} (hvs : args.map a.eval = vs) (h : Calls P f vs w fun e w' => ∃ v, e = .returned v ∧ K (a.put o.dst v) w') :
    if Region.wanted o (yielded ops a.tmps) = true then Oper.wp P o a w K Q else E := by
  have hw : Region.wanted o (yielded ops a.tmps) = true := by simp [Region.wanted, hg]
  rw [if_pos hw]
  subst hvs
  have hn' : ¬ fn.name = "runtime.NumGoroutine" := by simpa using hn
  have hb' : ¬ fn.body = none := fun e => by simp [e] at hb
  unfold Oper.wp
  have hrun : (execOp a.eval o).run P w = .ok (.enter f (args.map a.eval)) w := by
    simp [execOp, hop, resolve, invoke, Act.eval, Deferred.ofValue, Result.andThen, callFunc, program, Sem.run, hf, hn', hb']
  rw [hrun, Oper.upon_enter]
  refine h.mono fun e w' hr => ?_
  obtain ⟨v, rfl, hk⟩ := hr
  exact hk
/-- 'append', by its run. -/
theorem step_app {P : Program} {ops : Array Oper} {o : Oper} {a : Act} {w : World} {K : Act → World → Prop} {Q : Exit → Act → World → Prop} {E : Prop}
    (hg : o.guard = none) (s x : Operand) (t : TypeId) (hop : o.op = Op.call { callee := Callee.builtin Builtin.append, args := #[s, x], argTypes := #[t, t] })
    {v1 v2 : Value} (hs : a.eval s = v1) (hx : a.eval x = v2) {v : Value} {w' : World} (hrun : (Builtin.append_ #[t, t] o.type #[v1, v2]).run P w = .ok v w') (hK : K (a.put o.dst v) w') :
    if Region.wanted o (yielded ops a.tmps) = true then Oper.wp P o a w K Q else E := by
  have hw : Region.wanted o (yielded ops a.tmps) = true := by simp [Region.wanted, hg]
  rw [if_pos hw]
  subst hs hx
  unfold Oper.wp
  simp [execOp, hop, resolve, invoke, builtin, hrun, Result.andThen]
  exact hK
/-- 'append', by its run, where the order is the text's. -/
theorem wp_app {P : Program} {ops : Array Oper} {rest : List Oper} {o : Oper} {a : Act} {w : World} {Q : Exit → Act → World → Prop}
    (hg : o.guard = none) (s x : Operand) (t : TypeId) (hop : o.op = Op.call { callee := Callee.builtin Builtin.append, args := #[s, x], argTypes := #[t, t] })
    {v1 v2 : Value} (hs : a.eval s = v1) (hx : a.eval x = v2) {v : Value} {w' : World} (hrun : (Builtin.append_ #[t, t] o.type #[v1, v2]).run P w = .ok v w') (h : wpList P ops Q rest (a.put o.dst v) w') : wpList P ops Q (o :: rest) a w := by
  refine wpList_plain hg fun K hK => ?_
  subst hs hx
  unfold Oper.wp
  simp [execOp, hop, resolve, invoke, builtin, hrun, Result.andThen]
  exact hK _ _ h
/-- A built slice's cells, as the walk lays them open. -/
theorem fold_from : ∀ (c : List Value) (k : Nat) (A : Array Value), A.size = k + c.length → List.foldl (fun (cs : Array Value) (x : Value × Nat) => cs.setIfInBounds x.2 x.1) A (c.zipIdx k) = (A.toList.take k ++ c).toArray
  | [], k, A, h => by
    simp only [List.zipIdx_nil, List.foldl_nil, List.append_nil, List.length_nil, Nat.add_zero] at *
    rw [List.take_of_length_le (by simp; omega)]
  | x :: c, k, A, h => by
    have hk : k < A.size := by simp only [List.length_cons] at h; omega
    rw [List.zipIdx_cons, List.foldl_cons, fold_from c (k + 1) _ (by simp only [Array.size_setIfInBounds, List.length_cons] at *; omega)]
    congr 1
    rw [Array.toList_setIfInBounds, List.take_succ_eq_append_getElem (by simp; exact hk)]
    simp [List.take_set_of_le]
theorem fold_whole (c : List Value) (A : Array Value) (h : A.size = c.length) : List.foldl (fun (cs : Array Value) (x : Value × Nat) => cs.setIfInBounds x.2 x.1) A c.zipIdx = c.toArray := by
  have := fold_from c 0 A (by omega)
  simpa using this

end Go.Proofs.YtbeegcpmpgdbnaaDoor
