/-
  Laws at operations: guarded loads and calls, slices of one and of two coins, what is built of constants. Nothing here speaks of one function.
-/
import Derived.Test.YtkemdfikcmgaaaaCoCell
import Derived.Deep.Cut
import Derived.Deep.RegionHeld3
namespace Go.Proofs.Ytkemdfikcmgaaaa
open Go.RowKit

theorem cw_load {P : Program} {ops : Array Oper} {rest : List Oper} {op : Oper} {a : Act} {w : World} {Q : Exit → Act → World → Prop} (hw : Region.wanted op (yielded ops a.tmps) = true) (ty : TypeId) (x : Operand) (ho : op.op = .load ty x)
    (b o : Nat) (hx : a.eval x = .pointer (some ⟨b, o, none⟩)) (cs : List Value) (d : TypeDesc) (hc : w.rangeAt b o cs)
    (hu : P.underlying ty = some d) (hd : d.isRow = true) (hi : (P.info? ty).map (·.size) = some cs.length)
    (h : wpList P ops Q rest (a.put op.dst (.agg cs.toArray)) w) : wpList P ops Q (op :: rest) a w :=
  wpList_step fun _ hK => by
    rw [if_pos hw]
    exact wp_load_mid ty x ho b o hx cs d hc hu hd hi (hK _ _ h)
theorem run_two (w : World) (t ty : TypeId) (z : Value) (size bytes : Nat) (ht : Try.prog.underlying t = some (.slice ty))
    (hinfo : (Try.prog.info? ty).map (fun i => (i.zero, i.size, i.bytes)) = some (some z, size, bytes)) (hsz : 0 < size) (hsz2 : size ≤ 1000) (c d : List Value) (hc : c.length = size) (hd : d.length = size) :
    (Instr.buildSlice t 2 #[(0, .agg c.toArray), (1, .agg d.toArray)]).run Try.prog w = .ok (.slice (some ⟨w.heap.size, 0, none⟩) 2 2) (w.alloc (.cells (c ++ d).toArray ty)) := by
  obtain ⟨i0, hi, hz0, hz1, hz2⟩ := info_parts hinfo
  refine run_buildSlice w t ty 2 _ (c ++ d).toArray i0 z ht hi hz0 (by rw [hz1]; omega) (by rw [hz1]; omega) ?_
  rw [hz1]
  have h := Go.Great.fill_whole hsz [Value.agg c.toArray, Value.agg d.toArray] ((Array.range (2 * size)).map (z.cells[· % z.cells.size]!)) (by
    intro v hv
    rcases List.mem_cons.1 hv with rfl | hv
    · simpa [Value.cells] using hc
    · rw [List.mem_singleton.1 hv]; simpa [Value.cells] using hd) (by simp)
  simpa [Value.cells] using h
theorem cw_build1 {w : World} {ops : Array Oper} {rest : List Oper} {o : Oper} {a : Act} {Q : Exit → Act → World → Prop} (hw : Region.wanted o (yielded ops a.tmps) = true) (t ty : TypeId) (x : Operand) (ho : o.op = .buildSlice t 1 #[(0, x)])
    (z : Value) (size bytes : Nat) (ht : Try.prog.underlying t = some (.slice ty)) (hinfo : (Try.prog.info? ty).map (fun i => (i.zero, i.size, i.bytes)) = some (some z, size, bytes)) (hsz : 0 < size) (hsz2 : size ≤ 1000) (c : List Value) (hc : c.length = size) (hx : a.eval x = .agg c.toArray)
    (h : wpList Try.prog ops Q rest (a.put o.dst (.slice (some ⟨w.heap.size, 0, none⟩) 1 1)) (w.alloc (.cells c.toArray ty))) : wpList Try.prog ops Q (o :: rest) a w := by
  have hrun := run_one w t ty z size bytes ht hinfo hsz hsz2 c hc
  refine wpList_step fun K hK => ?_
  rw [if_pos hw]
  unfold Oper.wp
  simp [execOp, ho, hx, hrun, Result.andThen]
  exact hK _ _ h
theorem cw_build2 {w : World} {ops : Array Oper} {rest : List Oper} {o : Oper} {a : Act} {Q : Exit → Act → World → Prop} (hw : Region.wanted o (yielded ops a.tmps) = true) (t ty : TypeId) (x y : Operand) (ho : o.op = .buildSlice t 2 #[(0, x), (1, y)])
    (z : Value) (size bytes : Nat) (ht : Try.prog.underlying t = some (.slice ty)) (hinfo : (Try.prog.info? ty).map (fun i => (i.zero, i.size, i.bytes)) = some (some z, size, bytes)) (hsz : 0 < size) (hsz2 : size ≤ 1000) (c d : List Value) (hc : c.length = size) (hd : d.length = size) (hx : a.eval x = .agg c.toArray) (hy : a.eval y = .agg d.toArray)
    (h : wpList Try.prog ops Q rest (a.put o.dst (.slice (some ⟨w.heap.size, 0, none⟩) 2 2)) (w.alloc (.cells (c ++ d).toArray ty))) : wpList Try.prog ops Q (o :: rest) a w := by
  have hrun := run_two w t ty z size bytes ht hinfo hsz hsz2 c d hc hd
  refine wpList_step fun K hK => ?_
  rw [if_pos hw]
  unfold Oper.wp
  simp [execOp, ho, hx, hy, hrun, Result.andThen]
  exact hK _ _ h
theorem cstep_build2 {ops : Array Oper} {o : Oper} {a : Act} {w : World} {K : Act → World → Prop} {Q : Exit → Act → World → Prop} {E : Prop} (hw : Region.wanted o (yielded ops a.tmps) = true) (t ty : TypeId) (x y : Operand) (ho : o.op = .buildSlice t 2 #[(0, x), (1, y)])
    (z : Value) (size bytes : Nat) (ht : Try.prog.underlying t = some (.slice ty)) (hinfo : (Try.prog.info? ty).map (fun i => (i.zero, i.size, i.bytes)) = some (some z, size, bytes)) (hsz : 0 < size) (hsz2 : size ≤ 1000) (c d : List Value) (hc : c.length = size) (hd : d.length = size) (hx : a.eval x = .agg c.toArray) (hy : a.eval y = .agg d.toArray)
    (h : K (a.put o.dst (.slice (some ⟨w.heap.size, 0, none⟩) 2 2)) (w.alloc (.cells (c ++ d).toArray ty))) : if Region.wanted o (yielded ops a.tmps) = true then Oper.wp Try.prog o a w K Q else E := by
  have hrun := run_two w t ty z size bytes ht hinfo hsz hsz2 c d hc hd
  rw [if_pos hw]
  unfold Oper.wp
  simp [execOp, ho, hx, hy, hrun, Result.andThen]
  exact h
/-- What is built of constants. -/
theorem cw_const {P : Program} {w : World} {ops : Array Oper} {rest : List Oper} {o : Oper} {a : Act} {Q : Exit → Act → World → Prop} (hg : o.guard = none) (t : TypeId) (args : Array (Nat × Operand)) (_ho : o.op = .build t args) {v : Value}
    (hrun : (execOp a.eval o).run P w = .ok (.value v) w) (h : wpList P ops Q rest (a.put o.dst v) w) : wpList P ops Q (o :: rest) a w := by
  refine wpList_plain hg fun K hK => ?_
  unfold Oper.wp
  rw [hrun, Oper.upon_value]
  exact hK _ _ h
theorem cw_constG {P : Program} {w : World} {ops : Array Oper} {rest : List Oper} {o : Oper} {a : Act} {Q : Exit → Act → World → Prop} (hw : Region.wanted o (yielded ops a.tmps) = true) (t : TypeId) (args : Array (Nat × Operand)) (_ho : o.op = .build t args) {v : Value}
    (hrun : (execOp a.eval o).run P w = .ok (.value v) w) (h : wpList P ops Q rest (a.put o.dst v) w) : wpList P ops Q (o :: rest) a w := by
  refine wpList_step fun K hK => ?_
  rw [if_pos hw]
  unfold Oper.wp
  rw [hrun, Oper.upon_value]
  exact hK _ _ h
/-- A call behind a guard. -/
theorem cstep_go {P : Program} {ops : Array Oper} {o : Oper} {a : Act} {w : World} {K : Act → World → Prop} {Q : Exit → Act → World → Prop} {E : Prop}
    (hw : Region.wanted o (yielded ops a.tmps) = true) (f : FuncId) (fn : Func) (hf : P.funcs[f]? = some fn) (hn : (fn.name == "runtime.NumGoroutine") = false) (hb : fn.body.isNone = false) (args : Array Operand) (tys : Array TypeId) (hop : o.op = Op.call { callee := .value (.func f), args := args, argTypes := tys })
    {vs : Array Value} (hvs : args.map a.eval = vs) (h : Calls P f vs w fun e w' => ∃ v, e = .returned v ∧ K (a.put o.dst v) w') :
    if Region.wanted o (yielded ops a.tmps) = true then Oper.wp P o a w K Q else E := by
  rw [if_pos hw]
  subst hvs
  have hn' : ¬ fn.name = "runtime.NumGoroutine" := by simpa using hn
  have hb' : ¬ fn.body = none := fun e => by simp [e] at hb
  unfold Oper.wp
  have hrun : (execOp a.eval o).run P w = .ok (.enter f (args.map a.eval)) w := by
    simp [execOp, hop, resolve, invoke, Act.eval, Deferred.ofValue, Result.andThen, callFunc, program, Sem.run, hf, hn', hb']
  rw [hrun, Oper.upon_enter]
  refine h.mono fun e w' hr => ?_
  obtain ⟨v, rfl, hk⟩ := hr
  exact hk
/-- A new list of one coin, of two. -/
theorem cns_one (w : World) (c : Cn) (hc : CnOk c) : CnsAt (w.alloc (.cells (cnC c).toArray 59)) (.slice (some ⟨w.heap.size, 0, none⟩) 1 1) [c] := by
  refine ⟨_, 1, rfl, by simp, by omega, by simp, fun _ => ⟨w.heap.size, 0, rfl, fun i l hi => ?_⟩⟩
  obtain rfl : i = 0 := by have := (List.getElem?_eq_some_iff.1 hi).1; simp at this; omega
  obtain rfl : l = cnC c := by simpa using hi.symm
  have := cnC_length hc
  exact range_new w (cnC c) 59
theorem cns_two (w : World) (c d : Cn) (hc : CnOk c) (_hd : CnOk d) : CnsAt (w.alloc (.cells (cnC c ++ cnC d).toArray 59)) (.slice (some ⟨w.heap.size, 0, none⟩) 2 2) [c, d] := by
  have hr := range_new w (cnC c ++ cnC d) 59
  refine ⟨_, 2, rfl, by simp, by omega, by simp, fun _ => ⟨w.heap.size, 0, rfl, fun i l hi => ?_⟩⟩
  rcases (show i = 0 ∨ i = 1 by have := (List.getElem?_eq_some_iff.1 hi).1; simp at this; omega) with rfl | rfl
  · obtain rfl : l = cnC c := by simpa using hi.symm
    exact range_left hr
  · obtain rfl : l = cnC d := by simpa using hi.symm
    have := range_right hr
    rw [cnC_length hc] at this
    exact this

end Go.Proofs.Ytkemdfikcmgaaaa
