/-
  Rows of values of any kind (a struct's fields) at a walk's operations: stored, loaded, handed back. Nothing here speaks of one function.
-/
import Derived.Test.YtbhninaaeeoamabDoorArrWalk
namespace Go.Proofs.YtbhninaaeeoamabDoor
open Go.RowKit

theorem there_on {w w' : World} {b o n : Nat} (h : w.there b o n) (hb : Below w.heap.size w w') : w'.there b o n := fun j hj => by
  obtain ⟨h1, h2⟩ := h j hj
  obtain ⟨u, hu⟩ := Option.isSome_iff_exists.1 h1
  have hlt := World.block_lt_of_cell? _ _ hu
  rw [hb.cell hlt, hb.frozen hlt]
  exact ⟨h1, h2⟩
theorem range_on {w w' : World} {b o : Nat} {vs : List Value} (h : w.rangeAt b o vs) (hb : Below w.heap.size w w') : w'.rangeAt b o vs := fun j v hv => by
  have hc := h j v hv
  rw [hb.cell (World.block_lt_of_cell? _ _ hc)]
  exact hc
theorem there_new (w : World) (cs : Array Value) (t : TypeId) : (w.alloc (.cells cs t)).there w.heap.size 0 cs.size := fun j hj => by
  rw [Nat.zero_add]
  refine ⟨?_, frozen_of_row _ _ _ _ t (heap_alloc_new w _)⟩
  rw [cell_of_row _ _ _ _ t (0, 0) (heap_alloc_new w _)]
  simp [hj]
theorem range_new (w : World) (cs : List Value) (t : TypeId) : (w.alloc (.cells cs.toArray t)).rangeAt w.heap.size 0 cs := fun j v hv => by
  rw [Nat.zero_add, cell_of_row _ _ _ _ t (0, 0) (heap_alloc_new w _)]
  simpa using hv
/-- A row is stored. -/
theorem wp_store_row {P : Program} {w : World} {ops : Array Oper} {rest : List Oper} {op : Oper} {a : Act} {Q : Exit → Act → World → Prop} (hgd : op.guard = none) (ty : TypeId) (x y : Operand) (ho : op.op = .store ty x y)
    (b o : Nat) (vs : List Value) (hx : a.eval x = .pointer (some ⟨b, o, none⟩)) (hy : a.eval y = .agg vs.toArray) (ht : w.there b o vs.length)
    (hi : (P.info? ty).map (·.size) = some vs.length) (h1 : ∀ v ∈ vs, v.oneCell' = true)
    (h : wpList P ops Q rest (a.put op.dst undef) (w.setCells b o vs)) : wpList P ops Q (op :: rest) a w :=
  wpList_store_mid hgd ty x y ho b o vs.toArray hx hy (by simpa using ht) (by rw [hi]; simp) (all_oneCell_toArray h1) (by simpa using h)
/-- A row and a number that are a function's results. -/
theorem ret_row_tmp {P : Program} {fn : Func} {R : Ending → World → Prop} {a : Act} {w : World} (p q : Tmp) (ty : TypeId) (hfn : fn.results = #[.cell p ty, .tmp q]) (b o : Nat) (hp : a.tmps.getD p undef = .pointer (some ⟨b, o, none⟩))
    (vs : List Value) (hA : w.rangeAt b o vs) (d : TypeDesc) (hu : P.underlying ty = some d) (hd : d.isRow = true) (hi : (P.info? ty).map (·.size) = some vs.length) (z : Value) (hq : a.tmps.getD q undef = z)
    (hdf : a.defers = []) (hR : R (.returned (.tuple #[.agg vs.toArray, z])) w) : bodyPost P fn R .ret a w := by
  refine bodyPost_ret (v := .tuple #[.agg vs.toArray, z]) ?_ hdf hR
  have hp' : a.tmps[p]?.getD undef = .pointer (some ⟨b, o, none⟩) := by simpa using hp
  have hq' : a.tmps[q]?.getD undef = z := by simpa using hq
  simp [results, hfn, hp', hq', asAddr, run_loadVar_mid w b o ty vs d hA hu hd hi]

/-- Four results. -/
theorem ret_tmp4 {P : Program} {fn : Func} {R : Ending → World → Prop} {a : Act} {w : World} (p q r s : Tmp) (hfn : fn.results = #[.tmp p, .tmp q, .tmp r, .tmp s]) (x0 x1 x2 x3 : Value)
    (h0 : a.tmps.getD p undef = x0) (h1 : a.tmps.getD q undef = x1) (h2 : a.tmps.getD r undef = x2) (h3 : a.tmps.getD s undef = x3)
    (hdf : a.defers = []) (hR : R (.returned (.tuple #[x0, x1, x2, x3])) w) : bodyPost P fn R .ret a w := by
  refine bodyPost_ret (v := .tuple #[x0, x1, x2, x3]) ?_ hdf hR
  have h0' : a.tmps[p]?.getD undef = x0 := by simpa using h0
  have h1' : a.tmps[q]?.getD undef = x1 := by simpa using h1
  have h2' : a.tmps[r]?.getD undef = x2 := by simpa using h2
  have h3' : a.tmps[s]?.getD undef = x3 := by simpa using h3
  simp [results, hfn, h0', h1', h2', h3']

end Go.Proofs.YtbhninaaeeoamabDoor
