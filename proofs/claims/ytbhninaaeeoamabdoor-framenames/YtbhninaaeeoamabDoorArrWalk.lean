/-
  Whole rows of numbers at a walk's operations: loaded, stored, handed back. Nothing here speaks of one function.
-/
import Derived.Test.YtbhninaaeeoamabDoorArr
namespace Go.Proofs.YtbhninaaeeoamabDoor
open Go.RowKit

theorem alloc_size (w : World) (o : Obj) : (w.alloc o).heap.size = w.heap.size + 1 := by
  show (w.heap.push o).size = _
  simp
theorem cell_keep {w : World} {p q : Addr} {v u : Value} (h : w.cell? p = some u) (hne : q.block ≠ p.block) : (w.setCell q v).drew.cell? p = some u :=
  (World.cell?_setCell_other w q p v (by rintro rfl; exact hne rfl)).trans h
theorem cell_keep2 {w : World} {b i j : Nat} {v u : Value} (h : w.cell? ⟨b, j, none⟩ = some u) (hne : i ≠ j) : (w.setCell ⟨b, i, none⟩ v).drew.cell? ⟨b, j, none⟩ = some u :=
  (World.cell?_setCell_other w ⟨b, i, none⟩ ⟨b, j, none⟩ v (by simp)).trans h
theorem wrap_small {x : Int} {q : Nat} (h : x = q) (hq : q ≤ 1000000) : IntKind.i64.wrap x = (q : Int) := by
  subst h
  simp [IntKind.wrap, IntKind.bits, IntKind.signed]
  omega
theorem wrap_u32 (x : Int) : IntKind.u32.wrap x = x % 4294967296 := by simp [IntKind.wrap, IntKind.bits, IntKind.signed]

/-- A whole row is loaded. -/
theorem wp_load_arr {P : Program} {w : World} {ops : Array Oper} {rest : List Oper} {op : Oper} {a : Act} {Q : Exit → Act → World → Prop} (hgd : op.guard = none) (ty : TypeId) (x : Operand) (ho : op.op = .load ty x)
    (b o : Nat) (hx : a.eval x = .pointer (some ⟨b, o, none⟩)) (k : IntKind) (zs : List Int) (hA : Arr w b o k zs) (d : TypeDesc) (hu : P.underlying ty = some d) (hd : d.isRow = true)
    (n : Nat) (hi : (P.info? ty).map (·.size) = some n) (hn : zs.length = n)
    (h : wpList P ops Q rest (a.put op.dst (.agg (vals k zs).toArray)) w) : wpList P ops Q (op :: rest) a w :=
  wpList_load_mid hgd ty x ho b o hx (vals k zs) d hA.1 hu hd (by rw [hi, vals_length, hn]) h
/-- A whole row is stored. -/
theorem wp_store_arr {P : Program} {w : World} {ops : Array Oper} {rest : List Oper} {op : Oper} {a : Act} {Q : Exit → Act → World → Prop} (hgd : op.guard = none) (ty : TypeId) (x y : Operand) (ho : op.op = .store ty x y)
    (b o : Nat) (k : IntKind) (zs : List Int) (hx : a.eval x = .pointer (some ⟨b, o, none⟩)) (hy : a.eval y = .agg (vals k zs).toArray) (n : Nat) (ht : w.there b o n)
    (hi : (P.info? ty).map (·.size) = some n) (hn : zs.length = n)
    (h : wpList P ops Q rest (a.put op.dst undef) (w.setCells b o (vals k zs))) : wpList P ops Q (op :: rest) a w :=
  wpList_store_mid hgd ty x y ho b o (vals k zs).toArray hx hy (by simpa [vals, hn] using ht) (by rw [hi]; simp [vals, hn]) (vals_one k zs) (by simpa using h)
/-- A row that is a function's result. -/
theorem ret_arr {P : Program} {fn : Func} {R : Ending → World → Prop} {a : Act} {w : World} (p : Tmp) (ty : TypeId) (hfn : fn.results = #[.cell p ty]) (b o : Nat) (hp : a.tmps.getD p undef = .pointer (some ⟨b, o, none⟩))
    (k : IntKind) (zs : List Int) (hA : Arr w b o k zs) (d : TypeDesc) (hu : P.underlying ty = some d) (hd : d.isRow = true) (n : Nat) (hi : (P.info? ty).map (·.size) = some n) (hn : zs.length = n)
    (hdf : a.defers = []) (hR : R (.returned (.agg (vals k zs).toArray)) w) : bodyPost P fn R .ret a w := by
  refine bodyPost_ret (v := .agg (vals k zs).toArray) ?_ hdf hR
  have hp' : a.tmps[p]?.getD undef = .pointer (some ⟨b, o, none⟩) := by simpa using hp
  simp [results, hfn, hp', asAddr, run_loadVar_mid w b o ty (vals k zs) d hA.1 hu hd (by rw [hi, vals_length, hn])]

end Go.Proofs.YtbhninaaeeoamabDoor
