import Derived.Test.YtbeegcpmpgdbnaaDoorKit
import Derived.Deep.MidRow
import Derived.Deep.WholeRow
import Derived.Laws.CopyOwn
import Derived.Laws.StructEq
import Derived.Lib.LazyBuf
import Derived.ArgAppend
import Derived.Deep.Upon
import Derived.Laws.BitsAllLaws
/-
  Rows of numbers in memory: an array's cells in a block, from a place on, and that they may be written. Nothing here speaks of one function.
-/
namespace Go.Proofs.YtbeegcpmpgdbnaaDoor
open Go.RowKit

/-- Numbers as cells. -/
def vals (k : IntKind) (zs : List Int) : List Value := zs.map (Value.int k)
theorem vals_length (k : IntKind) (zs : List Int) : (vals k zs).length = zs.length := by simp [vals]
theorem vals_get (k : IntKind) (zs : List Int) (i : Nat) (hi : i < zs.length) : (vals k zs)[i]? = some (.int k (zs.getD i 0)) := by
  simp [vals, List.getD, hi]
theorem vals_one (k : IntKind) (zs : List Int) : (vals k zs).toArray.all (·.oneCell') = true := all_oneCell_toArray (by
  intro v hv
  simp only [vals, List.mem_map] at hv
  obtain ⟨z, _, rfl⟩ := hv
  rfl)
/-- The numbers lie in block b from place o on, and may be written. -/
def Arr (w : World) (b o : Nat) (k : IntKind) (zs : List Int) : Prop := w.rangeAt b o (vals k zs) ∧ w.there b o zs.length

theorem Arr.cell {w : World} {b o : Nat} {k : IntKind} {zs : List Int} (h : Arr w b o k zs) (i : Nat) (hi : i < zs.length) : w.cell? ⟨b, o + i, none⟩ = some (.int k (zs.getD i 0)) := h.1 i _ (vals_get k zs i hi)
theorem Arr.cell0 {w : World} {b : Nat} {k : IntKind} {zs : List Int} (h : Arr w b 0 k zs) (i : Nat) (hi : i < zs.length) : w.cell? ⟨b, i, none⟩ = some (.int k (zs.getD i 0)) := by
  have := h.cell i hi
  rwa [Nat.zero_add] at this
theorem Arr.free {w : World} {b o : Nat} {k : IntKind} {zs : List Int} (h : Arr w b o k zs) (i : Nat) (hi : i < zs.length) : w.frozen? ⟨b, o + i, none⟩ = false := (h.2 i hi).2
theorem Arr.free0 {w : World} {b : Nat} {k : IntKind} {zs : List Int} (h : Arr w b 0 k zs) (i : Nat) (hi : i < zs.length) : w.frozen? ⟨b, i, none⟩ = false := by
  have := h.free i hi
  rwa [Nat.zero_add] at this
theorem Arr.lt {w : World} {b o : Nat} {k : IntKind} {zs : List Int} (h : Arr w b o k zs) (hp : 0 < zs.length) : b < w.heap.size := World.block_lt_of_cell? _ _ (h.cell 0 hp)
/-- What lies there does not turn while its cells stay. -/
theorem Arr.at {w w' : World} {b o : Nat} {k : IntKind} {zs : List Int} (h : Arr w b o k zs) (hc : ∀ i, i < zs.length → w'.cell? ⟨b, o + i, none⟩ = w.cell? ⟨b, o + i, none⟩)
    (hf : ∀ i, i < zs.length → w'.frozen? ⟨b, o + i, none⟩ = w.frozen? ⟨b, o + i, none⟩) : Arr w' b o k zs := by
  refine ⟨fun j v hv => ?_, fun j hj => ?_⟩
  · have hj : j < zs.length := by have := (List.getElem?_eq_some_iff.1 hv).1; rwa [vals_length] at this
    rw [hc j hj]
    exact h.1 j v hv
  · rw [hc j hj, hf j hj]
    exact h.2 j hj
theorem Arr.below {w w' : World} {B b o : Nat} {k : IntKind} {zs : List Int} (h : Arr w b o k zs) (hb : Below B w w') (hB : b < B) : Arr w' b o k zs :=
  h.at (fun _ _ => hb.cell hB) (fun _ _ => hb.frozen hB)
theorem Arr.on {w w' : World} {b o : Nat} {k : IntKind} {zs : List Int} (h : Arr w b o k zs) (hb : Below w.heap.size w w') : Arr w' b o k zs := by
  rcases Nat.eq_zero_or_pos zs.length with h0 | h0
  · exact h.at (fun i hi => by omega) (fun i hi => by omega)
  · exact h.below hb (h.lt h0)
theorem Arr.alloc {w : World} {b o : Nat} {k : IntKind} {zs : List Int} (h : Arr w b o k zs) (ob : Obj) : Arr (w.alloc ob) b o k zs := h.on ((Below.refl _ _).alloc (Nat.le_refl _) ob)
theorem Arr.drew {w : World} {b o : Nat} {k : IntKind} {zs : List Int} (h : Arr w b o k zs) : Arr w.drew b o k zs := h.on (Below.refl _ _).drew
/-- One number is written. -/
theorem Arr.set {w : World} {b o : Nat} {k : IntKind} {zs : List Int} (h : Arr w b o k zs) (i : Nat) (hi : i < zs.length) (z : Int) : Arr (w.setCell ⟨b, o + i, none⟩ (.int k z)) b o k (zs.set i z) := by
  refine ⟨fun j v hv => ?_, fun j hj => ?_⟩
  · have hj : j < zs.length := by have := (List.getElem?_eq_some_iff.1 hv).1; simpa [vals] using this
    by_cases e : i = j
    · subst e
      rw [World.cell?_setCell_same _ _ _ (h.cell i hi), ← hv]
      simp [vals, hi]
    · rw [World.cell?_setCell_other _ _ _ _ (by simp), h.cell j hj, ← hv]
      simp [vals, hj, e, List.getD]
  · have hj : j < zs.length := by simpa using hj
    by_cases e : i = j
    · subst e
      exact ⟨by rw [World.cell?_setCell_same _ _ _ (h.cell i hi)]; rfl, by rw [World.frozen?_setCell]; exact h.free i hi⟩
    · exact ⟨by rw [World.cell?_setCell_other _ _ _ _ (by simp), h.cell j hj]; rfl, by rw [World.frozen?_setCell]; exact h.free j hj⟩
theorem Arr.set0 {w : World} {b : Nat} {k : IntKind} {zs : List Int} (h : Arr w b 0 k zs) (i : Nat) (hi : i < zs.length) (z : Int) : Arr (w.setCell ⟨b, i, none⟩ (.int k z)) b 0 k (zs.set i z) := by
  have := h.set i hi z
  rwa [Nat.zero_add] at this
/-- One cell elsewhere is written. -/
theorem Arr.beside {w : World} {b o : Nat} {k : IntKind} {zs : List Int} (h : Arr w b o k zs) (p : Addr) (v : Value) (hp : p.block ≠ b ∨ p.off < o ∨ o + zs.length ≤ p.off) : Arr (w.setCell p v) b o k zs :=
  h.at (fun i hi => World.cell?_setCell_other _ _ _ _ (by rintro rfl; simp at hp; omega)) (fun i hi => World.frozen?_setCell _ _ _ _)
/-- Many cells elsewhere are written. -/
theorem Arr.apart {w : World} {b o : Nat} {k : IntKind} {zs : List Int} (h : Arr w b o k zs) (b' o' : Nat) (vs : List Value) (hap : b ≠ b' ∨ o + zs.length ≤ o' ∨ o' + vs.length ≤ o) : Arr (w.setCells b' o' vs) b o k zs :=
  ⟨World.rangeAt_setCells_apart h.1 b' o' vs (by rw [vals_length]; exact hap), World.there_setCells h.2 b' o' vs⟩
/-- All of it is written anew. -/
theorem Arr.put {w : World} {b o : Nat} {k : IntKind} {zs : List Int} (h : w.there b o zs.length) : Arr (w.setCells b o (vals k zs)) b o k zs :=
  ⟨World.rangeAt_setCells_same _ _ _ _ (by rw [vals_length]; exact h), World.there_setCells h _ _ _⟩
/-- A new box of numbers. -/
theorem Arr.new (w : World) (k : IntKind) (zs : List Int) (t : TypeId) : Arr (w.alloc (.cells (vals k zs).toArray t)) w.heap.size 0 k zs := by
  refine ⟨fun j v hv => ?_, fun j hj => ⟨?_, ?_⟩⟩
  · rw [Nat.zero_add, cell_of_row _ _ _ _ t (0, 0) (heap_alloc_new w _)]
    simpa using hv
  · rw [Nat.zero_add, cell_of_row _ _ _ _ t (0, 0) (heap_alloc_new w _)]
    simp [vals, hj]
  · exact frozen_of_row _ _ _ _ t (heap_alloc_new w _)
theorem below_set {B : Nat} {w w' : World} (h : Below B w w') {p : Addr} (hp : B ≤ p.block) (v : Value) : Below B w (w'.setCell p v) := h.setCell hp v
theorem below_sets {B b : Nat} {w : World} (hb : B ≤ b) : ∀ (vs : List Value) (o : Nat) (w' : World), Below B w w' → Below B w (w'.setCells b o vs)
  | [], _, _, h => h
  | v :: vs, o, _, h => below_sets hb vs (o + 1) _ (h.setCell hb v)
theorem below_on' {B : Nat} {w w1 w2 : World} (h : Below B w w1) (k : Below w1.heap.size w1 w2) (hB : B ≤ w.heap.size) : Below B w w2 := h.trans (k.mono (Nat.le_trans hB h.size))

end Go.Proofs.YtbeegcpmpgdbnaaDoor

/-
  Whole rows of numbers at a walk's operations: loaded, stored, handed back. Nothing here speaks of one function.
-/
namespace Go.Proofs.YtbeegcpmpgdbnaaDoor
open Go.RowKit

theorem alloc_size (w : World) (o : Obj) : (w.alloc o).heap.size = w.heap.size + 1 := by
  show (w.heap.push o).size = _
  simp
theorem cell_keep {w : World} {p q : Addr} {v u : Value} (h : w.cell? p = some u) (hne : q.block ≠ p.block) : (w.setCell q v).drew.cell? p = some u :=
  (World.cell?_setCell_other w q p v (by rintro rfl; exact hne rfl)).trans h
theorem cell_keep2 {w : World} {b i j : Nat} {v u : Value} (h : w.cell? ⟨b, j, none⟩ = some u) (hne : i ≠ j) : (w.setCell ⟨b, i, none⟩ v).drew.cell? ⟨b, j, none⟩ = some u :=
  (World.cell?_setCell_other w ⟨b, i, none⟩ ⟨b, j, none⟩ v (by simp)).trans h
theorem wrap_small {x : Int} {q : Nat} (h : x = q) (hq : q ≤ 1000000) : IntKind.i64.wrap x = (q : Int) := by
  subst h
  simp [IntKind.wrap, IntKind.bits, IntKind.signed]
  omega
theorem wrap_u32 (x : Int) : IntKind.u32.wrap x = x % 4294967296 := by simp [IntKind.wrap, IntKind.bits, IntKind.signed]

/-- A whole row is loaded. -/
theorem wp_load_arr {P : Program} {w : World} {ops : Array Oper} {rest : List Oper} {op : Oper} {a : Act} {Q : Exit → Act → World → Prop} (hgd : op.guard = none) (ty : TypeId) (x : Operand) (ho : op.op = .load ty x)
    (b o : Nat) (hx : a.eval x = .pointer (some ⟨b, o, none⟩)) (k : IntKind) (zs : List Int) (hA : Arr w b o k zs) (d : TypeDesc) (hu : P.underlying ty = some d) (hd : d.isRow = true)
    (n : Nat) (hi : (P.info? ty).map (·.size) = some n) (hn : zs.length = n)
    (h : wpList P ops Q rest (a.put op.dst (.agg (vals k zs).toArray)) w) : wpList P ops Q (op :: rest) a w :=
  wpList_load_mid hgd ty x ho b o hx (vals k zs) d hA.1 hu hd (by rw [hi, vals_length, hn]) h
/-- A whole row is stored. -/
theorem wp_store_arr {P : Program} {w : World} {ops : Array Oper} {rest : List Oper} {op : Oper} {a : Act} {Q : Exit → Act → World → Prop} (hgd : op.guard = none) (ty : TypeId) (x y : Operand) (ho : op.op = .store ty x y)
    (b o : Nat) (k : IntKind) (zs : List Int) (hx : a.eval x = .pointer (some ⟨b, o, none⟩)) (hy : a.eval y = .agg (vals k zs).toArray) (n : Nat) (ht : w.there b o n)
    (hi : (P.info? ty).map (·.size) = some n) (hn : zs.length = n)
    (h : wpList P ops Q rest (a.put op.dst undef) (w.setCells b o (vals k zs))) : wpList P ops Q (op :: rest) a w :=
  wpList_store_mid hgd ty x y ho b o (vals k zs).toArray hx hy (by simpa [vals, hn] using ht) (by rw [hi]; simp [vals, hn]) (vals_one k zs) (by simpa using h)
/-- A row that is a function's result. -/
theorem ret_arr {P : Program} {fn : Func} {R : Ending → World → Prop} {a : Act} {w : World} (p : Tmp) (ty : TypeId) (hfn : fn.results = #[.cell p ty]) (b o : Nat) (hp : a.tmps.getD p undef = .pointer (some ⟨b, o, none⟩))
    (k : IntKind) (zs : List Int) (hA : Arr w b o k zs) (d : TypeDesc) (hu : P.underlying ty = some d) (hd : d.isRow = true) (n : Nat) (hi : (P.info? ty).map (·.size) = some n) (hn : zs.length = n)
    (hdf : a.defers = []) (hR : R (.returned (.agg (vals k zs).toArray)) w) : bodyPost P fn R .ret a w := by
  refine bodyPost_ret (v := .agg (vals k zs).toArray) ?_ hdf hR
  have hp' : a.tmps[p]?.getD undef = .pointer (some ⟨b, o, none⟩) := by simpa using hp
  simp [results, hfn, hp', asAddr, run_loadVar_mid w b o ty (vals k zs) d hA.1 hu hd (by rw [hi, vals_length, hn])]

end Go.Proofs.YtbeegcpmpgdbnaaDoor

/-
  Two arrays of numbers held against each other; a slice cut out of a slice. Nothing here speaks of one function.
-/
namespace Go.Proofs.YtbeegcpmpgdbnaaDoor
open Go.RowKit

theorem all_same {xs ys : List Int} {n : Nat} (hx : xs.length = n) (hy : ys.length = n) : ((List.range' 0 n 1).all fun i => xs.getD i 0 == ys.getD i 0) = decide (xs = ys) := by
  by_cases h : xs = ys
  · subst h
    simp
  · rw [decide_eq_false h]
    cases ha : (List.range' 0 n 1).all fun i => xs.getD i 0 == ys.getD i 0 with
    | false => rfl
    | true =>
      refine absurd (List.ext_getElem (hx.trans hy.symm) fun i h1 h2 => ?_) h
      have := List.all_eq_true.1 ha i (by simp; omega)
      simpa [List.getD, h1, h2] using this
theorem eql_arr (w : World) (t e : TypeId) (n : Nat) (k : IntKind) (ht : Tryd.prog.underlying t = some (.array n e)) (he : Tryd.prog.underlying e = some (.int k)) (hsz : ∀ w, (sizeOf e).run Tryd.prog w = .ok 1 w) (xs ys : List Int) (hx : xs.length = n) (hy : ys.length = n) :
    (Op.equalIn 10000 t (.agg (vals k xs).toArray) (.agg (vals k ys).toArray)).run Tryd.prog w = .ok (decide (xs = ys)) w := by
  rw [show (10000 : Nat) = 9998 + 2 from rfl, Op.equalIn, ← all_same hx hy]
  simp only [Sem.run_bind, run_underlying ht, Result.andThen_ok, hsz, Std.Legacy.Range.forIn_eq_forIn_range', Std.Legacy.Range.size, Nat.sub_zero, Nat.add_sub_cancel, Nat.div_one]
  have hl : ∀ i ∈ List.range' 0 n 1, i < n := fun i hi => by simpa using (List.mem_range'_1.1 hi).2
  generalize List.range' 0 n 1 = l at hl ⊢
  induction l with
  | nil => simp
  | cons i l ih =>
    have hi : i < n := hl i (by simp)
    have px : ∀ zs : List Int, zs.length = n → (Go.part e (vals k zs).toArray (i * 1)).run Tryd.prog w = .ok (.int k (zs.getD i 0)) w := fun zs hz => by
      simp only [Go.part, isAgg, Sem.run_bind, run_underlying he, Nat.mul_one]
      simp
      rw [vals_get k zs i (by omega)]
      simp
    have pe : (Op.equalIn (9998 + 1) e (.int k (xs.getD i 0)) (.int k (ys.getD i 0))).run Tryd.prog w = .ok (xs.getD i 0 == ys.getD i 0) w := by
      rw [run_equalIn_int w 9998 e k k _ _ he]
    simp only [List.forIn_cons, Sem.run_bind, px xs hx, px ys hy, pe, Result.andThen_ok, List.all_cons]
    cases hq : (xs.getD i 0 == ys.getD i 0) with
    | true =>
      simp only [Bool.not_true, Bool.false_eq_true, if_false, Sem.run_pure, Result.andThen_ok, Bool.true_and]
      exact ih fun j hj => hl j (by simp [hj])
    | false =>
      simp only [Bool.not_false, if_true, Sem.run_pure, Result.andThen_ok, Bool.false_and]
/-- A slice cut out of a slice. -/
theorem Bytes.mid {w : World} {b off n cap : Nat} {l : List Int} (h : Bytes w (.slice (some ⟨b, off, none⟩) n cap) l) (lo hi : Nat) (h1 : lo ≤ hi) (h2 : hi ≤ n) (h3 : lo < cap) (k c : Nat) (hk : k = hi - lo) (hc : c = cap - lo) :
    Bytes w (.slice (some ⟨b, off + lo, none⟩) k c) ((l.drop lo).take (hi - lo)) := by
  subst hk hc
  have e := (h.drop lo (by omega)).take (hi - lo) (by omega)
  rw [if_neg (by omega)] at e
  have ea : (⟨b, off, none⟩ : Addr).add lo = ⟨b, off + lo, none⟩ := by unfold Addr.add; split <;> simp_all
  rw [Option.map_some, ea] at e
  exact e

end Go.Proofs.YtbeegcpmpgdbnaaDoor

/-
  Rows of values of any kind (a struct's fields) at a walk's operations: stored, loaded, handed back. Nothing here speaks of one function.
-/
namespace Go.Proofs.YtbeegcpmpgdbnaaDoor
open Go.RowKit

theorem there_on {w w' : World} {b o n : Nat} (h : w.there b o n) (hb : Below w.heap.size w w') : w'.there b o n := fun j hj => by
  obtain ⟨h1, h2⟩ := h j hj
  obtain ⟨u, hu⟩ := Option.isSome_iff_exists.1 h1
  have hlt := World.block_lt_of_cell? _ _ hu
  rw [hb.cell hlt, hb.frozen hlt]
  exact ⟨h1, h2⟩
theorem range_on {w w' : World} {b o : Nat} {vs : List Value} (h : w.rangeAt b o vs) (hb : Below w.heap.size w w') : w'.rangeAt b o vs := fun j v hv => by
  have hc := h j v hv
  rw [hb.cell (World.block_lt_of_cell? _ _ hc)]
  exact hc
theorem there_new (w : World) (cs : Array Value) (t : TypeId) : (w.alloc (.cells cs t)).there w.heap.size 0 cs.size := fun j hj => by
  rw [Nat.zero_add]
  refine ⟨?_, frozen_of_row _ _ _ _ t (heap_alloc_new w _)⟩
  rw [cell_of_row _ _ _ _ t (0, 0) (heap_alloc_new w _)]
  simp [hj]
theorem range_new (w : World) (cs : List Value) (t : TypeId) : (w.alloc (.cells cs.toArray t)).rangeAt w.heap.size 0 cs := fun j v hv => by
  rw [Nat.zero_add, cell_of_row _ _ _ _ t (0, 0) (heap_alloc_new w _)]
  simpa using hv
/-- A row is stored. -/
theorem wp_store_row {P : Program} {w : World} {ops : Array Oper} {rest : List Oper} {op : Oper} {a : Act} {Q : Exit → Act → World → Prop} (hgd : op.guard = none) (ty : TypeId) (x y : Operand) (ho : op.op = .store ty x y)
    (b o : Nat) (vs : List Value) (hx : a.eval x = .pointer (some ⟨b, o, none⟩)) (hy : a.eval y = .agg vs.toArray) (ht : w.there b o vs.length)
    (hi : (P.info? ty).map (·.size) = some vs.length) (h1 : ∀ v ∈ vs, v.oneCell' = true)
    (h : wpList P ops Q rest (a.put op.dst undef) (w.setCells b o vs)) : wpList P ops Q (op :: rest) a w :=
  wpList_store_mid hgd ty x y ho b o vs.toArray hx hy (by simpa using ht) (by rw [hi]; simp) (all_oneCell_toArray h1) (by simpa using h)
/-- A row and a number that are a function's results. -/
theorem ret_row_tmp {P : Program} {fn : Func} {R : Ending → World → Prop} {a : Act} {w : World} (p q : Tmp) (ty : TypeId) (hfn : fn.results = #[.cell p ty, .tmp q]) (b o : Nat) (hp : a.tmps.getD p undef = .pointer (some ⟨b, o, none⟩))
    (vs : List Value) (hA : w.rangeAt b o vs) (d : TypeDesc) (hu : P.underlying ty = some d) (hd : d.isRow = true) (hi : (P.info? ty).map (·.size) = some vs.length) (z : Value) (hq : a.tmps.getD q undef = z)
    (hdf : a.defers = []) (hR : R (.returned (.tuple #[.agg vs.toArray, z])) w) : bodyPost P fn R .ret a w := by
  refine bodyPost_ret (v := .tuple #[.agg vs.toArray, z]) ?_ hdf hR
  have hp' : a.tmps[p]?.getD undef = .pointer (some ⟨b, o, none⟩) := by simpa using hp
  have hq' : a.tmps[q]?.getD undef = z := by simpa using hq
  simp [results, hfn, hp', hq', asAddr, run_loadVar_mid w b o ty vs d hA hu hd hi]

/-- Four results. -/
theorem ret_tmp4 {P : Program} {fn : Func} {R : Ending → World → Prop} {a : Act} {w : World} (p q r s : Tmp) (hfn : fn.results = #[.tmp p, .tmp q, .tmp r, .tmp s]) (x0 x1 x2 x3 : Value)
    (h0 : a.tmps.getD p undef = x0) (h1 : a.tmps.getD q undef = x1) (h2 : a.tmps.getD r undef = x2) (h3 : a.tmps.getD s undef = x3)
    (hdf : a.defers = []) (hR : R (.returned (.tuple #[x0, x1, x2, x3])) w) : bodyPost P fn R .ret a w := by
  refine bodyPost_ret (v := .tuple #[x0, x1, x2, x3]) ?_ hdf hR
  have h0' : a.tmps[p]?.getD undef = x0 := by simpa using h0
  have h1' : a.tmps[q]?.getD undef = x1 := by simpa using h1
  have h2' : a.tmps[r]?.getD undef = x2 := by simpa using h2
  have h3' : a.tmps[s]?.getD undef = x3 := by simpa using h3
  simp [results, hfn, h0', h1', h2', h3']

end Go.Proofs.YtbeegcpmpgdbnaaDoor

/-
  'copy' at a walk's operation: of bytes, and of a string, into cells that are there. Nothing here speaks of one function.
-/
namespace Go.Proofs.YtbeegcpmpgdbnaaDoor
open Go.RowKit

/-- 'copy', of bytes into cells that are there. -/
theorem wp_copy {w : World} {ops : Array Oper} {rest : List Oper} {o : Oper} {a : Act} {Q : Exit → Act → World → Prop} (hgd : o.guard = none) (d s : Operand)
    (ho : o.op = .call { callee := .builtin .copy, args := #[d, s], argTypes := #[37, 37] }) (b off dLen dCap : Nat) (hd : a.eval d = .slice (some ⟨b, off, none⟩) dLen dCap)
    (src : Value) (l : List Int) (hs : a.eval s = src) (hsrc : Bytes w src l) (hl : l.length ≤ dLen) (ht : w.there b off dLen)
    (h : wpList Tryd.prog ops Q rest (a.put o.dst (.int .i64 l.length)) (w.setCells b off (vals .u8 l))) : wpList Tryd.prog ops Q (o :: rest) a w := by
  rcases Nat.eq_zero_or_pos l.length with h0 | h0
  · obtain rfl : l = [] := List.length_eq_zero_iff.1 h0
    obtain ⟨sa, cap, rfl, -⟩ := hsrc.empty
    exact wpList_copy_nothing hgd d s 37 37 ho 5 Tryd.underlying37 (by kernel_rfl) _ _ _ _ _ _ hd hs (by simp) h
  · refine wpList_plain hgd fun K' hK => ?_
    obtain ⟨sb, soff, cap, rfl, h1, h2, hc⟩ := hsrc.lies h0
    have hrun := run_copy_cells (P := Tryd.prog) w 37 37 o.type 5 b off dLen dCap ⟨sb, soff, none⟩ l.length cap (vals .u8 l) Tryd.underlying37 (by kernel_rfl) (by rw [vals_length]; exact (Nat.min_eq_left hl).symm)
      (fun j v hv => by
        have hj : j < l.length := by have := (List.getElem?_eq_some_iff.1 hv).1; rwa [vals_length] at this
        rw [Addr.add_mid, hc j (by omega), ← hv, vals_get .u8 l j hj])
      (fun j hj => by rw [vals_length] at hj; exact (ht j (by omega)).1) (fun j hj => by rw [vals_length] at hj; exact (ht j (by omega)).2)
      (fun v hv => by
        simp only [vals, List.mem_map] at hv
        obtain ⟨z, _, rfl⟩ := hv
        rfl)
    rw [vals_length] at hrun
    unfold Oper.wp
    simp [execOp, ho, resolve, invoke, builtin, hd, hs, hrun, Result.andThen]
    exact hK _ _ h

/-- 'copy', of a string into cells that are there. -/
theorem wp_copy_str {w : World} {ops : Array Oper} {rest : List Oper} {o : Oper} {a : Act} {Q : Exit → Act → World → Prop} (hgd : o.guard = none) (d s : Operand)
    (ho : o.op = .call { callee := .builtin .copy, args := #[d, s], argTypes := #[37, 9] }) (b off dLen dCap : Nat) (hd : a.eval d = .slice (some ⟨b, off, none⟩) dLen dCap)
    (t : ByteArray) (hs : a.eval s = .string t) (hl : t.size ≤ dLen) (ht : w.there b off dLen)
    (h : wpList Tryd.prog ops Q rest (a.put o.dst (.int .i64 t.size)) (w.setCells b off (vals .u8 (strL t)))) : wpList Tryd.prog ops Q (o :: rest) a w := by
  refine wpList_plain hgd fun K' hK => ?_
  have hrun := run_copy_string (P := Tryd.prog) w 37 9 o.type 5 b off dLen dCap t Tryd.underlying37 (fun w => by kernel_rfl) hl
    (fun j hj => (ht j (by omega)).1) (fun j hj => (ht j (by omega)).2)
  have e : (t.data.toList.map fun x => Value.int .u8 (x.toNat : Int)) = vals .u8 (strL t) := by simp [vals, strL]
  rw [e] at hrun
  unfold Oper.wp
  simp [execOp, ho, resolve, invoke, builtin, hd, hs, hrun, Result.andThen]
  exact hK _ _ h

/-- 'copy', of the first bytes of a longer row. -/
theorem wp_copy_head {w : World} {ops : Array Oper} {rest : List Oper} {o : Oper} {a : Act} {Q : Exit → Act → World → Prop} (hgd : o.guard = none) (d s : Operand)
    (ho : o.op = .call { callee := .builtin .copy, args := #[d, s], argTypes := #[37, 37] }) (b off dLen dCap : Nat) (hd : a.eval d = .slice (some ⟨b, off, none⟩) dLen dCap)
    (src : Value) (l : List Int) (hs : a.eval s = src) (hsrc : Bytes w src l) (hl : dLen ≤ l.length) (hp : 0 < dLen) (ht : w.there b off dLen)
    (h : wpList Tryd.prog ops Q rest (a.put o.dst (.int .i64 dLen)) (w.setCells b off (vals .u8 (l.take dLen)))) : wpList Tryd.prog ops Q (o :: rest) a w := by
  refine wpList_plain hgd fun K' hK => ?_
  obtain ⟨sb, soff, cap, rfl, h1, h2, hc⟩ := hsrc.lies (by omega)
  have hxl : (l.take dLen).length = dLen := by simp; omega
  have hrun := run_copy_cells (P := Tryd.prog) w 37 37 o.type 5 b off dLen dCap ⟨sb, soff, none⟩ l.length cap (vals .u8 (l.take dLen)) Tryd.underlying37 (by kernel_rfl) (by rw [vals_length, hxl]; exact (Nat.min_eq_right hl).symm)
    (fun j v hv => by
      have hj : j < (l.take dLen).length := by have := (List.getElem?_eq_some_iff.1 hv).1; rwa [vals_length] at this
      rw [Addr.add_mid, hc j (by omega), ← hv, vals_get .u8 _ j hj]
      congr 2
      simp only [List.getD]
      rw [List.getElem?_take_of_lt (by omega)])
    (fun j hj => by rw [vals_length] at hj; exact (ht j (by omega)).1) (fun j hj => by rw [vals_length] at hj; exact (ht j (by omega)).2)
    (fun v hv => by
      simp only [vals, List.mem_map] at hv
      obtain ⟨z, _, rfl⟩ := hv
      rfl)
  rw [vals_length, hxl] at hrun
  unfold Oper.wp
  simp [execOp, ho, resolve, invoke, builtin, hd, hs, hrun, Result.andThen]
  exact hK _ _ h

/-- Some of a row is written anew. -/
theorem Arr.over {w : World} {b : Nat} {k : IntKind} {zs : List Int} (h : Arr w b 0 k zs) (off : Nat) (l : List Int) (hl : off + l.length ≤ zs.length) :
    Arr (w.setCells b off (vals k l)) b 0 k (zs.take off ++ (l ++ zs.drop (off + l.length))) := by
  have hlen : (zs.take off ++ (l ++ zs.drop (off + l.length))).length = zs.length := by simp; omega
  have hin := World.cell?_setCells_in b (vals k l) off w (fun j hj => by
    have := (h.2 (off + j) (by rw [vals_length] at hj; omega)).1
    rwa [Nat.zero_add] at this)
  have hat : ∀ j, j < zs.length → (w.setCells b off (vals k l)).cell? ⟨b, 0 + j, none⟩ = some (.int k ((zs.take off ++ (l ++ zs.drop (off + l.length))).getD j 0)) := fun j hj => by
    rw [Nat.zero_add]
    by_cases h1 : j < off
    · rw [World.cell?_setCells_out b _ _ _ _ (fun _ _ => Or.inl h1), h.cell0 j hj]
      simp [List.getD, List.getElem?_append, h1, hj, show min off zs.length = off by omega]
    · by_cases h2 : j < off + l.length
      · have := hin (j - off) (by rw [vals_length]; omega)
        rw [show off + (j - off) = j by omega] at this
        rw [this]
        have e1 : (zs.take off).length = off := by simp; omega
        have h3 : j - off < l.length := by omega
        simp [List.getD, List.getElem?_append, h1, h3, vals, show min off zs.length = off by omega]
      · rw [World.cell?_setCells_out b _ _ _ _ (fun _ _ => Or.inr (by rw [vals_length]; show off + l.length ≤ j; omega)), h.cell0 j hj]
        have h3 : ¬ j - off < l.length := by omega
        simp [List.getD, List.getElem?_append, h1, h3, show min off zs.length = off by omega, show off + l.length + (j - off - l.length) = j by omega]
  refine ⟨fun j v hv => ?_, fun j hj => ?_⟩
  · have hj : j < zs.length := by have := (List.getElem?_eq_some_iff.1 hv).1; rw [vals_length, hlen] at this; exact this
    rw [hat j hj, ← hv, vals_get k _ j (by omega)]
  · rw [hlen] at hj
    refine ⟨by rw [hat j hj]; rfl, ?_⟩
    rw [World.frozen?_setCells]
    exact (h.2 j hj).2

/-- A row of bytes of the call's own, that may be written. -/
def Mine (w : World) (base : Nat) (v : Value) (l : List Int) : Prop :=
  ∃ b cap : Nat, v = .slice (some ⟨b, 0, none⟩) l.length cap ∧ l.length ≤ cap ∧ cap ≤ 9223372036854775807 ∧ base ≤ b ∧ Arr w b 0 .u8 l
theorem Mine.bytes {w : World} {base : Nat} {v : Value} {l : List Int} (h : Mine w base v l) : Bytes w v l := by
  obtain ⟨b, cap, rfl, h1, h2, _, hA⟩ := h
  exact ⟨_, _, rfl, h1, h2, by simp, fun _ => ⟨b, 0, rfl, fun i hi => hA.cell i hi⟩⟩
theorem Mine.on {w w' : World} {base : Nat} {v : Value} {l : List Int} (h : Mine w base v l) (hb : Below w.heap.size w w') : Mine w' base v l := by
  obtain ⟨b, cap, rfl, h1, h2, h3, hA⟩ := h
  exact ⟨b, cap, rfl, h1, h2, h3, hA.on hb⟩
theorem Mine.low {w : World} {base base' : Nat} {v : Value} {l : List Int} (h : Mine w base v l) (hb : base' ≤ base) : Mine w base' v l := by
  obtain ⟨b, cap, rfl, h1, h2, h3, hA⟩ := h
  exact ⟨b, cap, rfl, h1, h2, by omega, hA⟩
theorem Mine.apart {w : World} {base b' : Nat} {v : Value} {l : List Int} (h : Mine w base v l) (o' : Nat) (vs : List Value) (hb : b' < base) : Mine (w.setCells b' o' vs) base v l := by
  obtain ⟨b, cap, rfl, h1, h2, h3, hA⟩ := h
  exact ⟨b, cap, rfl, h1, h2, h3, hA.apart _ _ _ (Or.inl (by omega))⟩
theorem Mine.drew {w : World} {base : Nat} {v : Value} {l : List Int} (h : Mine w base v l) : Mine w.drew base v l := h.on (Below.refl _ _).drew
theorem Own.mine {w : World} {base : Nat} {v : Value} {l : List Int} (h : Own w base v l) (hp : 0 < l.length) : Mine w base v l := by
  obtain ⟨_, h0 | ⟨g, cap, cur, rfl, hb, hg, hn, hm, hs, ht⟩⟩ := id h
  · obtain ⟨rfl, h0⟩ := h0
    omega
  · refine ⟨g, cap, rfl, hn, by simpa [maxLen] using hm, hb, ?_⟩
    have hc : ∀ j, j < l.length → w.cell? ⟨g, 0 + j, none⟩ = some (.int .u8 (l.getD j 0)) := fun j hj => by
      rw [Nat.zero_add, World.ownsRow.cellAt h j (by omega)]
      simp [List.getD, hj]
    refine ⟨fun j v hv => ?_, fun j hj => ⟨by rw [hc j hj]; rfl, ?_⟩⟩
    · have hj : j < l.length := by have := (List.getElem?_eq_some_iff.1 hv).1; rwa [vals_length] at this
      rw [hc j hj, ← hv, vals_get .u8 l j hj]
    · exact frozen_of_row _ _ _ _ _ hg

/-- 'append', of bytes onto a row that is full. -/
theorem wp_append_full {w : World} {ops : Array Oper} {rest : List Oper} {o : Oper} {a : Act} {Q : Exit → Act → World → Prop} (hgd : o.guard = none) (s x : Operand)
    (ho : o.op = .call { callee := .builtin .append, args := #[s, x], argTypes := #[37, 37] })
    (base b : Nat) (l : List Int) (hs : a.eval s = .slice (some ⟨b, 0, none⟩) l.length l.length) (hA : Arr w b 0 .u8 l) (hbb : base ≤ b) (src : Value) (m : List Int) (hx : a.eval x = src) (hsrc : Bytes w src m)
    (hsz : l.length + m.length ≤ 1000000) (hb : base ≤ w.heap.size)
    (h : ∀ v' w', Mine w' base v' (l ++ m) → Below base w w' → wpList Tryd.prog ops Q rest (a.put o.dst v') w') : wpList Tryd.prog ops Q (o :: rest) a w := by
  obtain ⟨i0, hi, hz0, hz1, hz2⟩ := info_parts infoB
  obtain ⟨ad, cap, rfl, hcap, hmax, hnone, hcell⟩ := hsrc
  have hnil : m = [] → Mine w base (.slice (some ⟨b, 0, none⟩) l.length l.length) (l ++ m) := by
    rintro rfl
    rw [List.append_nil]
    exact ⟨b, l.length, rfl, Nat.le_refl _, by omega, hbb, hA⟩
  cases ad with
  | none =>
    obtain rfl := hnone rfl
    obtain rfl : m = [] := List.length_eq_zero_iff.1 (by omega)
    refine wpList_plain hgd fun K hK => ?_
    have hrun : (Builtin.append_ #[37, 37] o.type #[.slice (some ⟨b, 0, none⟩) l.length l.length, .slice none 0 0]).run Tryd.prog w = .ok (.slice (some ⟨b, 0, none⟩) l.length l.length) w := by
      simp [Builtin.append_, run_underlying Tryd.underlying37, sizeOf, typeInfo, hi, Builtin.lenOf, Builtin.firstCells, storeCells]
    unfold Oper.wp
    simp [execOp, ho, resolve, invoke, builtin, hs, hx, hrun, Result.andThen]
    exact hK _ _ (h _ w (hnil rfl) (Below.refl _ _))
  | some ad =>
    refine wpList_append_arg w hgd s x 37 ho 5 i0 (.int .u8 0) 1 1 Tryd.underlying37 hi hz0 hz1 hz2 rfl (by decide) b 0 l.length l.length (vals .u8 l) hs (by simp [vals]) (fun j u hu => hA.1 j u hu) ad m.length cap (vals .u8 m) hx (by simp [vals]) ?_ ?_ ?_ (by unfold maxLen; omega) (by omega) ?_ ?_
    · intro j u hj
      have hjl : j < m.length := by
        have := (List.getElem?_eq_some_iff.1 hj).1
        rwa [vals_length] at this
      obtain ⟨b, off, e, hc⟩ := hcell (by omega)
      cases e
      have e2 : (⟨b, off, none⟩ : Addr).add j = ⟨b, off + j, none⟩ := by simp [Addr.add]
      rw [e2, hc j hjl, ← hj, vals_get .u8 m j hjl]
    · intro v hv
      simp only [vals, List.mem_map] at hv
      obtain ⟨z, _, rfl⟩ := hv
      rfl
    · intro hr j hj
      rw [vals_length] at hj
      omega
    · intro hr
      have hm : m = [] := List.length_eq_zero_iff.1 (by omega)
      subst hm
      exact h _ w (hnil rfl) (Below.refl _ _)
    · intro hr v' w' hown hgrow
      have hl : (vals .u8 l ++ vals .u8 m) = (l ++ m).map (Value.int .u8) := by simp [vals]
      have hO : Own w' w.heap.size v' (l ++ m) := by
        unfold Own
        rw [← hl, List.length_append]
        exact hown
      exact h v' w' ((hO.mine (by rw [List.length_append]; omega)).low hb) ((Below.refl base w).grown hgrow hb (fun k hk => by cases hk))

end Go.Proofs.YtbeegcpmpgdbnaaDoor

/-
  'append' onto a row of the call's own: a younger row of the call's own stays. Nothing here speaks of one function.
-/
namespace Go.Proofs.YtbeegcpmpgdbnaaDoor
open Go.RowKit

theorem wp_append_far {w : World} {ops : Array Oper} {rest : List Oper} {o : Oper} {a : Act} {Q : Exit → Act → World → Prop} (hgd : o.guard = none) (s x : Operand)
    (ho : o.op = .call { callee := .builtin .append, args := #[s, x], argTypes := #[37, 37] })
    (base : Nat) (v : Value) (l : List Int) (hs : a.eval s = v) (hown : Own w base v l) (src : Value) (m : List Int) (hx : a.eval x = src) (hsrc : Bytes w src m)
    (hsz : l.length + m.length ≤ 1000000) (hb : base ≤ w.heap.size) (B : Nat) (u : Value) (y : List Int) (hu : Mine w B u y) (hob : ∀ k, v.ownBlock = some k → k < B)
    (h : ∀ v' w', Own w' base v' (l ++ m) → Below base w w' → Bytes w' u y → wpList Tryd.prog ops Q rest (a.put o.dst v') w') : wpList Tryd.prog ops Q (o :: rest) a w := by
  obtain ⟨i0, hi, hz0, hz1, hz2⟩ := info_parts infoB
  obtain ⟨ad, cap, rfl, hcap, hmax, hnone, hcell⟩ := hsrc
  cases ad with
  | none =>
    obtain rfl := hnone rfl
    obtain rfl : m = [] := List.length_eq_zero_iff.1 (by omega)
    refine wpList_append_own_none hgd s x 37 ho base 5 i0 1 Tryd.underlying37 hi v l.length _ hs hown hx ?_
    exact h v w (by rw [List.append_nil]; exact hown) (Below.refl _ _) hu.bytes
  | some ad =>
    refine wpList_append_own w hgd s x 37 ho base 5 i0 (.int .u8 0) 1 1 Tryd.underlying37 hi hz0 hz1 hz2 rfl (by decide) v l.length _ hs hown ad m.length cap (m.map (Value.int .u8)) hx (by simp) ?_ (ints_oneCell _ _) (by unfold maxLen; omega) (by omega) hb ?_
    · intro j u hj
      have hjl : j < m.length := by
        have := (List.getElem?_eq_some_iff.1 hj).1
        simpa using this
      obtain ⟨b, off, e, hc⟩ := hcell (by omega)
      cases e
      have e2 : (⟨b, off, none⟩ : Addr).add j = ⟨b, off + j, none⟩ := by simp [Addr.add]
      rw [e2, hc j hjl, ← hj]
      simp [List.getD, hjl]
    · intro v' w' hown' hgrow _
      refine h v' w' ?_ ((Below.refl base w).grown hgrow hb (fun k hk => (World.ownsRow.lt hown k hk).1)) ?_
      · unfold Own
        rw [List.map_append, List.length_append]
        exact hown'
      · obtain ⟨b, cap', rfl, h1, h2, h3, hA⟩ := hu
        refine ⟨_, _, rfl, h1, h2, by simp, fun _ => ⟨b, 0, rfl, fun i hi => ?_⟩⟩
        refine hgrow.cell (hA.cell i hi) fun e => ?_
        have := hob b e.symm
        omega

end Go.Proofs.YtbeegcpmpgdbnaaDoor

/-
  A byte with one bit turned is another one. Nothing here speaks of one function.
-/
namespace Go.Proofs.YtbeegcpmpgdbnaaDoor

theorem bit_turned : ∀ j : Nat, j < 8 → ∀ n : Nat, n < 256 → bits .xor .u8 (n : Int) (2 ^ j) ≠ (n : Int) := by decide +kernel
theorem byte_turned {z : Int} (h : Byte z) (j : Nat) (hj : j < 8) : bits .xor .u8 z (2 ^ j) ≠ z := by
  obtain ⟨h0, h1⟩ := h
  have := bit_turned j hj z.toNat (by omega)
  rwa [Int.toNat_of_nonneg h0] at this

end Go.Proofs.YtbeegcpmpgdbnaaDoor

/-
  'copy', of as many bytes as there is room for.
-/
namespace Go.Proofs.YtbeegcpmpgdbnaaDoor
open Go.RowKit

/-- 'copy', of as many bytes as there is room for. -/
theorem wp_copy_min {w : World} {ops : Array Oper} {rest : List Oper} {o : Oper} {a : Act} {Q : Exit → Act → World → Prop} (hgd : o.guard = none) (d s : Operand)
    (ho : o.op = .call { callee := .builtin .copy, args := #[d, s], argTypes := #[37, 37] }) (b off dLen dCap : Nat) (hd : a.eval d = .slice (some ⟨b, off, none⟩) dLen dCap)
    (src : Value) (l : List Int) (hs : a.eval s = src) (hsrc : Bytes w src l) (hp : 0 < dLen) (ht : w.there b off dLen) (n : Nat) (hn : n = min dLen l.length)
    (h : wpList Tryd.prog ops Q rest (a.put o.dst (.int .i64 n)) (w.setCells b off (vals .u8 (l.take n)))) : wpList Tryd.prog ops Q (o :: rest) a w := by
  subst hn
  by_cases hl : l.length ≤ dLen
  · rw [Nat.min_eq_right hl, List.take_length] at h
    exact wp_copy hgd d s ho b off dLen dCap hd src l hs hsrc hl ht h
  · rw [Nat.min_eq_left (by omega)] at h
    exact wp_copy_head hgd d s ho b off dLen dCap hd src l hs hsrc (by omega) hp ht h

end Go.Proofs.YtbeegcpmpgdbnaaDoor
