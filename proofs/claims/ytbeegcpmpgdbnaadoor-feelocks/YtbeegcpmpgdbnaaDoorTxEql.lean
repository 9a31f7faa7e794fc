/-
  Points and outputs held against each other; a long row that is read in a region that draws its order and only reads.
-/
import Derived.Test.YtbeegcpmpgdbnaaDoorRowS
import Derived.Test.YtbeegcpmpgdbnaaDoorKitA
import Derived.BigQuiet
namespace Go.Proofs.YtbeegcpmpgdbnaaDoor
open Go.RowKit

theorem eql_arr_at (d : Nat) (w : World) (t e : TypeId) (n : Nat) (k : IntKind) (ht : Tryd.prog.underlying t = some (.array n e)) (he : Tryd.prog.underlying e = some (.int k)) (hsz : ∀ w, (sizeOf e).run Tryd.prog w = .ok 1 w) (xs ys : List Int) (hx : xs.length = n) (hy : ys.length = n) :
    (Op.equalIn (d + 2) t (.agg (vals k xs).toArray) (.agg (vals k ys).toArray)).run Tryd.prog w = .ok (decide (xs = ys)) w := by
  rw [Op.equalIn, ← all_same hx hy]
  simp only [Sem.run_bind, run_underlying ht, Result.andThen_ok, hsz, Std.Legacy.Range.forIn_eq_forIn_range', Std.Legacy.Range.size, Nat.sub_zero, Nat.add_sub_cancel, Nat.div_one]
  have hl : ∀ i ∈ List.range' 0 n 1, i < n := fun i hi => by simpa using (List.mem_range'_1.1 hi).2
  generalize List.range' 0 n 1 = l at hl ⊢
  induction l with
  | nil => simp
  | cons i l ih =>
    have hi : i < n := hl i (by simp)
    have px : ∀ zs : List Int, zs.length = n → (Go.part e (vals k zs).toArray (i * 1)).run Tryd.prog w = .ok (.int k (zs.getD i 0)) w := fun zs hz => by
      simp only [Go.part, isAgg, Sem.run_bind, run_underlying he, Nat.mul_one]
      simp
      rw [vals_get k zs i (by omega)]
      simp
    have pe : (Op.equalIn (d + 1) e (.int k (xs.getD i 0)) (.int k (ys.getD i 0))).run Tryd.prog w = .ok (xs.getD i 0 == ys.getD i 0) w := by
      rw [run_equalIn_int w d e k k _ _ he]
    simp only [List.forIn_cons, Sem.run_bind, px xs hx, px ys hy, pe, Result.andThen_ok, List.all_cons]
    cases hq : (xs.getD i 0 == ys.getD i 0) with
    | true =>
      simp only [Bool.not_true, Bool.false_eq_true, if_false, Sem.run_pure, Result.andThen_ok, Bool.true_and]
      exact ih fun j hj => hl j (by simp [hj])
    | false =>
      simp only [Bool.not_false, if_true, Sem.run_pure, Result.andThen_ok, Bool.false_and]
/-- Two structs of two fields. -/
theorem eql_pair (w : World) (d : Nat) (t t0 t1 : TypeId) (n0 n1 : String) (o0 o1 : Nat) (ht : Tryd.prog.underlying t = some (.struct (Tryd.prog.fieldsOf t))) (hp : Tryd.prog.stoodInHeld t = false)
    (hf : (Tryd.prog.fieldsOf t).toList.map (fun f => (f.name, f.type, f.offset)) = [(n0, t0, o0), (n1, t1, o1)]) (h0 : n0 ≠ "_") (h1 : n1 ≠ "_") (xs ys : Array Value) (x0 y0 x1 y1 : Value)
    (px0 : (part t0 xs o0).run Tryd.prog w = .ok x0 w) (py0 : (part t0 ys o0).run Tryd.prog w = .ok y0 w) (px1 : (part t1 xs o1).run Tryd.prog w = .ok x1 w) (py1 : (part t1 ys o1).run Tryd.prog w = .ok y1 w) (r0 r1 : Bool)
    (e0 : (Op.equalIn d t0 x0 y0).run Tryd.prog w = .ok r0 w) (e1 : (Op.equalIn d t1 x1 y1).run Tryd.prog w = .ok r1 w) : (Op.equalIn (d + 1) t (.agg xs) (.agg ys)).run Tryd.prog w = .ok (r0 && r1) w := by
  rw [run_equalIn_struct w d t xs ys ht hp]
  generalize (Tryd.prog.fieldsOf t).toList = fs at hf
  rcases fs with _ | ⟨f, _ | ⟨g, _ | ⟨h, fs⟩⟩⟩
  · simp at hf
  · simp at hf
  · simp only [List.map_cons, List.map_nil, List.cons.injEq, Prod.mk.injEq, and_true] at hf
    obtain ⟨⟨rfl, rfl, rfl⟩, rfl, rfl, rfl⟩ := hf
    simp only [Op.eqFields, if_pos h0, if_pos h1, Sem.run_bind, px0, py0, e0, Result.andThen_ok]
    cases r0 with
    | false => simp
    | true =>
      simp only [Bool.not_true, Bool.false_eq_true, if_false, Sem.run_bind, px1, py1, e1, Result.andThen_ok]
      cases r1 <;> simp
  · simp at hf
theorem part_row (w : World) (t e : TypeId) (n : Nat) (ht : Tryd.prog.underlying t = some (.array n e)) (hs : ∀ w, (sizeOf t).run Tryd.prog w = .ok n w) (cs : Array Value) (o : Nat) (l : List Value) (h : cs.extract o (o + n) = l.toArray) :
    (part t cs o).run Tryd.prog w = .ok (.agg l.toArray) w := by
  simp only [part, isAgg, Sem.run_bind, run_underlying ht, Result.andThen_ok, Sem.run_pure]
  simp [hs, h]
theorem part_int (w : World) (t : TypeId) (k : IntKind) (ht : Tryd.prog.underlying t = some (.int k)) (cs : Array Value) (o : Nat) (v : Value) (h : cs[o]? = some v) : (part t cs o).run Tryd.prog w = .ok v w := by
  simp only [part, isAgg, Sem.run_bind, run_underlying ht, Result.andThen_ok, Sem.run_pure]
  simp [h]
/-- A point's cells. -/
def ptC (tx : List Int) (n : Int) : List Value := vals .u8 tx ++ [.int .u32 n]
theorem ptC_length {tx : List Int} (n : Int) (h : tx.length = 32) : (ptC tx n).length = 33 := by simp [ptC, vals, h]
theorem ptC_one (tx : List Int) (n : Int) : ∀ u ∈ ptC tx n, u.oneCell' = true := by
  intro u hu
  rcases List.mem_append.1 hu with q | q
  · exact vals_cell _ _ u q
  · obtain rfl := List.mem_singleton.1 q
    rfl
theorem eql_pt (tx tx' : List Int) (n n' : Int) (h : tx.length = 32) (h' : tx'.length = 32) (w : World) : (Op.equalIn 10000 36 (.agg (ptC tx n).toArray) (.agg (ptC tx' n').toArray)).run Tryd.prog w = .ok (decide (tx = tx') && decide (n = n')) w := by
  have hv : ∀ l : List Int, l.length = 32 → (vals .u8 l).length = 32 := fun l h => by rw [vals_length]; exact h
  refine eql_pair w 9999 36 34 22 "Tx" "N" 0 32 (by kernel_rfl) (by kernel_rfl) (by kernel_rfl) (by decide) (by decide) _ _ (.agg (vals .u8 tx).toArray) (.agg (vals .u8 tx').toArray) (.int .u32 n) (.int .u32 n') ?_ ?_ ?_ ?_ _ _ ?_ ?_
  · exact part_row w _ 5 32 Tryd.underlying34 (fun _ => by kernel_rfl) _ 0 _ (by simp [ptC, hv tx h])
  · exact part_row w _ 5 32 Tryd.underlying34 (fun _ => by kernel_rfl) _ 0 _ (by simp [ptC, hv tx' h'])
  · exact part_int w _ .u32 Tryd.underlying22 _ 32 _ (by simp [ptC, hv tx h])
  · exact part_int w _ .u32 Tryd.underlying22 _ 32 _ (by simp [ptC, hv tx' h'])
  · exact eql_arr_at 9997 w _ 5 32 .u8 Tryd.underlying34 Tryd.underlying5 (fun _ => by kernel_rfl) tx tx' h h'
  · rw [run_equalIn_int w 9998 22 .u32 .u32 n n' Tryd.underlying22]
    congr 1
theorem eql_out (x y : TOut) (h : x.lock.length = 32) (h' : y.lock.length = 32) (w : World) : (Op.equalIn 10000 60 (.agg (outC x).toArray) (.agg (outC y).toArray)).run Tryd.prog w = .ok (decide (x.val = y.val) && decide (x.lock = y.lock)) w := by
  have hv : ∀ l : List Int, l.length = 32 → (vals .u8 l).length = 32 := fun l h => by rw [vals_length]; exact h
  refine eql_pair w 9999 60 29 34 "Value" "Lock" 0 1 (by kernel_rfl) (by kernel_rfl) (by kernel_rfl) (by decide) (by decide) _ _ (.int .u64 x.val) (.int .u64 y.val) (.agg (vals .u8 x.lock).toArray) (.agg (vals .u8 y.lock).toArray) ?_ ?_ ?_ ?_ _ _ ?_ ?_
  · exact part_int w _ .u64 Tryd.underlying29 _ 0 _ (by simp [outC])
  · exact part_int w _ .u64 Tryd.underlying29 _ 0 _ (by simp [outC])
  · exact part_row w _ 5 32 Tryd.underlying34 (fun _ => by kernel_rfl) _ 1 _ (by simp [outC]; rw [List.take_of_length_le (by rw [hv _ h]; omega)])
  · exact part_row w _ 5 32 Tryd.underlying34 (fun _ => by kernel_rfl) _ 1 _ (by simp [outC]; rw [List.take_of_length_le (by rw [hv _ h']; omega)])
  · rw [run_equalIn_int w 9998 29 .u64 .u64 _ _ Tryd.underlying29]
    congr 1
  · exact eql_arr_at 9997 w _ 5 32 .u8 Tryd.underlying34 Tryd.underlying5 (fun _ => by kernel_rfl) _ _ h h'
theorem info_pt : (Tryd.prog.info? 36).map (·.size) = some 33 := by kernel_rfl

/-- A long row, read in a region that draws its order and only reads. -/
theorem quiet_load {P : Program} {o : Oper} {a : Act} {C : World → Prop} {K : Act → Prop} (ty : TypeId) (x : Operand) (ho : o.op = .load ty x) (b off : Nat) (hx : a.eval x = .pointer (some ⟨b, off, none⟩)) (cs : List Value) (d : TypeDesc)
    (hC : ∀ w, C w → w.rangeAt b off cs) (hu : P.underlying ty = some d) (hd : d.isRow = true) (hi : (P.info? ty).map (·.size) = some cs.length) (hk : K (a.put o.dst (.agg cs.toArray))) : o.quiet P a C K :=
  ⟨_, fun w hw => by
    unfold Oper.quietAt execOp
    simp only [ho, hx, Instr.loadAt, Instr.sureAddr, Sem.run_bind, Sem.run_pure, Result.andThen_ok, run_loadVar_mid w b off ty cs d (hC w hw) hu hd hi]
    exact ⟨rfl, rfl⟩, hk⟩
theorem range_drewN {w : World} {b o : Nat} {cs : List Value} (h : w.rangeAt b o cs) : ∀ w', (∃ n, w' = w.drewN n) → w'.rangeAt b o cs := by
  rintro w' ⟨n, rfl⟩
  intro j v hv
  have := h j v hv
  simpa using this

end Go.Proofs.YtbeegcpmpgdbnaaDoor
