/-
  Bytes 0 appended to a row of the call's own. Nothing here speaks of one function.
-/
import Derived.Test.YtnjbjgjhomfndaaDoorKit
namespace Go.Proofs.YtnjbjgjhomfndaaDoor
open Go.RowKit

theorem zero_cells (m : Nat) : (Builtin.zeroCells (Value.int .u8 0).cells m).toList = List.replicate m (Value.int .u8 0) := by
  refine List.eq_replicate_iff.2 ⟨by simp [Builtin.zeroCells, Value.cells], fun b hb => ?_⟩
  simp [Builtin.zeroCells, Value.cells, Nat.mod_one] at hb
  exact hb.2.symm
theorem run_append_zeros (w : World) (base : Nat) (ty : TypeId) (v : Value) (n : Nat) (xs : List Value) (hown : w.ownsRow base 5 1 v n xs) (m : Nat) (hm : n + m ≤ 1000000) (hbase : base ≤ w.heap.size) :
    ∃ v' w', (Builtin.append_ #[28, 3] ty #[v, .int .i64 (m : Int)]).run Tryd.prog w = .ok v' w' ∧ w'.ownsRow base 5 1 v' (n + m) (xs ++ List.replicate m (Value.int .u8 0)) ∧ w.grownBy w' v.ownBlock := by
  obtain ⟨i, hi, hz0, hz1, hz2⟩ := info_parts infoB
  have hlen : (xs ++ List.replicate m (Value.int .u8 0)).length = (n + m) * 1 := by rw [List.length_append, hown.1, List.length_replicate]; omega
  have hw : IntKind.i64.wrap (m : Int) = (m : Int) := by simp [IntKind.wrap, IntKind.bits, IntKind.signed]; omega
  have hneg : ¬ ((m : Int) < 0) := by omega
  have hbig : ¬ (281474976710656 < (m : Int)) := by omega
  have hz := zero_cells m
  have grown : ∀ (old : Nat), ∀ (row : Option Nat),
      (w.drew.alloc (.cells (xs.toArray ++ Builtin.zeroCells (Value.int .u8 0).cells m ++ Builtin.zeroCells (Value.int .u8 0).cells (grownCap w (n + m) old 5 - (n + m))) 5)).ownsRow base 5 1
        (.slice (some ⟨w.heap.size, 0, none⟩) (n + m) (grownCap w (n + m) old 5)) (n + m) (xs ++ List.replicate m (Value.int .u8 0)) ∧
      w.grownBy (w.drew.alloc (.cells (xs.toArray ++ Builtin.zeroCells (Value.int .u8 0).cells m ++ Builtin.zeroCells (Value.int .u8 0).cells (grownCap w (n + m) old 5 - (n + m))) 5)) row := by
    intro old row
    have hge := grownCap_ge w (n + m) old 5
    have hcm : grownCap w (n + m) old 5 ≤ maxLen := grownCap_le_maxLen w (n + m) old 5 (by unfold maxLen; omega)
    refine ⟨⟨hlen, .inr ⟨w.heap.size, _, _, rfl, hbase, heap_alloc_new w.drew _, hge, hcm, ?_, ?_⟩⟩, ⟨rfl, rfl, rfl, by simp, fun k hk _ => heap_alloc_old w.drew _ hk⟩⟩
    · have h1 : (Builtin.zeroCells (Value.int .u8 0).cells m).size = m := by rw [← Array.length_toList, hz, List.length_replicate]
      have h2 : (Builtin.zeroCells (Value.int .u8 0).cells (grownCap w (n + m) old 5 - (n + m))).size = grownCap w (n + m) old 5 - (n + m) := by rw [← Array.length_toList, zero_cells, List.length_replicate]
      have h3 := hown.1
      simp only [Array.size_append, List.size_toArray, h1, h2]
      omega
    · simp only [Array.toList_append, hz]
      rw [← hlen]
      exact List.take_left
  have hA : (asInt (.int .i64 (m : Int))).run Tryd.prog w = .ok (m : Int) w := by simp [asInt, asIntOf]
  have hfit : ∀ old, old < n + m → ¬ (281474976710656 < Builtin.nextslicecap (n + m) old) := fun old ho => by
    have := growslice_fits (need := n + m) (old := old) (bytes := 1) (by omega) (by omega)
    omega
  have h63 : ¬ (9223372036854775807 < ((n : Int) + (m : Int))) := by omega
  rcases hown.2 with ⟨rfl, rfl⟩ | ⟨g, cap, cur, rfl, hbg, hg, hnc, hcm, hcs, htake⟩
  · have hx : xs = [] := List.eq_nil_of_length_eq_zero (by simpa using hown.1)
    subst hx
    by_cases h0 : m = 0
    · subst h0
      refine ⟨.slice none 0 0, w, ?_, World.ownsRow_nil w base 5 1, ⟨rfl, rfl, rfl, Nat.le_refl _, fun _ _ _ => rfl⟩⟩
      simp at hA
      simp [Builtin.append_, run_underlying Tryd.underlying28, run_underlying Tryd.underlying3, sizeOf, typeInfo, hi, hz1, hz2, hA, IntKind.wrap, IntKind.bits, IntKind.signed]
    · have hgr := grown 0 (Value.ownBlock (.slice none 0 0))
      have hn : ¬ (m ≤ 0) := by omega
      have hf := hfit 0 (by omega)
      simp only [Nat.zero_add] at hf hgr h63 ⊢
      refine ⟨_, _, ?_, hgr.1, hgr.2⟩
      simp [Builtin.append_, run_underlying Tryd.underlying28, run_underlying Tryd.underlying3, sizeOf, typeInfo, zeroValue, hi, hz0, hz1, hz2, hA, hw, hneg, hbig, h0, hf, Question.forced, Builtin.firstCells, newRow, grownCap]
      intro hx
      omega
  · have hzc : (Builtin.zeroCells (Value.int .u8 0).cells m).toList = List.replicate m (Value.int .u8 0) := hz
    by_cases hroom : n + m ≤ cap
    · have hfc : n * 1 + (List.replicate m (Value.int .u8 0)).length ≤ cur.size := by rw [hcs]; simp; omega
      have hst := run_storeCells_at Tryd.prog g (n * 1) 5 (List.replicate m (Value.int .u8 0)) 0 cur w hg (by simpa using hfc) (by simp [Value.oneCell'])
      simp only [Nat.add_zero, Nat.mul_one] at hst
      refine ⟨.slice (some ⟨g, 0, none⟩) (n + m) cap, w.setRow g (cur.toList.take n ++ List.replicate m (Value.int .u8 0) ++ cur.toList.drop (n + m)).toArray, ?_, ⟨hlen, .inr ⟨g, cap, _, rfl, hbg, setRow_heap w g cur _ 5 _ hg, hroom, hcm, ?_, ?_⟩⟩, ⟨rfl, rfl, rfl, by simp, fun k _ hk => setRow_other w g k _ (fun e => hk (by simp [Value.ownBlock, e]))⟩⟩
      · by_cases h0 : m = 0
        · subst h0
          simp at hA
          simp at hst
          simp [Builtin.append_, run_underlying Tryd.underlying28, run_underlying Tryd.underlying3, sizeOf, typeInfo, hi, hz1, hz2, hA, IntKind.wrap, IntKind.bits, IntKind.signed, hnc, Addr.add_lit, hst]
        · simp [Builtin.append_, run_underlying Tryd.underlying28, run_underlying Tryd.underlying3, sizeOf, typeInfo, zeroValue, hi, hz0, hz1, hz2, hA, hw, hneg, hbig, h0, hroom, Addr.add_lit, hzc, hst]
      · simp only [List.size_toArray, List.length_append, List.length_take, List.length_drop, Array.length_toList, List.length_replicate]
        omega
      · simp only [Nat.mul_one] at htake
        rw [htake, ← hlen]
        exact List.take_left
    · have holds : ∀ j u, xs[j]? = some u → w.cell? ((⟨g, 0, none⟩ : Addr).add j) = some u := hown.cells (g := g) rfl
      have hfo := run_firstCells_some (P := Tryd.prog) w.drew 1 n ⟨g, 0, none⟩ n cap xs hown.1 (by simpa using holds)
      have hgr := grown cap (Value.ownBlock (.slice (some ⟨g, 0, none⟩) n cap))
      have hf := hfit cap (by omega)
      have h0 : ¬ m = 0 := by omega
      refine ⟨_, _, ?_, hgr.1, hgr.2⟩
      simp [Builtin.append_, run_underlying Tryd.underlying28, run_underlying Tryd.underlying3, sizeOf, typeInfo, zeroValue, hi, hz0, hz1, hz2, hA, hw, hneg, hbig, h0, hf, h63, hroom, hfo, Question.forced, newRow, grownCap]

/-- 'append(s, make([]byte, m)...)', onto a row of the call's own. -/
theorem wp_append_zeros {w : World} {ops : Array Oper} {rest : List Oper} {o : Oper} {a : Act} {Q : Exit → Act → World → Prop} (hgd : o.guard = none) (s x : Operand)
    (ho : o.op = .call { callee := .builtin .append, args := #[s, x], argTypes := #[28, 3] })
    (base : Nat) (v : Value) (l : List Int) (hs : a.eval s = v) (hown : Own w base v l) (m : Nat) (hx : a.eval x = .int .i64 (m : Int)) (hsz : l.length + m ≤ 1000000) (hb : base ≤ w.heap.size)
    (h : ∀ v' w', Own w' base v' (l ++ List.replicate m 0) → Below base w w' → wpList Tryd.prog ops Q rest (a.put o.dst v') w') : wpList Tryd.prog ops Q (o :: rest) a w := by
  obtain ⟨v', w', hr, h2, h3⟩ := run_append_zeros w base o.type v l.length _ hown m hsz hb
  refine wpList_plain hgd fun K hK => ?_
  unfold Oper.wp execOp
  simp only [ho, resolve, invoke, builtin, Sem.run_bind, Sem.run_pure, Result.andThen_ok, List.map_toArray, List.map_cons, List.map_nil, hs, hx, hr]
  refine hK _ _ (h v' w' ?_ ((Below.refl base w).grown h3 hb (fun k hk => (World.ownsRow.lt hown k hk).1)))
  unfold Own
  rw [List.map_append, List.length_append, List.length_replicate, List.map_replicate]
  exact h2

end Go.Proofs.YtnjbjgjhomfndaaDoor
