/-
  Two arrays of numbers held against each other; a slice cut out of a slice. Nothing here speaks of one function.
-/
import Derived.Test.YtbhninaaeeoamabDoorArrWalk
import Derived.Laws.StructEq
namespace Go.Proofs.YtbhninaaeeoamabDoor
open Go.RowKit

theorem all_same {xs ys : List Int} {n : Nat} (hx : xs.length = n) (hy : ys.length = n) : ((List.range' 0 n 1).all fun i => xs.getD i 0 == ys.getD i 0) = decide (xs = ys) := by
  by_cases h : xs = ys
  · subst h
    simp
  · rw [decide_eq_false h]
    cases ha : (List.range' 0 n 1).all fun i => xs.getD i 0 == ys.getD i 0 with
    | false => rfl
    | true =>
      refine absurd (List.ext_getElem (hx.trans hy.symm) fun i h1 h2 => ?_) h
      have := List.all_eq_true.1 ha i (by simp; omega)
      simpa [List.getD, h1, h2] using this
theorem eql_arr (w : World) (t e : TypeId) (n : Nat) (k : IntKind) (ht : Tryd.prog.underlying t = some (.array n e)) (he : Tryd.prog.underlying e = some (.int k)) (hsz : ∀ w, (sizeOf e).run Tryd.prog w = .ok 1 w) (xs ys : List Int) (hx : xs.length = n) (hy : ys.length = n) :
    (Op.equalIn 10000 t (.agg (vals k xs).toArray) (.agg (vals k ys).toArray)).run Tryd.prog w = .ok (decide (xs = ys)) w := by
  rw [show (10000 : Nat) = 9998 + 2 from rfl, Op.equalIn, ← all_same hx hy]
  simp only [Sem.run_bind, run_underlying ht, Result.andThen_ok, hsz, Std.Legacy.Range.forIn_eq_forIn_range', Std.Legacy.Range.size, Nat.sub_zero, Nat.add_sub_cancel, Nat.div_one]
  have hl : ∀ i ∈ List.range' 0 n 1, i < n := fun i hi => by simpa using (List.mem_range'_1.1 hi).2
  generalize List.range' 0 n 1 = l at hl ⊢
  induction l with
  | nil => simp
  | cons i l ih =>
    have hi : i < n := hl i (by simp)
    have px : ∀ zs : List Int, zs.length = n → (Go.part e (vals k zs).toArray (i * 1)).run Tryd.prog w = .ok (.int k (zs.getD i 0)) w := fun zs hz => by
      simp only [Go.part, isAgg, Sem.run_bind, run_underlying he, Nat.mul_one]
      simp
      rw [vals_get k zs i (by omega)]
      simp
    have pe : (Op.equalIn (9998 + 1) e (.int k (xs.getD i 0)) (.int k (ys.getD i 0))).run Tryd.prog w = .ok (xs.getD i 0 == ys.getD i 0) w := by
      rw [run_equalIn_int w 9998 e k k _ _ he]
    simp only [List.forIn_cons, Sem.run_bind, px xs hx, px ys hy, pe, Result.andThen_ok, List.all_cons]
    cases hq : (xs.getD i 0 == ys.getD i 0) with
    | true =>
      simp only [Bool.not_true, Bool.false_eq_true, if_false, Sem.run_pure, Result.andThen_ok, Bool.true_and]
      exact ih fun j hj => hl j (by simp [hj])
    | false =>
      simp only [Bool.not_false, if_true, Sem.run_pure, Result.andThen_ok, Bool.false_and]
/-- A slice cut out of a slice. -/
theorem Bytes.mid {w : World} {b off n cap : Nat} {l : List Int} (h : Bytes w (.slice (some ⟨b, off, none⟩) n cap) l) (lo hi : Nat) (h1 : lo ≤ hi) (h2 : hi ≤ n) (h3 : lo < cap) (k c : Nat) (hk : k = hi - lo) (hc : c = cap - lo) :
    Bytes w (.slice (some ⟨b, off + lo, none⟩) k c) ((l.drop lo).take (hi - lo)) := by
  subst hk hc
  have e := (h.drop lo (by omega)).take (hi - lo) (by omega)
  rw [if_neg (by omega)] at e
  have ea : (⟨b, off, none⟩ : Addr).add lo = ⟨b, off + lo, none⟩ := by unfold Addr.add; split <;> simp_all
  rw [Option.map_some, ea] at e
  exact e

end Go.Proofs.YtbhninaaeeoamabDoor
