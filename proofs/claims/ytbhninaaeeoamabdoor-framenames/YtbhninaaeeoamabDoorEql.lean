/-
  Arrays held against each other; sums that are kept. Nothing here speaks of one law.
-/
import Derived.Test.YtbhninaaeeoamabDoorShaSum
import Derived.Laws.StructEq
namespace Go.Proofs.YtbhninaaeeoamabDoor
open Go.RowKit

/-- An array of numbers is equal to itself. -/
theorem eql_self (w : World) (t e : TypeId) (n : Nat) (k : IntKind) (ht : Tryd.prog.underlying t = some (.array n e)) (he : Tryd.prog.underlying e = some (.int k)) (hsz : ∀ w, (sizeOf e).run Tryd.prog w = .ok 1 w) (xs : List Int) (hx : xs.length = n) :
    (Op.equalIn 10000 t (.agg (vals k xs).toArray) (.agg (vals k xs).toArray)).run Tryd.prog w = .ok true w := by
  rw [show (10000 : Nat) = 9998 + 2 from rfl, Op.equalIn]
  simp only [Sem.run_bind, run_underlying ht, Result.andThen_ok, hsz, Std.Legacy.Range.forIn_eq_forIn_range', Std.Legacy.Range.size, Nat.sub_zero, Nat.add_sub_cancel, Nat.div_one]
  have hl : ∀ i ∈ List.range' 0 n 1, i < n := fun i hi => by simpa using (List.mem_range'_1.1 hi).2
  generalize List.range' 0 n 1 = l at hl ⊢
  induction l with
  | nil => simp
  | cons i l ih =>
    have hi : i < n := hl i (by simp)
    have px : (Go.part e (vals k xs).toArray (i * 1)).run Tryd.prog w = .ok (.int k (xs.getD i 0)) w := by
      simp only [Go.part, isAgg, Sem.run_bind, run_underlying he, Nat.mul_one]
      simp
      rw [vals_get k xs i (by omega)]
      simp
    have pe : (Op.equalIn (9998 + 1) e (.int k (xs.getD i 0)) (.int k (xs.getD i 0))).run Tryd.prog w = .ok true w := by
      rw [run_equalIn_int w 9998 e k k _ _ he]
      simp
    simp only [List.forIn_cons, Sem.run_bind, px, pe, Result.andThen_ok]
    simp only [Bool.not_true, Bool.false_eq_true, if_false, Sem.run_pure, Result.andThen_ok]
    exact ih fun j hj => hl j (by simp [hj])
theorem eql_hash (xs : List Int) (hx : xs.length = 32) (w : World) : (Op.equalIn 10000 52 (.agg (vals .u8 xs).toArray) (.agg (vals .u8 xs).toArray)).run Tryd.prog w = .ok true w :=
  eql_self w 52 5 32 .u8 Tryd.underlying52 Tryd.underlying5 (fun _ => by kernel_rfl) xs hx

/-- A place for a sum. -/
theorem hash_there (w : World) : (w.alloc (.cells #[.int .u8 0, .int .u8 0, .int .u8 0, .int .u8 0, .int .u8 0, .int .u8 0, .int .u8 0, .int .u8 0, .int .u8 0, .int .u8 0, .int .u8 0, .int .u8 0, .int .u8 0, .int .u8 0, .int .u8 0, .int .u8 0, .int .u8 0, .int .u8 0, .int .u8 0, .int .u8 0, .int .u8 0, .int .u8 0, .int .u8 0, .int .u8 0, .int .u8 0, .int .u8 0, .int .u8 0, .int .u8 0, .int .u8 0, .int .u8 0, .int .u8 0, .int .u8 0] 52)).there w.heap.size 0 32 := by
  exact (Arr.new w .u8 (List.replicate 32 0) 52).2
theorem hash_kept (w : World) (H : List Int) (hH : H.length = 32) : Below w.heap.size w ((w.alloc (.cells #[.int .u8 0, .int .u8 0, .int .u8 0, .int .u8 0, .int .u8 0, .int .u8 0, .int .u8 0, .int .u8 0, .int .u8 0, .int .u8 0, .int .u8 0, .int .u8 0, .int .u8 0, .int .u8 0, .int .u8 0, .int .u8 0, .int .u8 0, .int .u8 0, .int .u8 0, .int .u8 0, .int .u8 0, .int .u8 0, .int .u8 0, .int .u8 0, .int .u8 0, .int .u8 0, .int .u8 0, .int .u8 0, .int .u8 0, .int .u8 0, .int .u8 0, .int .u8 0] 52)).setCells w.heap.size 0 (vals .u8 H)) ∧ Arr ((w.alloc (.cells #[.int .u8 0, .int .u8 0, .int .u8 0, .int .u8 0, .int .u8 0, .int .u8 0, .int .u8 0, .int .u8 0, .int .u8 0, .int .u8 0, .int .u8 0, .int .u8 0, .int .u8 0, .int .u8 0, .int .u8 0, .int .u8 0, .int .u8 0, .int .u8 0, .int .u8 0, .int .u8 0, .int .u8 0, .int .u8 0, .int .u8 0, .int .u8 0, .int .u8 0, .int .u8 0, .int .u8 0, .int .u8 0, .int .u8 0, .int .u8 0, .int .u8 0, .int .u8 0] 52)).setCells w.heap.size 0 (vals .u8 H)) w.heap.size 0 .u8 H :=
  ⟨below_sets (Nat.le_refl _) _ _ _ ((Below.refl _ _).alloc (Nat.le_refl _) _), Arr.put (by rw [hH]; exact hash_there w)⟩

end Go.Proofs.YtbhninaaeeoamabDoor
