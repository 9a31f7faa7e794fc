/-
  Structs within structs, held against each other. Nothing here speaks of one function.
-/
import Derived.Test.YtkemdfikcmgaaaaTxEql
import Derived.BigQuiet
namespace Go.Proofs.Ytkemdfikcmgaaaa
open Go.RowKit

theorem part_struct (w : World) (t : TypeId) (n : Nat) (d : TypeDesc) (ht : Try.prog.underlying t = some d) (hd : d.isRow = true) (hs : ∀ w, (sizeOf t).run Try.prog w = .ok n w) (cs : Array Value) (o : Nat) (l : List Value) (h : cs.extract o (o + n) = l.toArray) :
    (Go.part t cs o).run Try.prog w = .ok (.agg l.toArray) w := by
  simp only [Go.part, isAgg, Sem.run_bind, run_underlying ht, Result.andThen_ok]
  cases d <;> simp_all
theorem eql_pt9 (tx : List Int) (n : Int) (h : tx.length = 32) (w : World) : (Op.equalIn 9999 47 (.agg (ptC tx n).toArray) (.agg (ptC tx n).toArray)).run Try.prog w = .ok (decide (tx = tx) && decide (n = n)) w := by
  have hv : (vals .u8 tx).length = 32 := by rw [vals_length]; exact h
  refine eql_pair w 9998 47 44 45 "Tx" "N" 0 32 (by kernel_rfl) (by kernel_rfl) (by kernel_rfl) (by decide) (by decide) _ _ (.agg (vals .u8 tx).toArray) (.agg (vals .u8 tx).toArray) (.int .u32 n) (.int .u32 n) ?_ ?_ ?_ ?_ _ _ ?_ ?_
  · exact part_row w _ 5 32 Try.underlying44 (fun _ => by kernel_rfl) _ 0 _ (by simp [ptC, hv])
  · exact part_row w _ 5 32 Try.underlying44 (fun _ => by kernel_rfl) _ 0 _ (by simp [ptC, hv])
  · exact part_int w _ .u32 Try.underlying45 _ 32 _ (by simp [ptC, hv])
  · exact part_int w _ .u32 Try.underlying45 _ 32 _ (by simp [ptC, hv])
  · exact eql_arr_at 9996 w _ 5 32 .u8 Try.underlying44 Try.underlying5 (fun _ => by kernel_rfl) tx tx h h
  · rw [run_equalIn_int w 9997 45 .u32 .u32 n n Try.underlying45]
    congr 1
theorem eql_out9 (x : TOut) (h : x.lock.length = 32) (w : World) : (Op.equalIn 9999 50 (.agg (outC x).toArray) (.agg (outC x).toArray)).run Try.prog w = .ok (decide (x.val = x.val) && decide (x.lock = x.lock)) w := by
  have hv : (vals .u8 x.lock).length = 32 := by rw [vals_length]; exact h
  refine eql_pair w 9998 50 48 44 "Value" "Lock" 0 1 (by kernel_rfl) (by kernel_rfl) (by kernel_rfl) (by decide) (by decide) _ _ (.int .u64 x.val) (.int .u64 x.val) (.agg (vals .u8 x.lock).toArray) (.agg (vals .u8 x.lock).toArray) ?_ ?_ ?_ ?_ _ _ ?_ ?_
  · exact part_int w _ .u64 Try.underlying48 _ 0 _ (by simp [outC])
  · exact part_int w _ .u64 Try.underlying48 _ 0 _ (by simp [outC])
  · exact part_row w _ 5 32 Try.underlying44 (fun _ => by kernel_rfl) _ 1 _ (by simp [outC]; rw [List.take_of_length_le (by rw [hv]; omega)])
  · exact part_row w _ 5 32 Try.underlying44 (fun _ => by kernel_rfl) _ 1 _ (by simp [outC]; rw [List.take_of_length_le (by rw [hv]; omega)])
  · rw [run_equalIn_int w 9997 48 .u64 .u64 _ _ Try.underlying48]
    congr 1
  · exact eql_arr_at 9996 w _ 5 32 .u8 Try.underlying44 Try.underlying5 (fun _ => by kernel_rfl) _ _ h h

end Go.Proofs.Ytkemdfikcmgaaaa
