/-
  Points and outputs that are built; a row that is laid over a longer one. Nothing here speaks of one function.
-/
import Derived.Test.YtbeegcpmpgdbnaaDoorTxEql
import Derived.Test.YtbeegcpmpgdbnaaDoorTxStep
namespace Go.Proofs.YtbeegcpmpgdbnaaDoor
open Go.RowKit

theorem pt_there (w : World) : (w.alloc (.cells #[.int .u8 0, .int .u8 0, .int .u8 0, .int .u8 0, .int .u8 0, .int .u8 0, .int .u8 0, .int .u8 0, .int .u8 0, .int .u8 0, .int .u8 0, .int .u8 0, .int .u8 0, .int .u8 0, .int .u8 0, .int .u8 0, .int .u8 0, .int .u8 0, .int .u8 0, .int .u8 0, .int .u8 0, .int .u8 0, .int .u8 0, .int .u8 0, .int .u8 0, .int .u8 0, .int .u8 0, .int .u8 0, .int .u8 0, .int .u8 0, .int .u8 0, .int .u8 0, .int .u32 0] 36)).there w.heap.size 0 33 := there_new w _ _
/-- A row is laid over the head of a longer one. -/
theorem fold_part : ∀ (c : List Value) (k : Nat) (A : Array Value), k + c.length ≤ A.size → List.foldl (fun (cs : Array Value) (x : Value × Nat) => cs.setIfInBounds x.2 x.1) A (c.zipIdx k) = (A.toList.take k ++ c ++ A.toList.drop (k + c.length)).toArray
  | [], k, A, _ => by simp
  | x :: c, k, A, h => by
    simp only [List.length_cons] at h
    have hk : k < A.toList.length := by simp; omega
    rw [List.zipIdx_cons, List.foldl_cons, fold_part c (k + 1) _ (by simp only [Array.size_setIfInBounds]; omega)]
    congr 1
    rw [Array.toList_setIfInBounds, List.take_succ_eq_append_getElem (by rw [List.length_set]; exact hk), List.take_set_of_le (Nat.le_refl _), List.drop_set_of_lt (by omega)]
    simp [Nat.add_assoc, Nat.add_comm 1]
theorem pt_size (id : List Int) (h : id.length = 32) : ¬ (List.foldl (fun (cs : Array Value) (x : Value × Nat) => cs.setIfInBounds x.2 x.1) #[.int .u8 0, .int .u8 0, .int .u8 0, .int .u8 0, .int .u8 0, .int .u8 0, .int .u8 0, .int .u8 0, .int .u8 0, .int .u8 0, .int .u8 0, .int .u8 0, .int .u8 0, .int .u8 0, .int .u8 0, .int .u8 0, .int .u8 0, .int .u8 0, .int .u8 0, .int .u8 0, .int .u8 0, .int .u8 0, .int .u8 0, .int .u8 0, .int .u8 0, .int .u8 0, .int .u8 0, .int .u8 0, .int .u8 0, .int .u8 0, .int .u8 0, .int .u8 0, .int .u32 0] (vals .u8 id).zipIdx).size < 33 := by
  have hv : (vals .u8 id).length = 32 := by rw [vals_length, h]
  rw [fold_part _ 0 _ (by rw [hv]; decide)]
  simp [hv]
theorem pt_built (id : List Int) (k : Int) (h : id.length = 32) : (List.foldl (fun (cs : Array Value) (x : Value × Nat) => cs.setIfInBounds x.2 x.1) #[.int .u8 0, .int .u8 0, .int .u8 0, .int .u8 0, .int .u8 0, .int .u8 0, .int .u8 0, .int .u8 0, .int .u8 0, .int .u8 0, .int .u8 0, .int .u8 0, .int .u8 0, .int .u8 0, .int .u8 0, .int .u8 0, .int .u8 0, .int .u8 0, .int .u8 0, .int .u8 0, .int .u8 0, .int .u8 0, .int .u8 0, .int .u8 0, .int .u8 0, .int .u8 0, .int .u8 0, .int .u8 0, .int .u8 0, .int .u8 0, .int .u8 0, .int .u8 0, .int .u32 0] (vals .u8 id).zipIdx).setIfInBounds 32 (.int .u32 k) = (ptC id k).toArray := by
  have hv : (vals .u8 id).length = 32 := by rw [vals_length, h]
  rw [fold_part _ 0 _ (by rw [hv]; decide)]
  apply Array.toList_inj.1
  rw [Array.toList_setIfInBounds]
  simp only [List.take_zero, List.nil_append, hv]
  rw [List.set_append_right _ _ (by omega), hv]
  rfl
/-- A row is laid over the middle of a longer one. -/
theorem fold_off (m : Nat) : ∀ (c : List Value) (k : Nat) (A : Array Value), m + k + c.length ≤ A.size → List.foldl (fun (cs : Array Value) (x : Value × Nat) => cs.setIfInBounds (m + x.2) x.1) A (c.zipIdx k) = (A.toList.take (m + k) ++ c ++ A.toList.drop (m + k + c.length)).toArray
  | [], k, A, _ => by simp
  | x :: c, k, A, h => by
    simp only [List.length_cons] at h
    have hk : m + k < A.toList.length := by simp; omega
    rw [List.zipIdx_cons, List.foldl_cons, fold_off m c (k + 1) _ (by simp only [Array.size_setIfInBounds]; omega)]
    congr 1
    rw [Array.toList_setIfInBounds, ← Nat.add_assoc, List.take_succ_eq_append_getElem (by rw [List.length_set]; exact hk), List.take_set_of_le (Nat.le_refl _), List.drop_set_of_lt (by omega)]
    simp [Nat.add_assoc, Nat.add_comm 1]
theorem out_built (x : TOut) (h : x.lock.length = 32) : List.foldl (fun (cs : Array Value) (x : Value × Nat) => cs.setIfInBounds (1 + x.2) x.1) #[.int .u64 x.val, .int .u8 0, .int .u8 0, .int .u8 0, .int .u8 0, .int .u8 0, .int .u8 0, .int .u8 0, .int .u8 0, .int .u8 0, .int .u8 0, .int .u8 0, .int .u8 0, .int .u8 0, .int .u8 0, .int .u8 0, .int .u8 0, .int .u8 0, .int .u8 0, .int .u8 0, .int .u8 0, .int .u8 0, .int .u8 0, .int .u8 0, .int .u8 0, .int .u8 0, .int .u8 0, .int .u8 0, .int .u8 0, .int .u8 0, .int .u8 0, .int .u8 0, .int .u8 0] (vals .u8 x.lock).zipIdx = (outC x).toArray := by
  have hv : (vals .u8 x.lock).length = 32 := by rw [vals_length, h]
  rw [fold_off 1 _ 0 _ (by rw [hv]; simp)]
  simp [hv, outC]


end Go.Proofs.YtbeegcpmpgdbnaaDoor
