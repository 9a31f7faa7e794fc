/-
  Arrays held against each other; sums that are kept; what the layer's alive answers: the document's example.
-/
import Derived.Test.YtllldlpnocnagaaDoorShaSum
import Derived.Laws.StructEq
import Derived.Lib.SlBytesConst
namespace Go.Proofs.YtllldlpnocnagaaDoor
open Go.RowKit

/-- An array of numbers is equal to itself. -/
theorem eql_self (w : World) (t e : TypeId) (n : Nat) (k : IntKind) (ht : Tryd.prog.underlying t = some (.array n e)) (he : Tryd.prog.underlying e = some (.int k)) (hsz : ∀ w, (sizeOf e).run Tryd.prog w = .ok 1 w) (xs : List Int) (hx : xs.length = n) :
    (Op.equalIn 10000 t (.agg (vals k xs).toArray) (.agg (vals k xs).toArray)).run Tryd.prog w = .ok true w := by
  rw [show (10000 : Nat) = 9998 + 2 from rfl, Op.equalIn]
  simp only [Sem.run_bind, run_underlying ht, Result.andThen_ok, hsz, Std.Legacy.Range.forIn_eq_forIn_range', Std.Legacy.Range.size, Nat.sub_zero, Nat.add_sub_cancel, Nat.div_one]
  have hl : ∀ i ∈ List.range' 0 n 1, i < n := fun i hi => by simpa using (List.mem_range'_1.1 hi).2
  generalize List.range' 0 n 1 = l at hl ⊢
  induction l with
  | nil => simp
  | cons i l ih =>
    have hi : i < n := hl i (by simp)
    have px : (Go.part e (vals k xs).toArray (i * 1)).run Tryd.prog w = .ok (.int k (xs.getD i 0)) w := by
      simp only [Go.part, isAgg, Sem.run_bind, run_underlying he, Nat.mul_one]
      simp
      rw [vals_get k xs i (by omega)]
      simp
    have pe : (Op.equalIn (9998 + 1) e (.int k (xs.getD i 0)) (.int k (xs.getD i 0))).run Tryd.prog w = .ok true w := by
      rw [run_equalIn_int w 9998 e k k _ _ he]
      simp
    simp only [List.forIn_cons, Sem.run_bind, px, pe, Result.andThen_ok]
    simp only [Bool.not_true, Bool.false_eq_true, if_false, Sem.run_pure, Result.andThen_ok]
    exact ih fun j hj => hl j (by simp [hj])
theorem eql_hash (xs : List Int) (hx : xs.length = 32) (w : World) : (Op.equalIn 10000 28 (.agg (vals .u8 xs).toArray) (.agg (vals .u8 xs).toArray)).run Tryd.prog w = .ok true w :=
  eql_self w 28 5 32 .u8 Tryd.underlying28 Tryd.underlying5 (fun _ => by kernel_rfl) xs hx

/-- A place for a sum. -/
theorem hash_there (w : World) : (w.alloc (.cells #[.int .u8 0, .int .u8 0, .int .u8 0, .int .u8 0, .int .u8 0, .int .u8 0, .int .u8 0, .int .u8 0, .int .u8 0, .int .u8 0, .int .u8 0, .int .u8 0, .int .u8 0, .int .u8 0, .int .u8 0, .int .u8 0, .int .u8 0, .int .u8 0, .int .u8 0, .int .u8 0, .int .u8 0, .int .u8 0, .int .u8 0, .int .u8 0, .int .u8 0, .int .u8 0, .int .u8 0, .int .u8 0, .int .u8 0, .int .u8 0, .int .u8 0, .int .u8 0] 28)).there w.heap.size 0 32 := by
  exact (Arr.new w .u8 (List.replicate 32 0) 28).2
theorem hash_kept (w : World) (H : List Int) (hH : H.length = 32) : Below w.heap.size w ((w.alloc (.cells #[.int .u8 0, .int .u8 0, .int .u8 0, .int .u8 0, .int .u8 0, .int .u8 0, .int .u8 0, .int .u8 0, .int .u8 0, .int .u8 0, .int .u8 0, .int .u8 0, .int .u8 0, .int .u8 0, .int .u8 0, .int .u8 0, .int .u8 0, .int .u8 0, .int .u8 0, .int .u8 0, .int .u8 0, .int .u8 0, .int .u8 0, .int .u8 0, .int .u8 0, .int .u8 0, .int .u8 0, .int .u8 0, .int .u8 0, .int .u8 0, .int .u8 0, .int .u8 0] 28)).setCells w.heap.size 0 (vals .u8 H)) ∧ Arr ((w.alloc (.cells #[.int .u8 0, .int .u8 0, .int .u8 0, .int .u8 0, .int .u8 0, .int .u8 0, .int .u8 0, .int .u8 0, .int .u8 0, .int .u8 0, .int .u8 0, .int .u8 0, .int .u8 0, .int .u8 0, .int .u8 0, .int .u8 0, .int .u8 0, .int .u8 0, .int .u8 0, .int .u8 0, .int .u8 0, .int .u8 0, .int .u8 0, .int .u8 0, .int .u8 0, .int .u8 0, .int .u8 0, .int .u8 0, .int .u8 0, .int .u8 0, .int .u8 0, .int .u8 0] 28)).setCells w.heap.size 0 (vals .u8 H)) w.heap.size 0 .u8 H :=
  ⟨below_sets (Nat.le_refl _) _ _ _ ((Below.refl _ _).alloc (Nat.le_refl _) _), Arr.put (by rw [hH]; exact hash_there w)⟩

theorem bytes_marked (w : World) : Bytes (w.alloc (.cells #[.int .u8 97, .int .u8 98, .int .u8 99] 5 (3, 4))) (.slice (some ⟨w.heap.size, 0, none⟩) 3 3) [97, 98, 99] := by
  refine ⟨_, _, rfl, Nat.le_refl _, by omega, by simp, fun _ => ⟨_, _, rfl, fun i hi => ?_⟩⟩
  rw [Nat.zero_add, cell_of_row _ _ _ _ 5 (3, 4) (heap_alloc_new w _)]
  rcases (show i = 0 ∨ i = 1 ∨ i = 2 by simp at hi; omega) with rfl | rfl | rfl <;> rfl
set_option maxRecDepth 100000 in
set_option maxHeartbeats 1000000 in
theorem alive_any (w : World) (hk : Ks w) : Calls Tryd.prog 9 #[] w fun e w' => e = .returned (.bool true) ∧ Below w.heap.size w w' := by
  have HK := hide hk
  have CV := fun (wx : World) (C : Array Value) (n c : Nat) => Lib.run_convert_bytes_const (P := Tryd.prog) wx 25 5 C n c Tryd.underlying25 Tryd.underlying5
  have EQ : ∀ w, (Op.equalIn 10000 28 (.agg (vals .u8 (digest [97, 98, 99])).toArray) (.agg #[.int .u8 186, .int .u8 120, .int .u8 22, .int .u8 191, .int .u8 143, .int .u8 1, .int .u8 207, .int .u8 234, .int .u8 65, .int .u8 65, .int .u8 64, .int .u8 222, .int .u8 93, .int .u8 174, .int .u8 34, .int .u8 35, .int .u8 176, .int .u8 3, .int .u8 97, .int .u8 163, .int .u8 150, .int .u8 23, .int .u8 122, .int .u8 156, .int .u8 180, .int .u8 16, .int .u8 255, .int .u8 97, .int .u8 242, .int .u8 0, .int .u8 21, .int .u8 173])).run Tryd.prog w = .ok true w := fun w => by
    have := eql_hash (digest [97, 98, 99]) (digest_length _) w
    have e : (vals .u8 (digest [97, 98, 99])).toArray = #[.int .u8 186, .int .u8 120, .int .u8 22, .int .u8 191, .int .u8 143, .int .u8 1, .int .u8 207, .int .u8 234, .int .u8 65, .int .u8 65, .int .u8 64, .int .u8 222, .int .u8 93, .int .u8 174, .int .u8 34, .int .u8 35, .int .u8 176, .int .u8 3, .int .u8 97, .int .u8 163, .int .u8 150, .int .u8 23, .int .u8 122, .int .u8 156, .int .u8 180, .int .u8 16, .int .u8 255, .int .u8 97, .int .u8 242, .int .u8 0, .int .u8 21, .int .u8 173] := by rw [digest_abc]; rfl
    rw [← e]
    exact this
  have HDL := hide (digest_length [97, 98, 99])
  have S := hide (fun wx (h : Ks wx) (hb : Bytes wx (.slice (some ⟨w.heap.size, 0, none⟩) 3 3) [97, 98, 99]) => sum_flat (wx.alloc (.cells #[.slice (some ⟨w.heap.size, 0, none⟩) 3 3] 25)) (.slice (some ⟨wx.heap.size, 0, none⟩) 1 1) [[97, 98, 99]] [97, 98, 99] rfl (Parts.one wx _ _ hb) (h.on ((Below.refl _ _).alloc (Nat.le_refl _) _)) (by simp))
  have HB0 : Hid (Bytes (w.alloc (.cells #[.int .u8 97, .int .u8 98, .int .u8 99] 5 (3, 4))) (.slice (some ⟨w.heap.size, 0, none⟩) 3 3) [97, 98, 99]) := hide (bytes_marked w)
  have hbx := (Below.refl w.heap.size w).alloc (Nat.le_refl _) (.cells #[.int .u8 97, .int .u8 98, .int .u8 99] 5 (3, 4))
  have HK1 := hide (HK.out.on hbx)
  have SS := hide (S.out _ HK1.out HB0.out)
  rw [alloc_size] at SS
  clear hk hbx S HB0
  generalize digest [97, 98, 99] = D at *
  go_enter Tryd.func9, Tryd.ntmps9
  go_wp2_with fail
  refine SS.out.mono ?_
  rintro e w1 ⟨rfl, hbel1⟩
  have HB1 := hide (box2 hbel1)
  clear hbel1
  go_wp2_with (first | (refine wp_store_arr rfl 28 (.tmp 1) (.tmp 5) rfl _ 0 .u8 D rfl rfl 32 (hash_there _) info_h HDL.out ?_) | (refine wp_load_arr rfl 28 (.tmp 1) rfl _ 0 rfl .u8 D (hash_kept _ D HDL.out).2 _ Tryd.underlying28 rfl 32 info_h HDL.out ?_))
  go_ret
  exact ⟨rfl, below_on HB1.out (hash_kept _ D HDL.out).1⟩

end Go.Proofs.YtllldlpnocnagaaDoor
