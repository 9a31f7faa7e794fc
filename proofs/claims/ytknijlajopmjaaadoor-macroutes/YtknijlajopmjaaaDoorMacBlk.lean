/-
  What mac.keyBlock answers at this program.
-/
import Derived.Test.YtknijlajopmjaaaDoorMacKey
namespace Go.Proofs.YtknijlajopmjaaaDoor
open Go.RowKit

/-- Numbers laid over the first ones. -/
theorem Arr.over {w : World} {b o : Nat} {k : IntKind} {zs : List Int} (h : Arr w b o k zs) (x : List Int) (hx : x.length ≤ zs.length) : Arr (w.setCells b o (vals k x)) b o k (x ++ zs.drop x.length) := by
  have hth : ∀ i, i < (vals k x).length → (w.cell? ⟨b, o + i, none⟩).isSome = true := fun i hi => by
    rw [vals_length] at hi
    exact (h.2 i (by omega)).1
  refine ⟨fun j v hv => ?_, ?_⟩
  · have hj : j < zs.length := by have := (List.getElem?_eq_some_iff.1 hv).1; simp [vals] at this; omega
    have hg : v = .int k ((x ++ zs.drop x.length).getD j 0) := by
      rw [vals_get k _ j (by simp; omega)] at hv
      exact (Option.some.inj hv).symm
    rw [hg]
    by_cases hin : j < x.length
    · have := World.cell?_setCells_in b (vals k x) o w hth j (by rw [vals_length]; exact hin)
      rw [this]
      simp only [List.getD, List.getElem?_append_left hin]
      simp [vals, hin]
    · rw [World.cell?_setCells_out _ _ _ _ _ (fun _ _ => by rw [vals_length]; show o + j < o ∨ o + x.length ≤ o + j; omega), h.cell j hj]
      congr 2
      simp only [List.getD]
      rw [List.getElem?_append_right (by omega), List.getElem?_drop, show x.length + (j - x.length) = j by omega]
  · rw [show (x ++ zs.drop x.length).length = zs.length by simp; omega]
    exact World.there_setCells h.2 _ _ _
theorem zeros_over {w : World} {b : Nat} (h : Arr w b 0 .u8 (List.replicate 64 0)) (x : List Int) (hx : x.length ≤ 64) : Arr (w.setCells b 0 (vals .u8 x)) b 0 .u8 (x ++ List.replicate (64 - x.length) 0) := by
  have := h.over x (by simpa using hx)
  rwa [List.drop_replicate] at this
theorem shortI_le (k : List Int) : (shortI k).length ≤ 64 := by
  unfold shortI
  split
  · rw [digest_length]; omega
  · omega
theorem keyI_length (k : List Int) : (keyI k).length = 64 := by
  have := shortI_le k
  simp [keyI]
  omega
/-- Two blocks for a key. -/
theorem blocks_new (w : World) : Below w.heap.size w ((w.alloc (.cells #[.int .u8 0, .int .u8 0, .int .u8 0, .int .u8 0, .int .u8 0, .int .u8 0, .int .u8 0, .int .u8 0, .int .u8 0, .int .u8 0, .int .u8 0, .int .u8 0, .int .u8 0, .int .u8 0, .int .u8 0, .int .u8 0, .int .u8 0, .int .u8 0, .int .u8 0, .int .u8 0, .int .u8 0, .int .u8 0, .int .u8 0, .int .u8 0, .int .u8 0, .int .u8 0, .int .u8 0, .int .u8 0, .int .u8 0, .int .u8 0, .int .u8 0, .int .u8 0, .int .u8 0, .int .u8 0, .int .u8 0, .int .u8 0, .int .u8 0, .int .u8 0, .int .u8 0, .int .u8 0, .int .u8 0, .int .u8 0, .int .u8 0, .int .u8 0, .int .u8 0, .int .u8 0, .int .u8 0, .int .u8 0, .int .u8 0, .int .u8 0, .int .u8 0, .int .u8 0, .int .u8 0, .int .u8 0, .int .u8 0, .int .u8 0, .int .u8 0, .int .u8 0, .int .u8 0, .int .u8 0, .int .u8 0, .int .u8 0, .int .u8 0, .int .u8 0] 40)).alloc (.cells #[.int .u8 0, .int .u8 0, .int .u8 0, .int .u8 0, .int .u8 0, .int .u8 0, .int .u8 0, .int .u8 0, .int .u8 0, .int .u8 0, .int .u8 0, .int .u8 0, .int .u8 0, .int .u8 0, .int .u8 0, .int .u8 0, .int .u8 0, .int .u8 0, .int .u8 0, .int .u8 0, .int .u8 0, .int .u8 0, .int .u8 0, .int .u8 0, .int .u8 0, .int .u8 0, .int .u8 0, .int .u8 0, .int .u8 0, .int .u8 0, .int .u8 0, .int .u8 0, .int .u8 0, .int .u8 0, .int .u8 0, .int .u8 0, .int .u8 0, .int .u8 0, .int .u8 0, .int .u8 0, .int .u8 0, .int .u8 0, .int .u8 0, .int .u8 0, .int .u8 0, .int .u8 0, .int .u8 0, .int .u8 0, .int .u8 0, .int .u8 0, .int .u8 0, .int .u8 0, .int .u8 0, .int .u8 0, .int .u8 0, .int .u8 0, .int .u8 0, .int .u8 0, .int .u8 0, .int .u8 0, .int .u8 0, .int .u8 0, .int .u8 0, .int .u8 0] 40)) ∧
    Arr ((w.alloc (.cells #[.int .u8 0, .int .u8 0, .int .u8 0, .int .u8 0, .int .u8 0, .int .u8 0, .int .u8 0, .int .u8 0, .int .u8 0, .int .u8 0, .int .u8 0, .int .u8 0, .int .u8 0, .int .u8 0, .int .u8 0, .int .u8 0, .int .u8 0, .int .u8 0, .int .u8 0, .int .u8 0, .int .u8 0, .int .u8 0, .int .u8 0, .int .u8 0, .int .u8 0, .int .u8 0, .int .u8 0, .int .u8 0, .int .u8 0, .int .u8 0, .int .u8 0, .int .u8 0, .int .u8 0, .int .u8 0, .int .u8 0, .int .u8 0, .int .u8 0, .int .u8 0, .int .u8 0, .int .u8 0, .int .u8 0, .int .u8 0, .int .u8 0, .int .u8 0, .int .u8 0, .int .u8 0, .int .u8 0, .int .u8 0, .int .u8 0, .int .u8 0, .int .u8 0, .int .u8 0, .int .u8 0, .int .u8 0, .int .u8 0, .int .u8 0, .int .u8 0, .int .u8 0, .int .u8 0, .int .u8 0, .int .u8 0, .int .u8 0, .int .u8 0, .int .u8 0] 40)).alloc (.cells #[.int .u8 0, .int .u8 0, .int .u8 0, .int .u8 0, .int .u8 0, .int .u8 0, .int .u8 0, .int .u8 0, .int .u8 0, .int .u8 0, .int .u8 0, .int .u8 0, .int .u8 0, .int .u8 0, .int .u8 0, .int .u8 0, .int .u8 0, .int .u8 0, .int .u8 0, .int .u8 0, .int .u8 0, .int .u8 0, .int .u8 0, .int .u8 0, .int .u8 0, .int .u8 0, .int .u8 0, .int .u8 0, .int .u8 0, .int .u8 0, .int .u8 0, .int .u8 0, .int .u8 0, .int .u8 0, .int .u8 0, .int .u8 0, .int .u8 0, .int .u8 0, .int .u8 0, .int .u8 0, .int .u8 0, .int .u8 0, .int .u8 0, .int .u8 0, .int .u8 0, .int .u8 0, .int .u8 0, .int .u8 0, .int .u8 0, .int .u8 0, .int .u8 0, .int .u8 0, .int .u8 0, .int .u8 0, .int .u8 0, .int .u8 0, .int .u8 0, .int .u8 0, .int .u8 0, .int .u8 0, .int .u8 0, .int .u8 0, .int .u8 0, .int .u8 0] 40)) w.heap.size 0 .u8 (List.replicate 64 0) ∧
    Arr ((w.alloc (.cells #[.int .u8 0, .int .u8 0, .int .u8 0, .int .u8 0, .int .u8 0, .int .u8 0, .int .u8 0, .int .u8 0, .int .u8 0, .int .u8 0, .int .u8 0, .int .u8 0, .int .u8 0, .int .u8 0, .int .u8 0, .int .u8 0, .int .u8 0, .int .u8 0, .int .u8 0, .int .u8 0, .int .u8 0, .int .u8 0, .int .u8 0, .int .u8 0, .int .u8 0, .int .u8 0, .int .u8 0, .int .u8 0, .int .u8 0, .int .u8 0, .int .u8 0, .int .u8 0, .int .u8 0, .int .u8 0, .int .u8 0, .int .u8 0, .int .u8 0, .int .u8 0, .int .u8 0, .int .u8 0, .int .u8 0, .int .u8 0, .int .u8 0, .int .u8 0, .int .u8 0, .int .u8 0, .int .u8 0, .int .u8 0, .int .u8 0, .int .u8 0, .int .u8 0, .int .u8 0, .int .u8 0, .int .u8 0, .int .u8 0, .int .u8 0, .int .u8 0, .int .u8 0, .int .u8 0, .int .u8 0, .int .u8 0, .int .u8 0, .int .u8 0, .int .u8 0] 40)).alloc (.cells #[.int .u8 0, .int .u8 0, .int .u8 0, .int .u8 0, .int .u8 0, .int .u8 0, .int .u8 0, .int .u8 0, .int .u8 0, .int .u8 0, .int .u8 0, .int .u8 0, .int .u8 0, .int .u8 0, .int .u8 0, .int .u8 0, .int .u8 0, .int .u8 0, .int .u8 0, .int .u8 0, .int .u8 0, .int .u8 0, .int .u8 0, .int .u8 0, .int .u8 0, .int .u8 0, .int .u8 0, .int .u8 0, .int .u8 0, .int .u8 0, .int .u8 0, .int .u8 0, .int .u8 0, .int .u8 0, .int .u8 0, .int .u8 0, .int .u8 0, .int .u8 0, .int .u8 0, .int .u8 0, .int .u8 0, .int .u8 0, .int .u8 0, .int .u8 0, .int .u8 0, .int .u8 0, .int .u8 0, .int .u8 0, .int .u8 0, .int .u8 0, .int .u8 0, .int .u8 0, .int .u8 0, .int .u8 0, .int .u8 0, .int .u8 0, .int .u8 0, .int .u8 0, .int .u8 0, .int .u8 0, .int .u8 0, .int .u8 0, .int .u8 0, .int .u8 0] 40)) (w.heap.size + 1) 0 .u8 (List.replicate 64 0) := by
  refine ⟨((Below.refl _ _).alloc (Nat.le_refl _) _).alloc (by rw [alloc_size]; omega) _, (Arr.new w .u8 (List.replicate 64 0) _).alloc _, ?_⟩
  have := Arr.new (w.alloc (.cells #[.int .u8 0, .int .u8 0, .int .u8 0, .int .u8 0, .int .u8 0, .int .u8 0, .int .u8 0, .int .u8 0, .int .u8 0, .int .u8 0, .int .u8 0, .int .u8 0, .int .u8 0, .int .u8 0, .int .u8 0, .int .u8 0, .int .u8 0, .int .u8 0, .int .u8 0, .int .u8 0, .int .u8 0, .int .u8 0, .int .u8 0, .int .u8 0, .int .u8 0, .int .u8 0, .int .u8 0, .int .u8 0, .int .u8 0, .int .u8 0, .int .u8 0, .int .u8 0, .int .u8 0, .int .u8 0, .int .u8 0, .int .u8 0, .int .u8 0, .int .u8 0, .int .u8 0, .int .u8 0, .int .u8 0, .int .u8 0, .int .u8 0, .int .u8 0, .int .u8 0, .int .u8 0, .int .u8 0, .int .u8 0, .int .u8 0, .int .u8 0, .int .u8 0, .int .u8 0, .int .u8 0, .int .u8 0, .int .u8 0, .int .u8 0, .int .u8 0, .int .u8 0, .int .u8 0, .int .u8 0, .int .u8 0, .int .u8 0, .int .u8 0, .int .u8 0] 40)) .u8 (List.replicate 64 0) 40
  rw [alloc_size] at this
  exact this

set_option maxRecDepth 100000 in
set_option maxHeartbeats 1000000 in
theorem keyBlock_short (w : World) (v : Value) (k : List Int) (hv : Bytes w v k) (hs : k.length ≤ 64) :
    Calls Tryd.prog 21 #[v] w fun e w' => e = .returned (.agg (vals .u8 (keyI k)).toArray) ∧ Below w.heap.size w w' := by
  have hsh : shortI k = k := by simp [shortI]; omega
  have HKL := hide (keyI_length k)
  have HE : Hid (keyI k = k ++ List.replicate (64 - k.length) 0) := hide (by rw [keyI, hsh])
  have HV := hide hv
  have HS := hide hs
  obtain ⟨a, cap, rfl, hc1, hc2⟩ := hv.form
  have hb : (k.length : Int) ≤ 64 := by omega
  clear hv hs hsh
  generalize keyI k = KK at *
  go_enter Tryd.func21, Tryd.ntmps21
  go_upto_region 2 with fail
  have hbn := blocks_new w
  generalize (w.alloc (.cells #[.int .u8 0, .int .u8 0, .int .u8 0, .int .u8 0, .int .u8 0, .int .u8 0, .int .u8 0, .int .u8 0, .int .u8 0, .int .u8 0, .int .u8 0, .int .u8 0, .int .u8 0, .int .u8 0, .int .u8 0, .int .u8 0, .int .u8 0, .int .u8 0, .int .u8 0, .int .u8 0, .int .u8 0, .int .u8 0, .int .u8 0, .int .u8 0, .int .u8 0, .int .u8 0, .int .u8 0, .int .u8 0, .int .u8 0, .int .u8 0, .int .u8 0, .int .u8 0, .int .u8 0, .int .u8 0, .int .u8 0, .int .u8 0, .int .u8 0, .int .u8 0, .int .u8 0, .int .u8 0, .int .u8 0, .int .u8 0, .int .u8 0, .int .u8 0, .int .u8 0, .int .u8 0, .int .u8 0, .int .u8 0, .int .u8 0, .int .u8 0, .int .u8 0, .int .u8 0, .int .u8 0, .int .u8 0, .int .u8 0, .int .u8 0, .int .u8 0, .int .u8 0, .int .u8 0, .int .u8 0, .int .u8 0, .int .u8 0, .int .u8 0, .int .u8 0] 40)).alloc (.cells #[.int .u8 0, .int .u8 0, .int .u8 0, .int .u8 0, .int .u8 0, .int .u8 0, .int .u8 0, .int .u8 0, .int .u8 0, .int .u8 0, .int .u8 0, .int .u8 0, .int .u8 0, .int .u8 0, .int .u8 0, .int .u8 0, .int .u8 0, .int .u8 0, .int .u8 0, .int .u8 0, .int .u8 0, .int .u8 0, .int .u8 0, .int .u8 0, .int .u8 0, .int .u8 0, .int .u8 0, .int .u8 0, .int .u8 0, .int .u8 0, .int .u8 0, .int .u8 0, .int .u8 0, .int .u8 0, .int .u8 0, .int .u8 0, .int .u8 0, .int .u8 0, .int .u8 0, .int .u8 0, .int .u8 0, .int .u8 0, .int .u8 0, .int .u8 0, .int .u8 0, .int .u8 0, .int .u8 0, .int .u8 0, .int .u8 0, .int .u8 0, .int .u8 0, .int .u8 0, .int .u8 0, .int .u8 0, .int .u8 0, .int .u8 0, .int .u8 0, .int .u8 0, .int .u8 0, .int .u8 0, .int .u8 0, .int .u8 0, .int .u8 0, .int .u8 0] 40) = W at *
  have HB := hide hbn.1
  have HR : Hid (W.there w.heap.size 0 64) := hide (by simpa using hbn.2.1.2)
  have HZ := hide hbn.2.2
  have HT : Hid (W.there (w.heap.size + 1) 0 64) := hide (by simpa using hbn.2.2.2)
  have HV1 := hide (HV.out.below hbn.1)
  have HA : Hid (Arr (W.setCells (w.heap.size + 1) 0 (vals .u8 k)) (w.heap.size + 1) 0 .u8 KK) := hide (by rw [HE.out]; exact zeros_over hbn.2.2 k HS.out)
  have HR1 : Hid ((W.setCells (w.heap.size + 1) 0 (vals .u8 k)).there w.heap.size 0 64) := hide (World.there_setCells HR.out _ _ _)
  have HB1 : Hid (Below w.heap.size w (W.setCells (w.heap.size + 1) 0 (vals .u8 k))) := hide (below_sets (by omega) _ _ _ hbn.1)
  clear hbn
  go_wp2_with (first | (refine wp_copy rfl (.tmp 12) (.tmp 13) rfl _ 0 64 64 rfl _ k rfl HV1.out HS.out HT.out ?_) | (refine wp_load_arr rfl 40 (.tmp 3) rfl _ 0 rfl .u8 KK HA.out _ Tryd.underlying40 rfl 64 info_b HKL.out ?_) | (refine wp_store_arr rfl 40 (.tmp 2) (.tmp 15) rfl _ 0 .u8 KK rfl rfl 64 HR1.out info_b HKL.out ?_))
  refine ret_arr 2 40 rfl _ 0 rfl .u8 KK (Arr.put (by rw [HKL.out]; exact HR1.out)) _ Tryd.underlying40 rfl 64 info_b HKL.out rfl ⟨rfl, below_sets (Nat.le_refl _) _ _ _ HB1.out⟩

set_option maxRecDepth 100000 in
set_option maxHeartbeats 1000000 in
theorem keyBlock_long (w : World) (v : Value) (k : List Int) (hv : Bytes w v k) (hk : Ks w) (hs : 64 < k.length) (hsz : k.length ≤ 100000000) :
    Calls Tryd.prog 21 #[v] w fun e w' => e = .returned (.agg (vals .u8 (keyI k)).toArray) ∧ Below w.heap.size w w' := by
  have hsh : shortI k = digest k := by simp [shortI]; omega
  have HKL := hide (keyI_length k)
  have HDL := hide (digest_length k)
  have HE : Hid (keyI k = digest k ++ List.replicate (64 - (digest k).length) 0) := hide (by rw [keyI, hsh])
  have HV := hide hv
  have HK := hide hk
  have S1 := hide (fun wx p (h : Bytes wx p k) (j : Ks wx) => sum_one wx p k h j hsz)
  obtain ⟨a, cap, rfl, hc1, hc2⟩ := hv.form
  have hb : (64 : Int) < (k.length : Int) := by omega
  clear hv hs hsh hk
  generalize keyI k = KK at *
  generalize digest k = D at *
  go_enter Tryd.func21, Tryd.ntmps21
  go_upto_region 2 with fail
  have hbn := blocks_new w
  generalize (w.alloc (.cells #[.int .u8 0, .int .u8 0, .int .u8 0, .int .u8 0, .int .u8 0, .int .u8 0, .int .u8 0, .int .u8 0, .int .u8 0, .int .u8 0, .int .u8 0, .int .u8 0, .int .u8 0, .int .u8 0, .int .u8 0, .int .u8 0, .int .u8 0, .int .u8 0, .int .u8 0, .int .u8 0, .int .u8 0, .int .u8 0, .int .u8 0, .int .u8 0, .int .u8 0, .int .u8 0, .int .u8 0, .int .u8 0, .int .u8 0, .int .u8 0, .int .u8 0, .int .u8 0, .int .u8 0, .int .u8 0, .int .u8 0, .int .u8 0, .int .u8 0, .int .u8 0, .int .u8 0, .int .u8 0, .int .u8 0, .int .u8 0, .int .u8 0, .int .u8 0, .int .u8 0, .int .u8 0, .int .u8 0, .int .u8 0, .int .u8 0, .int .u8 0, .int .u8 0, .int .u8 0, .int .u8 0, .int .u8 0, .int .u8 0, .int .u8 0, .int .u8 0, .int .u8 0, .int .u8 0, .int .u8 0, .int .u8 0, .int .u8 0, .int .u8 0, .int .u8 0] 40)).alloc (.cells #[.int .u8 0, .int .u8 0, .int .u8 0, .int .u8 0, .int .u8 0, .int .u8 0, .int .u8 0, .int .u8 0, .int .u8 0, .int .u8 0, .int .u8 0, .int .u8 0, .int .u8 0, .int .u8 0, .int .u8 0, .int .u8 0, .int .u8 0, .int .u8 0, .int .u8 0, .int .u8 0, .int .u8 0, .int .u8 0, .int .u8 0, .int .u8 0, .int .u8 0, .int .u8 0, .int .u8 0, .int .u8 0, .int .u8 0, .int .u8 0, .int .u8 0, .int .u8 0, .int .u8 0, .int .u8 0, .int .u8 0, .int .u8 0, .int .u8 0, .int .u8 0, .int .u8 0, .int .u8 0, .int .u8 0, .int .u8 0, .int .u8 0, .int .u8 0, .int .u8 0, .int .u8 0, .int .u8 0, .int .u8 0, .int .u8 0, .int .u8 0, .int .u8 0, .int .u8 0, .int .u8 0, .int .u8 0, .int .u8 0, .int .u8 0, .int .u8 0, .int .u8 0, .int .u8 0, .int .u8 0, .int .u8 0, .int .u8 0, .int .u8 0, .int .u8 0] 40) = W at *
  have HB := hide hbn.1
  have HR := hide hbn.2.1
  have HZ := hide hbn.2.2
  have HV1 := hide (HV.out.below hbn.1)
  clear hbn
  go_wp2_with fail
  refine (S1.out W _ HV1.out (HK.out.on HB.out)).mono ?_
  rintro e w1 ⟨rfl, hbel1⟩
  have HB1 := hide (below_on HB.out hbel1)
  have HR1 := hide (HR.out.on hbel1)
  have HZ1 := hide (HZ.out.on hbel1)
  clear hbel1 HB HR HZ HV1
  have KP := hide (hash_kept w1 D HDL.out)
  go_upto_region 4 with (refine wp_store_arr rfl 27 (.tmp 4) (.tmp 10) rfl _ 0 .u8 D rfl rfl 32 (hash_there _) info_h HDL.out ?_)
  generalize (w1.alloc (.cells #[.int .u8 0, .int .u8 0, .int .u8 0, .int .u8 0, .int .u8 0, .int .u8 0, .int .u8 0, .int .u8 0, .int .u8 0, .int .u8 0, .int .u8 0, .int .u8 0, .int .u8 0, .int .u8 0, .int .u8 0, .int .u8 0, .int .u8 0, .int .u8 0, .int .u8 0, .int .u8 0, .int .u8 0, .int .u8 0, .int .u8 0, .int .u8 0, .int .u8 0, .int .u8 0, .int .u8 0, .int .u8 0, .int .u8 0, .int .u8 0, .int .u8 0, .int .u8 0] 27)).setCells w1.heap.size 0 (vals .u8 D) = W2 at *
  have HB2 := hide (below_on HB1.out KP.out.1)
  have hR2 := HR1.out.on KP.out.1
  have hZ2 := HZ1.out.on KP.out.1
  have HD2 := hide (KP.out.2.bytes32 HDL.out)
  have HT : Hid (W2.there (w.heap.size + 1) 0 64) := hide (by simpa using hZ2.2)
  have HA : Hid (Arr (W2.setCells (w.heap.size + 1) 0 (vals .u8 D)) (w.heap.size + 1) 0 .u8 KK) := hide (by rw [HE.out]; exact zeros_over hZ2 D (by rw [HDL.out]; omega))
  have HR3 : Hid ((W2.setCells (w.heap.size + 1) 0 (vals .u8 D)).there w.heap.size 0 64) := hide (by have := World.there_setCells hR2.2 (w.heap.size + 1) 0 (vals .u8 D); simpa using this)
  have HB3 : Hid (Below w.heap.size w (W2.setCells (w.heap.size + 1) 0 (vals .u8 D))) := hide (below_sets (by omega) _ _ _ HB2.out)
  clear hR2 hZ2 KP
  generalize w1.heap.size = g1 at *
  go_wp2_with (first | (refine wp_copy rfl (.tmp 12) (.tmp 13) rfl _ 0 64 64 rfl _ D rfl HD2.out (by rw [HDL.out]; omega) HT.out ?_) | (refine wp_load_arr rfl 40 (.tmp 3) rfl _ 0 rfl .u8 KK HA.out _ Tryd.underlying40 rfl 64 info_b HKL.out ?_) | (refine wp_store_arr rfl 40 (.tmp 2) (.tmp 15) rfl _ 0 .u8 KK rfl rfl 64 HR3.out info_b HKL.out ?_))
  refine ret_arr 2 40 rfl _ 0 rfl .u8 KK (Arr.put (by rw [HKL.out]; exact HR3.out)) _ Tryd.underlying40 rfl 64 info_b HKL.out rfl ⟨rfl, below_sets (Nat.le_refl _) _ _ _ HB3.out⟩

/-- mac.keyBlock. -/
theorem keyBlock_any (w : World) (v : Value) (k : List Int) (hv : Bytes w v k) (hk : Ks w) (hsz : k.length ≤ 100000000) :
    Calls Tryd.prog 21 #[v] w fun e w' => e = .returned (.agg (vals .u8 (keyI k)).toArray) ∧ Below w.heap.size w w' := by
  by_cases h : k.length ≤ 64
  · exact keyBlock_short w v k hv h
  · exact keyBlock_long w v k hv hk (by omega) hsz

end Go.Proofs.YtknijlajopmjaaaDoor
