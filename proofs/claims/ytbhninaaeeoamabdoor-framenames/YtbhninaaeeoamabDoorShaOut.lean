/-
  What sha.asBytes answers at this program: a state as a sum.
-/
import Derived.Test.YtbhninaaeeoamabDoorShaBlock
namespace Go.Proofs.YtbhninaaeeoamabDoor
open Go.RowKit

/-- A sum of which the first k numbers stand. -/
def outs (s : List Int) (k : Nat) : List Int := (s.take k).flatMap outI ++ List.replicate (32 - 4 * k) 0
theorem flat_length (s : List Int) : (s.flatMap outI).length = 4 * s.length := by
  induction s with
  | nil => rfl
  | cons z s ih => simp only [List.flatMap_cons, List.length_append, ih, List.length_cons]; simp [outI]; omega
theorem outs_length (s : List Int) (hs : s.length = 8) (k : Nat) (hk : k ≤ 8) : (outs s k).length = 32 := by
  rw [outs, List.length_append, flat_length, List.length_take, List.length_replicate]
  omega
theorem outs_set (s : List Int) (hs : s.length = 8) (k : Nat) (hk : k < 8) :
    ((((outs s k).set (4 * k) (s.getD k 0 / 16777216 % 256)).set (4 * k + 1) (s.getD k 0 / 65536 % 256)).set (4 * k + 2) (s.getD k 0 / 256 % 256)).set (4 * k + 3) (s.getD k 0 % 256) = outs s (k + 1) := by
  have h1 : ((s.take k).flatMap outI).length = 4 * k := by rw [flat_length]; simp; omega
  have h2 : 32 - 4 * k = (32 - 4 * (k + 1)) + 1 + 1 + 1 + 1 := by omega
  have h3 : s.take (k + 1) = s.take k ++ [s.getD k 0] := by
    rw [List.take_succ_eq_append_getElem (by omega)]
    simp [List.getD, show k < s.length by omega]
  simp only [outs]
  rw [h3, h2, List.flatMap_append]
  simp only [List.replicate_succ]
  rw [List.set_append_right _ _ (by omega), h1, Nat.sub_self, List.set_cons_zero, List.set_append_right _ _ (by omega), h1, show 4 * k + 1 - 4 * k = 1 by omega, List.set_cons_succ, List.set_cons_zero,
    List.set_append_right _ _ (by omega), h1, show 4 * k + 2 - 4 * k = 2 by omega, List.set_cons_succ, List.set_cons_succ, List.set_cons_zero, List.set_append_right _ _ (by omega), h1, show 4 * k + 3 - 4 * k = 3 by omega, List.set_cons_succ, List.set_cons_succ, List.set_cons_succ, List.set_cons_zero]
  simp [outI]
theorem outs_zero (s : List Int) : outs s 0 = List.replicate 32 0 := by simp [outs]
theorem outs_all (s : List Int) (hs : s.length = 8) : outs s 8 = s.flatMap outI := by rw [outs, List.take_of_length_le (by omega)]; simp
/-- What holds at the head of a round. -/
def Outing (w : World) (s : List Int) (i : Value) (wr : World) : Prop :=
  ∃ k : Nat, k ≤ 8 ∧ i = .int .i64 k ∧ Below w.heap.size w wr ∧ Arr wr (w.heap.size + 1) 0 .u8 (List.replicate 32 0) ∧ Arr wr (w.heap.size + 1 + 1) 0 .u8 (outs s k)
theorem Outing.next {w wr : World} {s : List Int} {k : Nat} (hs : s.length = 8) (hk : k < 8) (hbel : Below w.heap.size w wr) (hR : Arr wr (w.heap.size + 1) 0 .u8 (List.replicate 32 0)) (hA : Arr wr (w.heap.size + 1 + 1) 0 .u8 (outs s k)) :
    Outing w s (.int .i64 ((k + 1 : Nat) : Int)) ((((wr.setCell ⟨w.heap.size + 1 + 1, 4 * k, none⟩ (.int .u8 (s.getD k 0 / 16777216 % 256))).setCell ⟨w.heap.size + 1 + 1, 4 * k + 1, none⟩ (.int .u8 (s.getD k 0 / 65536 % 256))).setCell ⟨w.heap.size + 1 + 1, 4 * k + 2, none⟩ (.int .u8 (s.getD k 0 / 256 % 256))).setCell ⟨w.heap.size + 1 + 1, 4 * k + 3, none⟩ (.int .u8 (s.getD k 0 % 256))) := by
  have hl := outs_length s hs k (by omega)
  refine ⟨k + 1, by omega, rfl, (((hbel.setCell (by simp; omega) _).setCell (by simp; omega) _).setCell (by simp; omega) _).setCell (by simp; omega) _,
    (((hR.beside _ _ (Or.inl (by simp))).beside _ _ (Or.inl (by simp))).beside _ _ (Or.inl (by simp))).beside _ _ (Or.inl (by simp)), ?_⟩
  rw [← outs_set s hs k hk]
  exact (((hA.set0 (4 * k) (by omega) _).set0 (4 * k + 1) (by simp; omega) _).set0 (4 * k + 2) (by simp; omega) _).set0 (4 * k + 3) (by simp; omega) _
theorem Outing.start (w : World) (s : List Int) (cs ds : Array Value) (hc : cs = (vals .u8 (List.replicate 32 0)).toArray) (hd : ds = (vals .u8 (List.replicate 32 0)).toArray) (t t' t'' : TypeId) :
    Arr (((w.alloc (.cells (vals .u32 s).toArray t)).alloc (.cells cs t')).alloc (.cells ds t'')) w.heap.size 0 .u32 s ∧ Outing w s (.int .i64 ((0 : Nat) : Int)) (((w.alloc (.cells (vals .u32 s).toArray t)).alloc (.cells cs t')).alloc (.cells ds t'')) := by
  subst hc hd
  refine ⟨((Arr.new w .u32 s t).alloc _).alloc _, 0, by omega, rfl, (((Below.refl _ _).alloc (Nat.le_refl _) _).alloc (by rw [alloc_size]; omega) _).alloc (by rw [alloc_size, alloc_size]; omega) _, ?_, ?_⟩
  · have := (Arr.new (w.alloc (.cells (vals .u32 s).toArray t)) .u8 (List.replicate 32 0) t').alloc (.cells (vals .u8 (List.replicate 32 0)).toArray t'')
    rwa [alloc_size] at this
  · have := Arr.new ((w.alloc (.cells (vals .u32 s).toArray t)).alloc (.cells (vals .u8 (List.replicate 32 0)).toArray t')) .u8 (List.replicate 32 0) t''
    rw [outs_zero]
    rwa [alloc_size, alloc_size] at this
theorem info_h : (Tryd.prog.info? 52).map (·.size) = some 32 := by kernel_rfl

set_option maxRecDepth 100000 in
set_option maxHeartbeats 1000000 in
theorem asBytes_any (s : List Int) (w : World) (hs : s.length = 8) :
    Calls Tryd.prog 35 #[.agg (vals .u32 s).toArray] w fun e w' => e = .returned (.agg (vals .u8 (s.flatMap outI)).toArray) ∧ Below w.heap.size w w' := by
  have IX := hide (fun k hk w => index_arr s hs k hk w)
  have HSL := hide hs
  clear hs
  go_enter Tryd.func35, Tryd.ntmps35
  go_upto_region 2 with fail
  obtain ⟨W, hW⟩ : ∃ W, W = (((w.alloc (.cells (vals .u32 s).toArray 66)).alloc (.cells #[.int .u8 0, .int .u8 0, .int .u8 0, .int .u8 0, .int .u8 0, .int .u8 0, .int .u8 0, .int .u8 0, .int .u8 0, .int .u8 0, .int .u8 0, .int .u8 0, .int .u8 0, .int .u8 0, .int .u8 0, .int .u8 0, .int .u8 0, .int .u8 0, .int .u8 0, .int .u8 0, .int .u8 0, .int .u8 0, .int .u8 0, .int .u8 0, .int .u8 0, .int .u8 0, .int .u8 0, .int .u8 0, .int .u8 0, .int .u8 0, .int .u8 0, .int .u8 0] 52)).alloc (.cells #[.int .u8 0, .int .u8 0, .int .u8 0, .int .u8 0, .int .u8 0, .int .u8 0, .int .u8 0, .int .u8 0, .int .u8 0, .int .u8 0, .int .u8 0, .int .u8 0, .int .u8 0, .int .u8 0, .int .u8 0, .int .u8 0, .int .u8 0, .int .u8 0, .int .u8 0, .int .u8 0, .int .u8 0, .int .u8 0, .int .u8 0, .int .u8 0, .int .u8 0, .int .u8 0, .int .u8 0, .int .u8 0, .int .u8 0, .int .u8 0, .int .u8 0, .int .u8 0] 52)) := ⟨_, rfl⟩
  rw [← hW]
  have hst : Arr W w.heap.size 0 .u32 s ∧ Outing w s (.int .i64 ((0 : Nat) : Int)) W := by rw [hW]; exact Outing.start w s _ _ rfl rfl _ _ _
  clear hW
  have HA := hide hst.1
  have HO := hide hst.2
  clear hst
  go_wp2_with (refine wp_load_arr rfl 66 (.tmp 1) rfl _ 0 rfl .u32 _ HA.out _ Tryd.underlying66 rfl 8 info_s HSL.out ?_)
  go_loopw [7] (fun i wr => Outing w s i wr) (fun i _ => 8 - (intOf i).toNat)
  case atStart => exact HO.out
  case round =>
    clear HA HO
    obtain ⟨k, hk, rfl, hbel, hR, hA⟩ := hrel
    by_cases hlt : k < 8
    · have R := hide (Outing.next HSL.out hlt hbel hR hA)
      have ix := fun wx => IX.out k hlt wx
      have hl := outs_length s HSL.out k (by omega)
      have c0 := hA.cell0 (4 * k) (by omega)
      have c1 := hA.cell0 (4 * k + 1) (by omega)
      have c2 := hA.cell0 (4 * k + 2) (by omega)
      have c3 := hA.cell0 (4 * k + 3) (by omega)
      have f0 := hA.free0 (4 * k) (by omega)
      have f1 := hA.free0 (4 * k + 1) (by omega)
      have f2 := hA.free0 (4 * k + 2) (by omega)
      have f3 := hA.free0 (4 * k + 3) (by omega)
      clear hbel hA hR hl
      generalize s.getD k 0 = x at *
      generalize (outs s k).getD (4 * k) 0 = y0 at *
      generalize (outs s k).getD (4 * k + 1) 0 = y1 at *
      generalize (outs s k).getD (4 * k + 2) 0 = y2 at *
      generalize (outs s k).getD (4 * k + 3) 0 = y3 at *
      go_wp2
      go_roundw
      case rel => first | exact R.out | ((repeat apply Exists.intro); exact ⟨R.out, rfl⟩)
      case measure => simp [intOf]; omega
    · obtain rfl : k = 8 := by omega
      rw [outs_all s HSL.out] at hA
      have HA := hide hA
      have HR : Hid (wr.there (w.heap.size + 1) 0 32) := hide (by simpa using hR.2)
      have HB := hide hbel
      clear hbel hA hR hlt hk
      have HLN : Hid ((s.flatMap outI).length = 32) := hide (by rw [flat_length, HSL.out])
      go_wp2_with (first | (refine wp_load_arr rfl 52 (.tmp 3) rfl _ 0 rfl .u8 _ HA.out _ Tryd.underlying52 rfl 32 info_h HLN.out ?_) | (refine wp_store_arr rfl 52 (.tmp 2) (.tmp 38) rfl _ 0 .u8 (s.flatMap outI) rfl rfl 32 HR.out info_h HLN.out ?_))
      refine ret_arr 2 52 rfl _ 0 rfl .u8 (s.flatMap outI) (Arr.put (by rw [HLN.out]; exact HR.out)) _ Tryd.underlying52 rfl 32 info_h HLN.out rfl ⟨rfl, below_sets (by omega) _ _ _ HB.out⟩

end Go.Proofs.YtbhninaaeeoamabDoor
